import Derived.WalkKit
import Derived.WalkLawsBesides
import Derived.WalkSpells
import Derived.ProofKit
import Derived.Lib.Hide
import Derived.LoopTactic
import Derived.Test.YtifhafjhmjkekaaRows
import Derived.SizedLaws
import Derived.OpenShut
import Derived.OrdersHeld
import Derived.RegionTactic
import Derived.Laws.Tables
import Derived.Laws.MakeOwn
import Derived.Laws.AppendOwn
import Derived.Laws.OwnMore
import Derived.Maps.AppendAt
import Derived.Lib.AppendZeros
import Derived.Deep.MidRow
import Derived.Laws.AppendOwnNone
import Derived.Shelf.RegionOpenPlain
import Derived.Lib.SliceRun
import Derived.Deep.LoopGhost
import Derived.Deep.QuietTactic
import Derived.BigQuiet
import Derived.Deep.DeepCutAuto
import Derived.BigRegion
set_option linter.unusedVariables false
set_option linter.unusedSimpArgs false
namespace Go.Proofs.Ytifhafjhmjkekaa
open Go.ChangeShapes Go.WideShapes Go.ChangeAt Go.RowKit
set_option maxRecDepth 100000
theorem ret_u64 {a b:Int} (h:a=b):Ending.returned (.int .u64 a)=.returned (.int .u64 b):=by rw [h]
theorem ret_i64 {a b:Int} (h:a=b):Ending.returned (.int .i64 a)=.returned (.int .i64 b):=by rw [h]
theorem ret_bool {a b:Bool} (h:a=b):Ending.returned (.bool a)=.returned (.bool b):=by rw [h]
def SlI (w:World) (k:IntKind) (v:Value) (l:List Int):Prop:=
 l.length≤140737488351232∧(∀x∈l,x=k.wrap x)∧∃a cap,v=.slice a l.length cap∧l.length≤cap∧
  ∀t,t<l.length→∃b off,a=some ⟨b,off,none⟩∧b<w.heap.size∧w.cell? ⟨b,off+t,none⟩=some (.int k (l.getD t 0))
theorem SlI.below {w w':World} {k:IntKind} {v:Value} {l:List Int} (h:SlI w k v l) (hb:Below w.heap.size w w'):SlI w' k v l:=by
 obtain ⟨h1,h2,a,cap,h3,h4,h5⟩:=h;refine ⟨h1,h2,a,cap,h3,h4,fun t ht=>?_⟩;obtain ⟨b,off,e,hlt,hc⟩:=h5 t ht;exact ⟨b,off,e,Nat.lt_of_lt_of_le hlt hb.size,(hb.cell (p:=⟨b,off+t,none⟩) hlt).trans hc⟩
theorem SlI.drew {w:World} {k:IntKind} {v:Value} {l:List Int} (h:SlI w k v l) (n:Nat):SlI (w.drewN n) k v l:=h
theorem SlI.open {w:World} {k:IntKind} {v:Value} {l:List Int} (h:SlI w k v l) (hne:l≠[]) :
  ∃b off cap,v=.slice (some ⟨b,off,none⟩) l.length cap∧l.length≤cap∧b<w.heap.size∧∀t,t<l.length→w.cell? ⟨b,off+t,none⟩=some (.int k (l.getD t 0)):=by
 obtain ⟨_,_,a,cap,rfl,h4,h5⟩:=h;obtain ⟨b,off,rfl,hlt,_⟩:=h5 0 (List.length_pos_iff.2 hne);refine ⟨b,off,cap,rfl,h4,hlt,fun t ht=>?_⟩;obtain ⟨b',off',e,_,hc⟩:=h5 t ht;simp only [Option.some.injEq,Addr.mk.injEq] at e;obtain ⟨rfl,rfl,_⟩:=e;exact hc
theorem SlI.len {w:World} {k:IntKind} {v:Value} {l:List Int} (h:SlI w k v l):∃a cap,v=.slice a l.length cap∧l.length≤cap:=by
 obtain ⟨_,_,a,cap,rfl,h4,h5⟩:=h;exact ⟨a,cap,rfl,h4⟩
theorem SlI.nil (w:World) (k:IntKind):SlI w k (.slice none 0 0) []:=
 ⟨by simp,by simp,none,0,rfl,Nat.le_refl _,fun t ht=>by simp at ht⟩
def OwnI (w:World) (base:Nat) (e:TypeId) (k:IntKind) (v:Value) (l:List Int):Prop:=
 w.ownsRow base e 1 v l.length (l.map (.int k))
theorem OwnI.shape {w:World} {base:Nat} {e:TypeId} {k:IntKind} {v:Value} {l:List Int} (h:OwnI w base e k v l) :
  (v=.slice none 0 0∧l=[])∨∃g cap,v=.slice (some ⟨g,0,none⟩) l.length cap∧base≤g∧g<w.heap.size∧l.length≤cap∧l.length≤maxLen:=by
 rcases h.2 with ⟨rfl,h2⟩ | ⟨g,cap,cur,rfl,h3,h4,h5,h6,_,_⟩
 ·exact .inl ⟨rfl,List.length_eq_zero_iff.1 h2⟩
 ·refine .inr ⟨g,cap,rfl,h3,?_,h5,by omega⟩
  exact (Array.getElem?_eq_some_iff.1 h4).1
theorem OwnI.cell {w:World} {base:Nat} {e:TypeId} {k:IntKind} {g n cap:Nat} {l:List Int} (h:OwnI w base e k (.slice (some ⟨g,0,none⟩) n cap) l) (i:Nat) (hi:i<l.length) :
  w.cell? ⟨g,i,none⟩=some (.int k (l.getD i 0))∧w.frozen? ⟨g,i,none⟩=false:=by
 have hn:n=l.length:=by
  rcases h.2 with ⟨h1,h2⟩ | ⟨g,cap,cur,h1,_⟩
  ·simp at h1
  ·simp only [Value.slice.injEq] at h1; exact h1.2.1
 subst hn;refine ⟨?_,h.frozenAt i⟩;rw [World.ownsRow.cellAt h i (by omega)];simp [List.getD_eq_getElem?_getD,hi]
theorem OwnI.store {w:World} {base:Nat} {e:TypeId} {k:IntKind} {g n cap:Nat} {l:List Int} (h:OwnI w base e k (.slice (some ⟨g,0,none⟩) n cap) l) (i:Nat) (x:Int) (hn:n=l.length) :
  OwnI (w.setCell ⟨g,i,none⟩ (.int k x)) base e k (.slice (some ⟨g,0,none⟩) n cap) (l.set i x):=by
 subst hn;have:=(World.ownsRow.stored h i (.int k x)).1;unfold OwnI;rw [List.length_set,List.map_set];exact this
theorem OwnI.drew {w:World} {base:Nat} {e:TypeId} {k:IntKind} {v:Value} {l:List Int} (h:OwnI w base e k v l) (n:Nat):OwnI (w.drewN n) base e k v l:=h
theorem OwnI.read {w:World} {base:Nat} {e:TypeId} {k:IntKind} {v:Value} {l:List Int} (h:OwnI w base e k v l) (hl:l.length≤140737488351232) (hw:∀x∈l,x=k.wrap x):SlI w k v l:=by
 rcases h.shape with ⟨rfl,rfl⟩ | ⟨g,cap,rfl,h1,h2,h3,h4⟩
 ·exact SlI.nil w k
 ·refine ⟨hl,hw,some ⟨g,0,none⟩,cap,rfl,h3,fun t ht=>⟨g,0,rfl,h2,?_⟩⟩
  rw [Nat.zero_add]; exact (h.cell t ht).1
theorem OwnI.kept {w w':World} {base:Nat} {e:TypeId} {k:IntKind} {v:Value} {l:List Int} {row:Option Nat} (h:OwnI w base e k v l) (hg:w.grownBy w' row) (hne:v.ownBlock=none∨v.ownBlock≠row):OwnI w' base e k v l:=World.ownsRow.kept h hg hne
theorem OwnI.below {w w':World} {base:Nat} {e:TypeId} {k:IntKind} {v:Value} {l:List Int} (h:OwnI w base e k v l) (hb:Below w.heap.size w w'):OwnI w' base e k v l:=by
 refine h.kept (row:=none) ⟨hb.os,hb.tape,hb.output,hb.size,fun j hj _=>hb.block j hj⟩ ?_;cases hv:v.ownBlock with
 | none=>exact .inl rfl
 | some x=>exact .inr (by simp)
theorem OwnI.alloc {w:World} {base:Nat} {e:TypeId} {k:IntKind} {v:Value} {l:List Int} (h:OwnI w base e k v l) (o:Obj):OwnI (w.alloc o) base e k v l:=World.ownsRow.alloc h o
theorem OwnI.ne {w:World} {base:Nat} {e:TypeId} {k:IntKind} {v:Value} {l:List Int} (h:OwnI w base e k v l) {g:Nat} (hg:g<base):v.ownBlock=none∨v.ownBlock≠some g:=by
 rcases h.shape with ⟨rfl,_⟩ | ⟨g',cap,rfl,h1,_⟩
 ·exact .inl rfl
 ·refine .inr ?_
  simp only [Value.ownBlock,ne_eq,Option.some.injEq];omega
theorem OwnI.nil (w:World) (base:Nat) (e:TypeId) (k:IntKind):OwnI w base e k (.slice none 0 0) []:=World.ownsRow_nil w base e 1
theorem grownBy_trans {a b c:World} {row:Option Nat} (h:a.grownBy b row) (h2:b.grownBy c row):a.grownBy c row:=
 ⟨h2.os.trans h.os,h2.tape.trans h.tape,h2.output.trans h.output,Nat.le_trans h.size h2.size,fun k hk hr=>(h2.block k (Nat.lt_of_lt_of_le hk h.size) hr).trans (h.block k hk hr)⟩
theorem grownBy_refl (a:World) (row:Option Nat):a.grownBy a row:=⟨rfl,rfl,rfl,Nat.le_refl _,fun _ _ _=>rfl⟩
theorem grownBy_of_below {a b c:World} {row:Option Nat} (h:a.grownBy b row) (h2:Below a.heap.size b c):a.grownBy c row:=
 ⟨h2.os.trans h.os,h2.tape.trans h.tape,h2.output.trans h.output,Nat.le_trans h.size h2.size,fun k hk hr=>(h2.block k hk).trans (h.block k hk hr)⟩
theorem grownBy_setCell (w:World) (a:Addr) (u:Value):w.grownBy (w.setCell a u) (some a.block):=
 ⟨rfl,rfl,rfl,by simp,fun k _ hk=>heap_setCell_other w a k u (fun e=>hk (by rw [e]))⟩
theorem OwnI.setOther {w:World} {base:Nat} {e:TypeId} {k:IntKind} {g n cap:Nat} {l:List Int} (h:OwnI w base e k (.slice (some ⟨g,0,none⟩) n cap) l) (a:Addr) (hne:g≠a.block) (u:Value) :
  OwnI (w.setCell a u) base e k (.slice (some ⟨g,0,none⟩) n cap) l:=
 h.kept (grownBy_setCell w a u) (.inr (by simpa [Value.ownBlock] using hne))
theorem OwnI.own_ge {w:World} {base:Nat} {e:TypeId} {k:IntKind} {v:Value} {l:List Int} (h:OwnI w base e k v l):∀j,v.ownBlock=some j→base≤j:=fun j hj=>(World.ownsRow.lt h j hj).1
def OwnB (w:World) (base:Nat) (e:TypeId) (v:Value) (l:List Bool):Prop:=w.ownsRow base e 1 v l.length (l.map Value.bool)
theorem OwnB.cell {w:World} {base:Nat} {e:TypeId} {g n cap:Nat} {l:List Bool} (h:OwnB w base e (.slice (some ⟨g,0,none⟩) n cap) l) (i:Nat) (hi:i<l.length) :
  w.cell? ⟨g,i,none⟩=some (.bool (l.getD i false))∧w.frozen? ⟨g,i,none⟩=false:=by
 have hn:n=l.length:=by
  rcases h.2 with ⟨h1,h2⟩ | ⟨g,cap,cur,h1,_⟩
  ·simp at h1
  ·simp only [Value.slice.injEq] at h1; exact h1.2.1
 subst hn;refine ⟨?_,h.frozenAt i⟩;rw [World.ownsRow.cellAt h i (by omega)];simp [List.getD_eq_getElem?_getD,hi]
theorem OwnB.store {w:World} {base:Nat} {e:TypeId} {g n cap:Nat} {l:List Bool} (h:OwnB w base e (.slice (some ⟨g,0,none⟩) n cap) l) (i:Nat) (x:Bool) (hn:n=l.length) :
  OwnB (w.setCell ⟨g,i,none⟩ (.bool x)) base e (.slice (some ⟨g,0,none⟩) n cap) (l.set i x):=by
 subst hn;have:=(World.ownsRow.stored h i (.bool x)).1;unfold OwnB;rw [List.length_set,List.map_set];exact this
theorem below_then {w a b:World} (h:Below w.heap.size w a) (hb:Below a.heap.size a b):Below w.heap.size w b:=h.trans (hb.mono h.size)
theorem below_new {w a:World} (h:Below w.heap.size w a) (o:Obj):Below w.heap.size w (a.alloc o):=h.alloc h.size o
def offB (g:Nat) (v:Value):Prop:=∀a n c,v=.slice (some a) n c→n=0∨a.block≠g
theorem offB.nil (g:Nat):offB g (.slice none 0 0):=fun a n c h=>by simp at h
theorem OwnI.off {w:World} {base:Nat} {e:TypeId} {k:IntKind} {v:Value} {l:List Int} (h:OwnI w base e k v l) {g:Nat} (hg:g<base):offB g v:=by
 intro a n c e;subst e;have:=h.own_ge a.block rfl;exact .inr (by omega)
theorem SlI.grown {w w':World} {k:IntKind} {v:Value} {l:List Int} {g:Nat} (h:SlI w k v l) (hg:w.grownBy w' (some g)) (ho:offB g v):SlI w' k v l:=by
 obtain ⟨h1,h2,a,cap,rfl,h4,h5⟩:=h;refine ⟨h1,h2,a,cap,rfl,h4,fun t ht=>?_⟩;obtain ⟨b,off,rfl,hlt,hc⟩:=h5 t ht;have hb:b≠g:=(ho _ _ _ rfl).resolve_left (by omega);exact ⟨b,off,rfl,Nat.lt_of_lt_of_le hlt hg.size,(World.cell?_of_block (a:=⟨b,off+t,none⟩) (hg.block b hlt (by simpa using hb))).trans hc⟩
theorem OwnI.mono_base {w:World} {base b':Nat} {e:TypeId} {k:IntKind} {v:Value} {l:List Int} (h:OwnI w base e k v l) (hb:b'≤base):OwnI w b' e k v l:=by
 refine ⟨h.1,?_⟩;rcases h.2 with h1 | ⟨g,cap,cur,h1,h2,h3⟩
 ·exact .inl h1
 ·exact .inr ⟨g,cap,cur,h1,Nat.le_trans hb h2,h3⟩
theorem i64_ok (x:Int) (h0:-9223372036854775808≤x) (h1:x≤9223372036854775807):x=IntKind.i64.wrap x:=by
 rw [IntKind.wrap_i64]; omega
theorem keepR {w w':World} {b:Nat} {o:Obj} (hb:Below w.heap.size w w') (h:Hid (w.heap[b]?=some o)):Hid (w'.heap[b]?=some o):=(hb.block b (Array.getElem?_eq_some_iff.1 h.out).1).trans h.out
theorem ltR {w:World} {b:Nat} {o:Obj} (h:Hid (w.heap[b]?=some o)):b<w.heap.size:=(Array.getElem?_eq_some_iff.1 h.out).1
theorem own:ownKnob Try.prog.godebug=none:=by kernel_rfl
theorem Try.laidOut:laidOutB Try.prog=true:=by kernel_rfl
theorem wrap_of_wf {k:IntKind} {n:Int} (h:(Lit.int k n).wf=true):n=k.wrap n:=by
 cases k <;> simp [Lit.wf,IntKind.min,IntKind.max,IntKind.signed,IntKind.bits] at h <;> simp [IntKind.wrap,IntKind.bits,IntKind.signed] <;> omega
set_option maxRecDepth 100000 in
theorem view_sl {H:Type} {enc:TypeId × Value→H} {W:World} {t e:TypeId} {k:IntKind} {v:Value} {d:DataW H} {p:List MemPlace} (ht:Try.prog.underlying t=some (.slice e)) (he:Try.prog.underlying e=some (.int k)) (hc:Try.prog.cellsOf e=1)
  (hsz:∀elems sp,d=.slice elems sp→(elems.length+sp.length) * Try.prog.bytesOf e≤reachBytes) (hby:1≤Try.prog.bytesOf e)
  (hval:Value.okWide Try.prog W .any 0 t v) (hd:DataW.Trod enc Try.prog W 0 (fun _=>true) true t v d p):∃l,SlI W k v l:=by
 obtain ⟨a0,len,cap,rfl⟩:=okWide_slice ht hval;obtain ⟨fuel,hf⟩:=hd;rcases open_ints ht he hc hf with ⟨hcs,hx⟩ | ⟨a,len',cap',zs,hcs,_,hl,hm,hz,hx,hcell,hwz⟩
 ·simp [Value.cells] at hcs
  obtain ⟨rfl,rfl,rfl⟩:=hcs;exact ⟨[],SlI.nil _ _⟩
 ·simp [Value.cells] at hcs
  obtain ⟨rfl,rfl,rfl⟩:=hcs;simp only [Prod.mk.injEq] at hx;obtain ⟨rfl,rfl⟩:=hx;simp only [if_true] at hz;have hle:len≤140737488351232:=by
   have h1:=hsz _ _ rfl;simp only [lits,List.length_map,List.length_take,List.length_drop,reachBytes] at h1;have h2:(min len zs.length+(zs.length - len)) * 1≤(min len zs.length+(zs.length - len)) * Try.prog.bytesOf e:=Nat.mul_le_mul_left _ hby;omega
  have hlen:(zs.take len).length=len:=by simp; omega
  refine ⟨zs.take len,by omega,fun x hx=>wrap_of_wf (hwz x (List.mem_of_mem_take hx)),some a,cap,by rw [hlen],by omega,fun i hi=>?_⟩;have hi':i<len:=by omega
  have hc:=hcell i (by omega);have h0:=hcell 0 (by omega);obtain ⟨b,off,sp⟩:=a;have hsp:sp=none:=by simpa [Addr.add] using World.cell?_spot h0
  subst hsp;rw [add_plain] at hc;refine ⟨b,off,rfl,by simpa using World.block_lt_of_cell? W _ hc,?_⟩;rw [hc];simp [List.getD_eq_getElem?_getD,hi']
theorem Try.info_i64:(Try.prog.info? 3).map (fun i=>(i.zero,i.size,i.bytes))=some (some (.int .i64 0),1,8):=by kernel_rfl
theorem step_append_i64 {w:World} {ops:Array Oper} {o:Oper} {a:Act} {K:Act→World→Prop} {Q:Exit→Act→World→Prop} {E:Prop}
  (hgd:o.guard=none) (s x:Operand) (hop:o.op=Op.call { callee:=Callee.builtin Builtin.append,args:=#[s,x],argTypes:=#[28,28] })
  (base:Nat) (v:Value) (l:List Int) (hs:a.eval s=v) (hown:OwnI w base 3 .i64 v l) (y:Int) (g:Nat)
  (hx:a.eval x=.slice (some ⟨g,0,none⟩) 1 1) (hcell:w.cell? ⟨g,0,none⟩=some (.int .i64 y)) (hl:l.length≤1000000) (hb:base≤w.heap.size)
  (hK:∀v' w',OwnI w' base 3 .i64 v' (l ++ [y])→w.grownBy w' v.ownBlock→K (a.put o.dst v') w') :
  if Region.wanted o (yielded ops a.tmps)=true then Oper.wp Try.prog o a w K Q else E:=by
 have hw:Region.wanted o (yielded ops a.tmps)=true:=by simp [Region.wanted,hgd]
 rw [if_pos hw];obtain ⟨i0,hi,hz0,hz1,hz2⟩:=info_parts Try.info_i64;refine wp_append_own w s x _ hop base _ i0 (.int .i64 0) 1 _ (by kernel_rfl) hi hz0 hz1 rfl rfl (by decide) v l.length _ hs hown ⟨g,0,none⟩ 1 1 [.int .i64 y] hx rfl ?_ ?_ (by unfold maxLen; omega) (by rw [hz2]; omega) hb fun v' w' h1 h2 _=>hK v' w' ?_ h2
 ·intro j u hj
  match j,hj with
  | 0,hj=>simp at hj; subst hj; simpa [Addr.add] using hcell
 ·intro u hu; simp at hu; subst hu; rfl
 ·unfold OwnI
  rw [List.length_append,List.map_append];exact h1
theorem Try.info_u64:(Try.prog.info? 23).map (fun i=>(i.zero,i.size,i.bytes))=some (some (.int .u64 0),1,8):=by kernel_rfl
theorem step_append_u64 {w:World} {ops:Array Oper} {o:Oper} {a:Act} {K:Act→World→Prop} {Q:Exit→Act→World→Prop} {E:Prop}
  (hgd:o.guard=none) (s x:Operand) (hop:o.op=Op.call { callee:=Callee.builtin Builtin.append,args:=#[s,x],argTypes:=#[29,29] })
  (base:Nat) (v:Value) (l:List Int) (hs:a.eval s=v) (hown:OwnI w base 23 .u64 v l) (y:Int) (g:Nat)
  (hx:a.eval x=.slice (some ⟨g,0,none⟩) 1 1) (hcell:w.cell? ⟨g,0,none⟩=some (.int .u64 y)) (hl:l.length≤1000000) (hb:base≤w.heap.size)
  (hK:∀v' w',OwnI w' base 23 .u64 v' (l ++ [y])→w.grownBy w' v.ownBlock→K (a.put o.dst v') w') :
  if Region.wanted o (yielded ops a.tmps)=true then Oper.wp Try.prog o a w K Q else E:=by
 have hw:Region.wanted o (yielded ops a.tmps)=true:=by simp [Region.wanted,hgd]
 rw [if_pos hw];obtain ⟨i0,hi,hz0,hz1,hz2⟩:=info_parts Try.info_u64;refine wp_append_own w s x _ hop base _ i0 (.int .u64 0) 1 _ (by kernel_rfl) hi hz0 hz1 rfl rfl (by decide) v l.length _ hs hown ⟨g,0,none⟩ 1 1 [.int .u64 y] hx rfl ?_ ?_ (by unfold maxLen; omega) (by rw [hz2]; omega) hb fun v' w' h1 h2 _=>hK v' w' ?_ h2
 ·intro j u hj
  match j,hj with
  | 0,hj=>simp at hj; subst hj; simpa [Addr.add] using hcell
 ·intro u hu; simp at hu; subst hu; rfl
 ·unfold OwnI
  rw [List.length_append,List.map_append];exact h1
section
variable {P:Program} {ops:Array Oper} {Q:Exit→Act→World→Prop} {md:Region.Mode} {S:World→Prop} {k:Nat}
def wpAnyU (P:Program) (md:Region.Mode) (ops:Array Oper) (Q:Exit→Act→World→Prop) (S:World→Prop) (k:Nat):Nat→Array Bool→Act→World→Prop
 | 0,listed,a,w=>Region.ready md ops listed=[]∧Q .normal a w
 | fuel+1,listed,a,w=>
  (Region.ready md ops listed=[]→Q .normal a w)∧
  ∀i∈Region.ready md ops listed,wpOp P ops Q i (fun a' w'=>((listed.setIfInBounds i true).getD k true=false→S w')∧wpAnyU P md ops Q S k fuel (listed.setIfInBounds i true) a' w') a w
theorem wpAny_of_until:∀(fuel:Nat) (listed:Array Bool) (a:Act) (w:World),wpAnyU P md ops Q S k fuel listed a w→wpAny P md ops Q fuel listed a w
 | 0,_,_,_,h=>h
 | fuel+1,_,_,_,h=>⟨h.1,fun i hi=>wpOp_mono (fun a' w' h'=>wpAny_of_until fuel _ a' w' h'.2) (h.2 i hi)⟩
def waitsFor (md:Region.Mode) (ops:Array Oper) (k i:Nat):Bool:=k != i && (match ops[k]? with | some o=>o.after.any (fun e=>Region.binds md e && e.on == i) | none=>false)
theorem waitsFor_spec {i:Nat} (h:waitsFor md ops k i=true):k≠i∧∃o e,ops[k]?=some o∧e∈o.after∧Region.binds md e=true∧e.on=i:=by
 simp only [waitsFor,Bool.and_eq_true,bne_iff_ne,ne_eq] at h;obtain ⟨h1,h2⟩:=h;refine ⟨h1,?_⟩;cases ho:ops[k]? with
 | none=>rw [ho] at h2; cases h2
 | some o=>
  rw [ho] at h2;simp only [Array.any_eq_true] at h2;obtain ⟨j,hj,hh⟩:=h2;simp only [Bool.and_eq_true,beq_iff_eq] at hh;exact ⟨o,_,rfl,Array.getElem_mem hj,hh.1,hh.2⟩
theorem wpAnyU_first {i:Nat} {oi:Oper} {v:Value} (hi:ops[i]?=some oi) (hsel:∀(j:Nat) (o:Oper) cs b,ops[j]?=some o→o.op≠.select cs b)
  (hQ:∀c a w,Q (.panic c) (a.put oi.dst v) w→Q (.panic c) a w) (hk:waitsFor md ops k i=true) :
  ∀(fuel:Nat) (listed:Array Bool) (a:Act) (w:World),
   (∀j oj,ops[j]?=some oj→j≠i→listed.getD j true=false→(∀e∈oj.after,Region.binds md e=true→e.on≠i)→oi.apart ops oj=true)→
   i∈Region.ready md ops listed→listed.getD k true=false→YieldsIf P ops S oi v a→S w→
   wpAnyU P md ops Q S k fuel (listed.setIfInBounds i true) (a.put oi.dst v) w→wpAnyU P md ops Q S k (fuel+1) listed a w:=by
 obtain ⟨hki,ok,ek,hok,hek,hbk,honk⟩:=waitsFor_spec hk;intro fuel;induction fuel with
 | zero=>
  intro listed a w _ hr _ hy hS H;refine ⟨fun h=>(by rw [h] at hr; cases hr),fun j hj=>?_⟩;by_cases hji:j=i
  ·subst hji; exact hy.wpOp hi hS ⟨fun _=>hS,H⟩
  ·have:=ready_mono hj hji
   rw [H.1] at this;cases this
 | succ fuel ih=>
  intro listed a w hfree hr hkl hy hS H;refine ⟨fun h=>(by rw [h] at hr; cases hr),fun j hj=>?_⟩;by_cases hji:j=i
  ·subst hji; exact hy.wpOp hi hS ⟨fun _=>hS,H⟩
  ·have h1:=H.2 j (ready_mono hj hji)
   obtain ⟨hjun,oj,hoj,hall⟩:=mem_ready.1 hj;have hnot:∀e∈oj.after,Region.binds md e=true→e.on≠i:=fun e he hb heq=>by
    have h1:=hall e he hb;have h0:=(mem_ready.1 hr).1;rw [heq] at h1;rcases Nat.lt_or_ge i listed.size with h' | h'
    ·simp [h'] at h0 h1; rw [h0] at h1; cases h1
    ·simp [Array.getElem?_eq_none h'] at h1
   have hjk:j≠k:=fun e=>by
    subst e;rw [hok] at hoj;cases hoj;exact hnot ek hek hbk honk
   have h2:=wpOp_putIf hoj (hfree j oj hoj hji hjun hnot) (fun cs b=>hsel i oi cs b hi) (fun cs b=>hsel j oj cs b hoj) hQ hy h1;have hfree':∀k ok,ops[k]?=some ok→k≠i→(listed.setIfInBounds j true).getD k true=false→
     (∀e∈ok.after,Region.binds md e=true→e.on≠i)→oi.apart ops ok=true:=fun k ok hk hki hun hno=>by
    refine hfree k ok hk hki ?_ hno;by_cases hjk:j=k
    ·subst hjk; exact hjun
    ·rw [getD_set_ne true hjk] at hun; exact hun
   have hkj:(listed.setIfInBounds j true).getD k true=false:=by rw [getD_set_ne true hjk]; exact hkl
   have hkij:((listed.setIfInBounds i true).setIfInBounds j true).getD k true=false:=by rw [getD_set_ne true hjk,getD_set_ne true (Ne.symm hki)]; exact hkl
   refine wpOp_mono (fun a' w' h3=>⟨fun _=>h3.2.1 hkij,ih (listed.setIfInBounds j true) a' w' hfree' (ready_mono hr (Ne.symm hji)) hkj h3.1 (h3.2.1 hkij) ?_⟩) h2;rw [Array.setIfInBounds_comm _ _ hji];exact h3.2.2
theorem wpAnyU_firstW {i:Nat} {oi:Oper} {v:Value} (hi:ops[i]?=some oi) (hsel:∀(j:Nat) (o:Oper) cs b,ops[j]?=some o→o.op≠.select cs b)
  (hQ:∀c a w,Q (.panic c) (a.put oi.dst v) w→Q (.panic c) a w) (hki:k≠i) :
  ∀(fuel:Nat) (listed:Array Bool) (a:Act) (w:World),
   (∀j oj,ops[j]?=some oj→j≠i→listed.getD j true=false→(∀e∈oj.after,Region.binds md e=true→e.on≠i)→oi.apart ops oj=true)→
   i∈Region.ready md ops listed→YieldsIf P ops (fun _=>True) oi v a→(listed.getD k true=false→S w)→
   wpAnyU P md ops Q S k fuel (listed.setIfInBounds i true) (a.put oi.dst v) w→wpAnyU P md ops Q S k (fuel+1) listed a w:=by
 have hkk:∀l:Array Bool,(l.setIfInBounds i true).getD k true=l.getD k true:=fun l=>getD_set_ne true (Ne.symm hki);intro fuel;induction fuel with
 | zero=>
  intro listed a w _ hr hy hS H;refine ⟨fun h=>(by rw [h] at hr; cases hr),fun j hj=>?_⟩;by_cases hji:j=i
  ·subst hji; exact hy.wpOp hi trivial ⟨by rw [hkk]; exact hS,H⟩
  ·have:=ready_mono hj hji
   rw [H.1] at this;cases this
 | succ fuel ih=>
  intro listed a w hfree hr hy hS H;refine ⟨fun h=>(by rw [h] at hr; cases hr),fun j hj=>?_⟩;by_cases hji:j=i
  ·subst hji; exact hy.wpOp hi trivial ⟨by rw [hkk]; exact hS,H⟩
  ·have h1:=H.2 j (ready_mono hj hji)
   obtain ⟨hjun,oj,hoj,hall⟩:=mem_ready.1 hj;have hnot:∀e∈oj.after,Region.binds md e=true→e.on≠i:=fun e he hb heq=>by
    have h1:=hall e he hb;have h0:=(mem_ready.1 hr).1;rw [heq] at h1;rcases Nat.lt_or_ge i listed.size with h' | h'
    ·simp [h'] at h0 h1; rw [h0] at h1; cases h1
    ·simp [Array.getElem?_eq_none h'] at h1
   have h2:=wpOp_putIf hoj (hfree j oj hoj hji hjun hnot) (fun cs b=>hsel i oi cs b hi) (fun cs b=>hsel j oj cs b hoj) hQ hy h1;have hfree':∀k ok,ops[k]?=some ok→k≠i→(listed.setIfInBounds j true).getD k true=false→
     (∀e∈ok.after,Region.binds md e=true→e.on≠i)→oi.apart ops ok=true:=fun k ok hk hki hun hno=>by
    refine hfree k ok hk hki ?_ hno;by_cases hjk:j=k
    ·subst hjk; exact hjun
    ·rw [getD_set_ne true hjk] at hun; exact hun
   have hc:=Array.setIfInBounds_comm (xs:=listed) true true hji;refine wpOp_mono (fun a' w' h3=>?_) h2;have h4:(listed.setIfInBounds j true).getD k true=false→S w':=fun h0=>h3.2.1 (by rw [← hc,hkk]; exact h0);refine ⟨h4,ih (listed.setIfInBounds j true) a' w' hfree' (ready_mono hr (Ne.symm hji)) h3.1 h4 ?_⟩;rw [hc];exact h3.2.2
inductive ListAt {α:Type}:List α→Nat→α→Prop
 | zero {x:α} {l:List α}:ListAt (x :: l) 0 x
 | succ {x y:α} {l:List α} {n:Nat} (h:ListAt l n x):ListAt (y :: l) (n+1) x
theorem ListAt.get {α:Type} {l:List α} {n:Nat} {x:α} (h:ListAt l n x):l.toArray[n]?=some x:=by
 induction h with
 | zero=>simp
 | succ h ih=>simpa using ih
theorem wpAnyU_take {l:List Oper} (i:Nat) {oi:Oper} {v:Value} {fuel:Nat} {listed:Array Bool} {a:Act} {w:World} (hi:ListAt l i oi)
  (hs:Region.noSelect l.toArray=true) (hf:Region.free md l.toArray listed i=true) (hr:(Region.ready md l.toArray listed).contains i=true) (hk:waitsFor md l.toArray k i=true) (hkl:listed.getD k true=false)
  (hQ:∀c a w,Q (.panic c) (a.put oi.dst v) w→Q (.panic c) a w) (hS:S w) (hg:oi.guard=none) (hy:∀w,S w→(execOp a.eval oi).run P w=.ok (.value v) w)
  (h:wpAnyU P md l.toArray Q S k fuel (listed.setIfInBounds i true) (a.put oi.dst v) w):wpAnyU P md l.toArray Q S k (fuel+1) listed a w:=
 wpAnyU_first hi.get (Region.noSelect_spec hs) hQ hk fuel listed a w (Region.free_spec hi.get hf) (by simpa using hr) hkl (.inl ⟨by simp [Region.wanted,hg],hy⟩) hS h
theorem wpAnyU_takeW {l:List Oper} (i:Nat) {oi:Oper} {v:Value} {fuel:Nat} {listed:Array Bool} {a:Act} {w:World} (hi:ListAt l i oi)
  (hs:Region.noSelect l.toArray=true) (hf:Region.free md l.toArray listed i=true) (hr:(Region.ready md l.toArray listed).contains i=true) (hk:(k != i)=true)
  (hQ:∀c a w,Q (.panic c) (a.put oi.dst v) w→Q (.panic c) a w) (hS:listed.getD k true=false→S w) (hg:oi.guard=none) (hy:∀w,(execOp a.eval oi).run P w=.ok (.value v) w)
  (h:wpAnyU P md l.toArray Q S k fuel (listed.setIfInBounds i true) (a.put oi.dst v) w):wpAnyU P md l.toArray Q S k (fuel+1) listed a w:=
 wpAnyU_firstW hi.get (Region.noSelect_spec hs) hQ (by simpa using hk) fuel listed a w (Region.free_spec hi.get hf) (by simpa using hr) (.inl ⟨by simp [Region.wanted,hg],fun w _=>hy w⟩) hS h
theorem past_k {S:Prop} {l:Array Bool} {k:Nat} (h:l.getD k true=true):l.getD k true=false→S:=fun h0=>by rw [h] at h0; cases h0
def AllReadyU (P:Program) (md:Region.Mode) (ops:Array Oper) (Q:Exit→Act→World→Prop) (S:World→Prop) (k fuel:Nat) (listed:Array Bool) (a:Act) (w:World) (rs:List Nat):Prop:=
 ∀i∈rs,wpOp P ops Q i (fun a' w'=>((listed.setIfInBounds i true).getD k true=false→S w')∧wpAnyU P md ops Q S k fuel (listed.setIfInBounds i true) a' w') a w
theorem AllReadyU.nil {fuel:Nat} {listed:Array Bool} {a:Act} {w:World}:AllReadyU P md ops Q S k fuel listed a w []:=fun _ h=>by cases h
def ShutU (p:Prop):Prop:=p
theorem ShutU.out {p:Prop} (h:ShutU p):p:=h
theorem AllReadyU.cons {l:List Oper} {fuel:Nat} {listed:Array Bool} {a:Act} {w:World} {i:Nat} {o:Oper} {rs:List Nat} (ho:ListAt l i o) (hg:o.guard=none)
  (h:∀K':Act→World→Prop,ShutU (∀a w,S w→(S w→wpAnyU P md l.toArray Q S k fuel (listed.setIfInBounds i true) a w)→K' a w)→if Region.wanted o (yielded l.toArray a.tmps)=true then Oper.wp P o a w K' Q else K' (a.put o.dst undef) w)
  (hs:AllReadyU P md l.toArray Q S k fuel listed a w rs):AllReadyU P md l.toArray Q S k fuel listed a w (i :: rs):=fun j hj=>by
 rcases List.mem_cons.1 hj with rfl | hj
 ·exact wpOp_step ho.get (fun K' hK=>h K' (fun a w hS hW=>hK a w ⟨fun _=>hS,hW hS⟩))
 ·exact hs j hj
theorem AllReadyU.free {l:List Oper} {fuel:Nat} {listed:Array Bool} {a:Act} {w:World} {i:Nat} {o:Oper} {rs:List Nat} (ho:ListAt l i o) (hg:o.guard=none)
  (hk:(listed.setIfInBounds i true).getD k true=true)
  (h:∀K':Act→World→Prop,ShutU (∀a w,wpAnyU P md l.toArray Q S k fuel (listed.setIfInBounds i true) a w→K' a w)→if Region.wanted o (yielded l.toArray a.tmps)=true then Oper.wp P o a w K' Q else K' (a.put o.dst undef) w)
  (hs:AllReadyU P md l.toArray Q S k fuel listed a w rs):AllReadyU P md l.toArray Q S k fuel listed a w (i :: rs):=fun j hj=>by
 rcases List.mem_cons.1 hj with rfl | hj
 ·exact wpOp_step ho.get (fun K' hK=>h K' (fun a w hW=>hK a w ⟨fun h0=>(by rw [hk] at h0; cases h0),hW⟩))
 ·exact hs j hj
theorem wpAnyU_ready {rs:List Nat} {fuel:Nat} {listed:Array Bool} {a:Act} {w:World} (hr:Region.ready md ops listed=rs) (hne:rs.isEmpty=false)
  (h:AllReadyU P md ops Q S k fuel listed a w rs):wpAnyU P md ops Q S k (fuel+1) listed a w:=
 by
 refine ⟨fun h0=>?_,?_⟩
 ·rw [hr] at h0
  subst h0;cases hne
 ·rw [hr]
  exact h
theorem wpAnyU_done {listed:Array Bool} {a:Act} {w:World} (hr:Region.ready md ops listed=[]) (h:Q .normal a w) :
  ∀fuel,wpAnyU P md ops Q S k fuel listed a w
 | 0=>⟨hr,h⟩
 | _+1=>⟨fun _=>h,by rw [hr]; simp⟩
theorem wp_region_until (S:World→Prop) (k:Nat) {l:List Oper} (n:Nat) {id:Nat} {a:Act} {w:World} (hm:P.follows .mixedOrders=true) (hn:l.toArray.size=n)
  (h:wpAnyU P .any l.toArray Q S k n (Array.replicate n false) a w.drew):(Code.region id l.toArray true).wp P Q a w:=by
 subst hn;exact wp_region_any hm (wpAny_of_until _ _ _ _ h)
end
theorem la0 {α:Type} {x:α} {l:List α}:ListAt (x :: l) 0 x:=.zero
theorem la1 {α:Type} {x y0:α} {l:List α}:ListAt (y0 :: x :: l) 1 x:=.succ la0
theorem la2 {α:Type} {x y0 y1:α} {l:List α}:ListAt (y0 :: y1 :: x :: l) 2 x:=.succ la1
theorem la3 {α:Type} {x y0 y1 y2:α} {l:List α}:ListAt (y0 :: y1 :: y2 :: x :: l) 3 x:=.succ la2
theorem la4 {α:Type} {x y0 y1 y2 y3:α} {l:List α}:ListAt (y0 :: y1 :: y2 :: y3 :: x :: l) 4 x:=.succ la3
theorem la5 {α:Type} {x y0 y1 y2 y3 y4:α} {l:List α}:ListAt (y0 :: y1 :: y2 :: y3 :: y4 :: x :: l) 5 x:=.succ la4
theorem la6 {α:Type} {x y0 y1 y2 y3 y4 y5:α} {l:List α}:ListAt (y0 :: y1 :: y2 :: y3 :: y4 :: y5 :: x :: l) 6 x:=.succ la5
theorem la7 {α:Type} {x y0 y1 y2 y3 y4 y5 y6:α} {l:List α}:ListAt (y0 :: y1 :: y2 :: y3 :: y4 :: y5 :: y6 :: x :: l) 7 x:=.succ la6
theorem la8 {α:Type} {x y0 y1 y2 y3 y4 y5 y6 y7:α} {l:List α}:ListAt (y0 :: y1 :: y2 :: y3 :: y4 :: y5 :: y6 :: y7 :: x :: l) 8 x:=.succ la7
theorem la9 {α:Type} {x y0 y1 y2 y3 y4 y5 y6 y7 y8:α} {l:List α}:ListAt (y0 :: y1 :: y2 :: y3 :: y4 :: y5 :: y6 :: y7 :: y8 :: x :: l) 9 x:=.succ la8
theorem la10 {α:Type} {x y0 y1 y2 y3 y4 y5 y6 y7 y8 y9:α} {l:List α}:ListAt (y0 :: y1 :: y2 :: y3 :: y4 :: y5 :: y6 :: y7 :: y8 :: y9 :: x :: l) 10 x:=.succ la9
theorem la11 {α:Type} {x y0 y1 y2 y3 y4 y5 y6 y7 y8 y9 y10:α} {l:List α}:ListAt (y0 :: y1 :: y2 :: y3 :: y4 :: y5 :: y6 :: y7 :: y8 :: y9 :: y10 :: x :: l) 11 x:=.succ la10
theorem la12 {α:Type} {x y0 y1 y2 y3 y4 y5 y6 y7 y8 y9 y10 y11:α} {l:List α}:ListAt (y0 :: y1 :: y2 :: y3 :: y4 :: y5 :: y6 :: y7 :: y8 :: y9 :: y10 :: y11 :: x :: l) 12 x:=.succ la11
theorem la13 {α:Type} {x y0 y1 y2 y3 y4 y5 y6 y7 y8 y9 y10 y11 y12:α} {l:List α}:ListAt (y0 :: y1 :: y2 :: y3 :: y4 :: y5 :: y6 :: y7 :: y8 :: y9 :: y10 :: y11 :: y12 :: x :: l) 13 x:=.succ la12
theorem la14 {α:Type} {x y0 y1 y2 y3 y4 y5 y6 y7 y8 y9 y10 y11 y12 y13:α} {l:List α}:ListAt (y0 :: y1 :: y2 :: y3 :: y4 :: y5 :: y6 :: y7 :: y8 :: y9 :: y10 :: y11 :: y12 :: y13 :: x :: l) 14 x:=.succ la13
theorem la15 {α:Type} {x y0 y1 y2 y3 y4 y5 y6 y7 y8 y9 y10 y11 y12 y13 y14:α} {l:List α}:ListAt (y0 :: y1 :: y2 :: y3 :: y4 :: y5 :: y6 :: y7 :: y8 :: y9 :: y10 :: y11 :: y12 :: y13 :: y14 :: x :: l) 15 x:=.succ la14
theorem la16 {α:Type} {x y0 y1 y2 y3 y4 y5 y6 y7 y8 y9 y10 y11 y12 y13 y14 y15:α} {l:List α}:ListAt (y0 :: y1 :: y2 :: y3 :: y4 :: y5 :: y6 :: y7 :: y8 :: y9 :: y10 :: y11 :: y12 :: y13 :: y14 :: y15 :: x :: l) 16 x:=.succ la15
theorem la17 {α:Type} {x y0 y1 y2 y3 y4 y5 y6 y7 y8 y9 y10 y11 y12 y13 y14 y15 y16:α} {l:List α}:ListAt (y0 :: y1 :: y2 :: y3 :: y4 :: y5 :: y6 :: y7 :: y8 :: y9 :: y10 :: y11 :: y12 :: y13 :: y14 :: y15 :: y16 :: x :: l) 17 x:=.succ la16
theorem la18 {α:Type} {x y0 y1 y2 y3 y4 y5 y6 y7 y8 y9 y10 y11 y12 y13 y14 y15 y16 y17:α} {l:List α}:ListAt (y0 :: y1 :: y2 :: y3 :: y4 :: y5 :: y6 :: y7 :: y8 :: y9 :: y10 :: y11 :: y12 :: y13 :: y14 :: y15 :: y16 :: y17 :: x :: l) 18 x:=.succ la17
theorem la19 {α:Type} {x y0 y1 y2 y3 y4 y5 y6 y7 y8 y9 y10 y11 y12 y13 y14 y15 y16 y17 y18:α} {l:List α}:ListAt (y0 :: y1 :: y2 :: y3 :: y4 :: y5 :: y6 :: y7 :: y8 :: y9 :: y10 :: y11 :: y12 :: y13 :: y14 :: y15 :: y16 :: y17 :: y18 :: x :: l) 19 x:=.succ la18
theorem la20 {α:Type} {x y0 y1 y2 y3 y4 y5 y6 y7 y8 y9 y10 y11 y12 y13 y14 y15 y16 y17 y18 y19:α} {l:List α}:ListAt (y0 :: y1 :: y2 :: y3 :: y4 :: y5 :: y6 :: y7 :: y8 :: y9 :: y10 :: y11 :: y12 :: y13 :: y14 :: y15 :: y16 :: y17 :: y18 :: y19 :: x :: l) 20 x:=.succ la19
theorem la21 {α:Type} {x y0 y1 y2 y3 y4 y5 y6 y7 y8 y9 y10 y11 y12 y13 y14 y15 y16 y17 y18 y19 y20:α} {l:List α}:ListAt (y0 :: y1 :: y2 :: y3 :: y4 :: y5 :: y6 :: y7 :: y8 :: y9 :: y10 :: y11 :: y12 :: y13 :: y14 :: y15 :: y16 :: y17 :: y18 :: y19 :: y20 :: x :: l) 21 x:=.succ la20
theorem la22 {α:Type} {x y0 y1 y2 y3 y4 y5 y6 y7 y8 y9 y10 y11 y12 y13 y14 y15 y16 y17 y18 y19 y20 y21:α} {l:List α}:ListAt (y0 :: y1 :: y2 :: y3 :: y4 :: y5 :: y6 :: y7 :: y8 :: y9 :: y10 :: y11 :: y12 :: y13 :: y14 :: y15 :: y16 :: y17 :: y18 :: y19 :: y20 :: y21 :: x :: l) 22 x:=.succ la21
theorem la23 {α:Type} {x y0 y1 y2 y3 y4 y5 y6 y7 y8 y9 y10 y11 y12 y13 y14 y15 y16 y17 y18 y19 y20 y21 y22:α} {l:List α}:ListAt (y0 :: y1 :: y2 :: y3 :: y4 :: y5 :: y6 :: y7 :: y8 :: y9 :: y10 :: y11 :: y12 :: y13 :: y14 :: y15 :: y16 :: y17 :: y18 :: y19 :: y20 :: y21 :: y22 :: x :: l) 23 x:=.succ la22
theorem la24 {α:Type} {x y0 y1 y2 y3 y4 y5 y6 y7 y8 y9 y10 y11 y12 y13 y14 y15 y16 y17 y18 y19 y20 y21 y22 y23:α} {l:List α}:ListAt (y0 :: y1 :: y2 :: y3 :: y4 :: y5 :: y6 :: y7 :: y8 :: y9 :: y10 :: y11 :: y12 :: y13 :: y14 :: y15 :: y16 :: y17 :: y18 :: y19 :: y20 :: y21 :: y22 :: y23 :: x :: l) 24 x:=.succ la23
def looksOk (md:Region.Mode) (ops:Array Oper) (k i:Nat) (listed:Array Bool):Bool:=Region.noSelect ops && (Region.free md ops listed i && ((Region.ready md ops listed).contains i && (waitsFor md ops k i && !(listed.getD k true))))
theorem tkU {P:Program} {Q:Exit→Act→World→Prop} {md:Region.Mode} {S:World→Prop} {k:Nat} {l:List Oper} (i:Nat) {oi:Oper} {v:Value} {fuel:Nat} {listed:Array Bool} {a:Act} {w:World} (hi:ListAt l i oi) (hS:S w)
  (hc:looksOk md l.toArray k i listed=true) (hQ:∀c a w,Q (.panic c) (a.put oi.dst v) w→Q (.panic c) a w) (hg:oi.guard=none)
  (hy:∀w,S w→(execOp a.eval oi).run P w=.ok (.value v) w) (h:wpAnyU P md l.toArray Q S k fuel (listed.setIfInBounds i true) (a.put oi.dst v) w):wpAnyU P md l.toArray Q S k (fuel+1) listed a w:=by
 unfold looksOk at hc;simp only [Bool.and_eq_true,Bool.not_eq_true'] at hc;exact wpAnyU_take i hi hc.1 hc.2.1 hc.2.2.1 hc.2.2.2.1 hc.2.2.2.2 hQ hS hg hy h
theorem untilK {P:Program} {Q:Exit→Act→World→Prop} {S:World→Prop} {W0:World} (hK:Hid (∀w',Below W0.heap.size W0 w'→S w')) (k n:Nat) {l:List Oper} {id:Nat} {a:Act} {w:World}
  (hm:P.follows .mixedOrders=true) (hn:l.toArray.size=n) (h:wpAnyU P .any l.toArray Q S k n (Array.replicate n false) a w.drew):(Code.region id l.toArray true).wp P Q a w:=wp_region_until S k n hm hn h
theorem step_store_row {P:Program} {ops:Array Oper} {Q:Exit→Act→World→Prop} {o:Oper} {a:Act} {w:World} {K:Act→World→Prop} {E:Prop} (hgd:o.guard=none) (ty:TypeId) (x y:Operand) (ho:o.op=.store ty x y)
  (g:Nat) (cells:Array Value) (hx:a.eval x=.pointer (some ⟨g,0,none⟩)) (hy:a.eval y=.agg cells)
  (t:TypeId) (old:Array Value) (hg:w.heap[g]?=some (.cells old t (0,0))) (hi:(P.info? ty).map (·.size)=some cells.size)
  (hold:old.size=cells.size) (h1:cells.all (·.oneCell')=true)
  (h:K (a.put o.dst undef) (w.setRow g cells)):if Region.wanted o (yielded ops a.tmps)=true then Oper.wp P o a w K Q else E:=by
 rw [if_pos (by simp [Region.wanted,hgd])];exact wp_store_row ty x y ho g cells hx hy t old hg hi hold h1 h
theorem alloc_pack (w:World) (o:Obj):∃(w':World) (b:Nat),w.alloc o=w'∧w.heap.size=b∧Hid (w'.heap[b]?=some o)∧Hid (Below w.heap.size w w')∧Hid (b<w'.heap.size):=
 ⟨w.alloc o,w.heap.size,rfl,rfl,(by show (w.heap.push o)[w.heap.size]?=some o; exact Array.getElem?_push_size),below_new (Below.refl _ _) _,(by show w.heap.size<(w.heap.push o).size; rw [Array.size_push]; omega)⟩
theorem drew_pack (w:World):∃u:World,w.drew=u∧Hid (Below w.heap.size w u):=⟨_,rfl,below_drewN (Below.refl _ _) 1⟩
theorem OwnI.made {w:World} {base X n:Nat} {e:TypeId} {k:IntKind} (h:w.heap[X]?=some (.cells (madeCells #[.int k 0] n) e (0,0))) (hb:base≤X) (hn:n≤1000000):OwnI w base e k (.slice (some ⟨X,0,none⟩) n n) (List.replicate n 0):=by
 have hm:n≤maxLen:=by unfold maxLen; omega
 refine ⟨by rw [List.length_map,Nat.mul_one],.inr ⟨X,n,_,by rw [List.length_replicate],hb,h,by rw [List.length_replicate]; exact Nat.le_refl _,hm,by rw [size_madeCells,Nat.mul_one],?_⟩⟩;rw [toList_madeCells_one,List.length_replicate,Nat.mul_one,List.map_replicate,List.take_of_length_le (by rw [List.length_replicate]; exact Nat.le_refl _)]
theorem ownsRow_made {w:World} {base X n:Nat} {e:TypeId} {z:Value} (h:w.heap[X]?=some (.cells (madeCells #[z] n) e (0,0))) (hb:base≤X) (hn:n≤1000000):w.ownsRow base e 1 (.slice (some ⟨X,0,none⟩) n n) n (List.replicate n z):=by
 have hm:n≤maxLen:=by unfold maxLen; omega
 refine ⟨by rw [List.length_replicate,Nat.mul_one],.inr ⟨X,n,_,rfl,hb,h,Nat.le_refl _,hm,by rw [size_madeCells,Nat.mul_one],?_⟩⟩;rw [toList_madeCells_one,Nat.mul_one,List.take_of_length_le (by rw [List.length_replicate]; exact Nat.le_refl _)]
theorem laG {α:Type}:∀(l:List α) (i:Nat) (x:α),l[i]?=some x→ListAt l i x
 | y :: l,0,x,h=>by simp at h; subst h; exact .zero
 | y :: l,i+1,x,h=>.succ (laG l i x (by simpa using h))
theorem J0 (t:Array Value) (d:Nat) (v:Value) (f):(Act.mk t f).put (some d) v=Act.mk (t.setIfInBounds d v) f:=rfl
theorem J1 (a:Act) (v:Value):a.put none v=a:=rfl
theorem J2 {α:Type} (l:List α) (i:Nat) (x:α):l.toArray.setIfInBounds i x=(l.set i x).toArray:=by simp
theorem J3 {α:Type} (a b:α) (l:List α):(a :: l).set 0 b=b :: l:=rfl
theorem J4 {α:Type} (a b:α) (l:List α) (n:Nat):(a :: l).set (n+1) b=a :: l.set n b:=rfl
section
variable {P:Program} {Q:Exit→Act→World→Prop} {md:Region.Mode} {S:World→Prop} {k:Nat} {l:List Oper} {oi:Oper} {v:Value} {fuel:Nat} {listed:Array Bool} {a:Act} {w:World}
theorem tkV (i:Nat) (hS:S w) (hi:l[i]?=some oi) (hc:looksOk md l.toArray k i listed=true) (hQ:∀c a w,Q (.panic c) (a.put oi.dst v) w→Q (.panic c) a w) (hg:oi.guard=none)
  (hy:∀w,S w→(execOp a.eval oi).run P w=.ok (.value v) w) (h:wpAnyU P md l.toArray Q S k fuel (listed.setIfInBounds i true) (a.put oi.dst v) w):wpAnyU P md l.toArray Q S k (fuel+1) listed a w:=tkU i (laG _ _ _ hi) hS hc hQ hg hy h
def lookOkW (md:Region.Mode) (ops:Array Oper) (k i:Nat) (listed:Array Bool):Bool:=Region.noSelect ops && (Region.free md ops listed i && ((Region.ready md ops listed).contains i && (k != i)))
theorem tkW (i:Nat) (hS:listed.getD k true=false→S w) (hi:l[i]?=some oi) (hc:lookOkW md l.toArray k i listed=true) (hQ:∀c a w,Q (.panic c) (a.put oi.dst v) w→Q (.panic c) a w) (hg:oi.guard=none)
  (hy:∀w,(execOp a.eval oi).run P w=.ok (.value v) w) (h:wpAnyU P md l.toArray Q S k fuel (listed.setIfInBounds i true) (a.put oi.dst v) w):wpAnyU P md l.toArray Q S k (fuel+1) listed a w:=by
 unfold lookOkW at hc;simp only [Bool.and_eq_true] at hc;exact wpAnyU_takeW i (laG _ _ _ hi) hc.1 hc.2.1 hc.2.2.1 hc.2.2.2 hQ hS hg hy h
theorem consU (i:Nat) (hi:l[i]?=some oi) (hr:Region.ready md l.toArray listed=[i]) (hg:oi.guard=none)
  (h:∀K':Act→World→Prop,ShutU (∀a w,S w→(S w→wpAnyU P md l.toArray Q S k fuel (listed.setIfInBounds i true) a w)→K' a w)→if Region.wanted oi (yielded l.toArray a.tmps)=true then Oper.wp P oi a w K' Q else K' (a.put oi.dst undef) w):wpAnyU P md l.toArray Q S k (fuel+1) listed a w:=
 wpAnyU_ready hr rfl (AllReadyU.cons (laG _ _ _ hi) hg h AllReadyU.nil)
theorem freeU (i:Nat) (hi:l[i]?=some oi) (hr:Region.ready md l.toArray listed=[i]) (hg:oi.guard=none) (hk:(listed.setIfInBounds i true).getD k true=true)
  (h:∀K':Act→World→Prop,ShutU (∀a w,wpAnyU P md l.toArray Q S k fuel (listed.setIfInBounds i true) a w→K' a w)→if Region.wanted oi (yielded l.toArray a.tmps)=true then Oper.wp P oi a w K' Q else K' (a.put oi.dst undef) w):wpAnyU P md l.toArray Q S k (fuel+1) listed a w:=
 wpAnyU_ready hr rfl (AllReadyU.free (laG _ _ _ hi) hg hk h AllReadyU.nil)
end
theorem rowc3 {w:World} {g:Nat} {T:TypeId} {v0 v1 v2:Value} (h:w.heap[g]?=some (.cells #[v0,v1,v2] T (0,0))) :
  w.cell? ⟨g,0,none⟩=some v0∧w.cell? ⟨g,1,none⟩=some v1∧w.cell? ⟨g,2,none⟩=some v2:=
 ⟨cell_of_row _ _ 0 _ _ _ h,cell_of_row _ _ 1 _ _ _ h,cell_of_row _ _ 2 _ _ _ h⟩
theorem rowc4 {w:World} {g:Nat} {T:TypeId} {v0 v1 v2 v3:Value} (h:w.heap[g]?=some (.cells #[v0,v1,v2,v3] T (0,0))) :
  w.cell? ⟨g,0,none⟩=some v0∧w.cell? ⟨g,1,none⟩=some v1∧w.cell? ⟨g,2,none⟩=some v2∧w.cell? ⟨g,3,none⟩=some v3:=
 ⟨cell_of_row _ _ 0 _ _ _ h,cell_of_row _ _ 1 _ _ _ h,cell_of_row _ _ 2 _ _ _ h,cell_of_row _ _ 3 _ _ _ h⟩
theorem rowc5 {w:World} {g:Nat} {T:TypeId} {v0 v1 v2 v3 v4:Value} (h:w.heap[g]?=some (.cells #[v0,v1,v2,v3,v4] T (0,0))) :
  w.cell? ⟨g,0,none⟩=some v0∧w.cell? ⟨g,1,none⟩=some v1∧w.cell? ⟨g,2,none⟩=some v2∧w.cell? ⟨g,3,none⟩=some v3∧w.cell? ⟨g,4,none⟩=some v4:=
 ⟨cell_of_row _ _ 0 _ _ _ h,cell_of_row _ _ 1 _ _ _ h,cell_of_row _ _ 2 _ _ _ h,cell_of_row _ _ 3 _ _ _ h,cell_of_row _ _ 4 _ _ _ h⟩
theorem row_grown (w:World) (g:Nat) (cs:Array Value):w.grownBy (w.setRow g cs) (some g):=
 ⟨rfl,rfl,rfl,by simp [World.setRow],fun k _ hk=>setRow_other w g k cs (fun e=>hk (by rw [e]))⟩
theorem row_below {B g:Nat} {a w:World} (h:Below B a w) (hB:B≤g) (cs:Array Value):Below B a (w.setRow g cs):=
 ⟨h.os,h.tape,h.output,by simpa [World.setRow] using h.size,fun k hk=>(setRow_other w g k cs (by omega)).trans (h.block k hk)⟩
theorem grown_below {a b:World} {row:Option Nat} (h:Below a.heap.size a b):a.grownBy b row:=⟨h.os,h.tape,h.output,h.size,fun j hj _=>h.block j hj⟩
structure MemM where
 words:List Int
 lists:List (List Int)
 tick:Int
structure AccM where
 kind:Int
 addr:Int
 old:Int
 new:Int
 til:Int
structure AnsM where
 val:Int
 ok:Bool
 late:Bool
 list:List Int
def ansZ:AnsM:=⟨0,false,false,[]⟩
def hasB (n:Nat) (a:Int):Bool:=decide (0≤a) && decide (a<n)
def comeB (t til:Int):Bool:=decide (0<til) && decide (til - 1≤t)
def grantB (m:MemM) (a:AccM):Bool:=
 if a.kind=4 then !hasB m.words.length a.addr || m.words.getD a.addr.toNat 0 != a.old || comeB m.tick a.til
 else decide (1≤a.kind) && decide (a.kind≤9)
def nextL (k x:Int) (l:List Int):List Int:=if k=8 then (if l.length<1000 then l ++ [x] else l) else l.erase x
def listE (m:MemM) (a:AccM):MemM × AnsM:=
 if hasB m.lists.length a.addr=false then (m,ansZ) else
 if a.kind=7 then (m,⟨0,false,false,m.lists.getD a.addr.toNat []⟩) else
 (⟨m.words,m.lists.set a.addr.toNat (nextL a.kind (IntKind.i64.wrap a.new) (m.lists.getD a.addr.toNat [])),m.tick⟩,⟨(nextL a.kind (IntKind.i64.wrap a.new) (m.lists.getD a.addr.toNat [])).length,false,false,[]⟩)
def wordE (m:MemM) (a:AccM):MemM × AnsM:=
 if hasB m.words.length a.addr=false then (m,ansZ) else
 if a.kind=2∨a.kind=6 then (⟨m.words.set a.addr.toNat a.new,m.lists,m.tick⟩,ansZ) else
 if a.kind=3 then (if m.words.getD a.addr.toNat 0=a.old then (⟨m.words.set a.addr.toNat a.new,m.lists,m.tick⟩,⟨m.words.getD a.addr.toNat 0,true,false,[]⟩) else (m,⟨m.words.getD a.addr.toNat 0,false,false,[]⟩)) else
 if a.kind=4 then (m,⟨m.words.getD a.addr.toNat 0,false,m.words.getD a.addr.toNat 0 == a.old,[]⟩)
 else (m,⟨m.words.getD a.addr.toNat 0,false,false,[]⟩)
def applyE (m:MemM) (a:AccM):MemM × AnsM × Bool:=
 if grantB m a=false then (m,ansZ,false) else
 if 7≤a.kind then ((listE m a).1,(listE m a).2,true) else ((wordE m a).1,(wordE m a).2,true)
structure MemM.fits (m:MemM):Prop where
 words:m.words.length≤100000
 lists:m.lists.length≤100000
 each:∀t,(m.lists.getD t []).length≤100000
 wf:∀x∈m.words,x=IntKind.u64.wrap x
 tick:m.tick=IntKind.i64.wrap m.tick
structure AccM.ok (a:AccM):Prop where
 kind:a.kind=IntKind.i64.wrap a.kind
 addr:a.addr=IntKind.i64.wrap a.addr
 old:a.old=IntKind.u64.wrap a.old
 new:a.new=IntKind.u64.wrap a.new
 til:a.til=IntKind.i64.wrap a.til
theorem nextL_length (k x:Int) (l:List Int) (h:l.length≤100000):(nextL k x l).length≤100000:=by
 unfold nextL;split
 ·split
  ·simp; omega
  ·exact h
 ·exact Nat.le_trans (List.length_erase_le ..) h
theorem getD_setL {α:Type} (l:List α) (i t:Nat) (x d:α):(l.set i x).getD t d=if i=t∧t<l.length then x else l.getD t d:=by
 simp only [List.getD_eq_getElem?_getD,List.getElem?_set];by_cases h:i=t
 ·subst h
  by_cases h2:i<l.length
  ·simp [h2]
  ·simp [h2]
 ·simp [h]
theorem fits_set {m:MemM} (h:m.fits) (i:Nat) (l:List Int) (hl:l.length≤100000):MemM.fits ⟨m.words,m.lists.set i l,m.tick⟩:=by
 refine ⟨h.words,by simpa using h.lists,fun t=>?_,h.wf,h.tick⟩;show ((m.lists.set i l).getD t []).length≤_;rw [getD_setL];split
 ·exact hl
 ·exact h.each t
theorem fits_put {m:MemM} (h:m.fits) (i:Nat) (x:Int) (hx:x=IntKind.u64.wrap x):MemM.fits ⟨m.words.set i x,m.lists,m.tick⟩:=by
 refine ⟨by simpa using h.words,h.lists,h.each,fun y hy=>?_,h.tick⟩;rcases List.mem_or_eq_of_mem_set hy with hy | rfl
 ·exact h.wf y hy
 ·exact hx
theorem fits_apply {m:MemM} {a:AccM} (h:m.fits) (ha:a.ok):(applyE m a).1.fits:=by
 unfold applyE;split
 ·exact h
 ·split
  ·unfold listE
   split
   ·exact h
   ·split
    ·exact h
    ·exact fits_set h _ _ (nextL_length _ _ _ (h.each _))
  ·unfold wordE
   split
   ·exact h
   ·split
    ·exact fits_put h _ _ ha.new
    ·split
     ·split
      ·exact fits_put h _ _ ha.new
      ·exact h
     ·split <;> exact h
def SlL (w:World) (v:Value) (us:List Value) (ll:List (List Int)):Prop:=
 ll.length≤140737488351232∧us.length=ll.length∧∃a cap,v=.slice a ll.length cap∧ll.length≤cap∧
  ∀t,t<ll.length→∃b off,a=some ⟨b,off,none⟩∧b<w.heap.size∧w.cell? ⟨b,off+t,none⟩=some (us.getD t (.slice none 0 0))∧SlI w .i64 (us.getD t (.slice none 0 0)) (ll.getD t [])
theorem SlL.below {w w':World} {v:Value} {us:List Value} {ll:List (List Int)} (h:SlL w v us ll) (hb:Below w.heap.size w w'):SlL w' v us ll:=by
 obtain ⟨h1,h2,a,cap,h3,h4,h5⟩:=h;refine ⟨h1,h2,a,cap,h3,h4,fun t ht=>?_⟩;obtain ⟨b,off,e,hlt,hc,hu⟩:=h5 t ht;exact ⟨b,off,e,Nat.lt_of_lt_of_le hlt hb.size,(hb.cell (p:=⟨b,off+t,none⟩) hlt).trans hc,hu.below hb⟩
theorem SlL.drew {w:World} {v:Value} {us:List Value} {ll:List (List Int)} (h:SlL w v us ll) (n:Nat):SlL (w.drewN n) v us ll:=h
theorem SlL.len {w:World} {v:Value} {us:List Value} {ll:List (List Int)} (h:SlL w v us ll):∃a cap,v=.slice a ll.length cap∧ll.length≤cap:=by
 obtain ⟨_,_,a,cap,rfl,h4,_⟩:=h;exact ⟨a,cap,rfl,h4⟩
theorem SlL.nil (w:World):SlL w (.slice none 0 0) [] []:=⟨by simp,rfl,none,0,rfl,Nat.le_refl _,fun t ht=>by simp at ht⟩
theorem SlL.open {w:World} {v:Value} {us:List Value} {ll:List (List Int)} (h:SlL w v us ll) (hne:ll≠[]) :
  ∃b off cap,v=.slice (some ⟨b,off,none⟩) ll.length cap∧ll.length≤cap∧b<w.heap.size∧(∀t,t<ll.length→w.cell? ⟨b,off+t,none⟩=some (us.getD t (.slice none 0 0)))∧∀t,t<ll.length→SlI w .i64 (us.getD t (.slice none 0 0)) (ll.getD t []):=by
 obtain ⟨_,_,a,cap,rfl,h4,h5⟩:=h;obtain ⟨b,off,rfl,hlt,_⟩:=h5 0 (List.length_pos_iff.2 hne);refine ⟨b,off,cap,rfl,h4,hlt,fun t ht=>?_,fun t ht=>?_⟩
 ·obtain ⟨b',off',e,_,hc,hu⟩:=h5 t ht
  simp only [Option.some.injEq,Addr.mk.injEq] at e;obtain ⟨rfl,rfl,_⟩:=e;exact hc
 ·obtain ⟨b',off',e,_,hc,hu⟩:=h5 t ht
  exact hu
def MemV (w:World) (v:Value) (m:MemM):Prop:=
 ∃vw vl us,v=.agg #[vw,vl,.int .i64 m.tick]∧SlI w .u64 vw m.words∧SlL w vl us m.lists
theorem MemV.below {w w':World} {v:Value} {m:MemM} (h:MemV w v m) (hb:Below w.heap.size w w'):MemV w' v m:=by
 obtain ⟨vw,vl,us,e,h1,h2⟩:=h; exact ⟨vw,vl,us,e,h1.below hb,h2.below hb⟩
def accV (a:AccM):Value:=.agg #[.int .i64 a.kind,.int .i64 a.addr,.int .u64 a.old,.int .u64 a.new,.int .i64 a.til]
structure NewPart (w w' w2:World):Prop where
 size:w'.heap.size≤w2.heap.size
 same:∀j,w.heap.size≤j→j<w'.heap.size→w2.heap[j]?=w'.heap[j]?
def Wide (G:World→Prop):Prop:=∀w1 w2,G w1→Below w1.heap.size w1 w2→G w2
def Nx (G:World→Prop) (w w':World):World→Prop:=fun w2=>G w2∧NewPart w w' w2
theorem Nx.wide {G:World→Prop} (h:Wide G) (w w':World):Wide (Nx G w w'):=fun w1 w2 h1 hb=>
 ⟨h _ _ h1.1 hb,⟨Nat.le_trans h1.2.size hb.size,fun j hj hj2=>(hb.block j (Nat.lt_of_lt_of_le hj2 h1.2.size)).trans (h1.2.same j hj hj2)⟩⟩
theorem Nx.at {G:World→Prop} {w w':World} (hG:G w) (h:Wide G) (hb:Below w.heap.size w w'):Nx G w w' w':=
 ⟨h _ _ hG hb,⟨Nat.le_refl _,fun _ _ _=>rfl⟩⟩
theorem NewPart.sub {w W W' F w2:World} (h:NewPart w F w2) (hw:w.heap.size≤W.heap.size) (hs:W'.heap.size≤F.heap.size) (he:∀j,W.heap.size≤j→j<W'.heap.size→F.heap[j]?=W'.heap[j]?):NewPart W W' w2:=
 ⟨Nat.le_trans hs h.size,fun j hj hj2=>(h.same j (Nat.le_trans hw hj) (Nat.lt_of_lt_of_le hj2 hs)).trans (he j hj hj2)⟩
theorem OwnI.newPart {w w' w2:World} {base:Nat} {e:TypeId} {k:IntKind} {v:Value} {l:List Int} (h:OwnI w' base e k v l) (hw:w.heap.size≤base) (hn:NewPart w w' w2):OwnI w2 base e k v l:=by
 refine ⟨h.1,?_⟩;rcases h.2 with h1 | ⟨g,cap,cur,h1,h2,h3,h4⟩
 ·exact .inl h1
 ·exact .inr ⟨g,cap,cur,h1,h2,(hn.same g (Nat.le_trans hw h2) (Array.getElem?_eq_some_iff.1 h3).1).trans h3,h4⟩
theorem row_newPart {w w' w2:World} {base n:Nat} {e:TypeId} {v:Value} {us:List Value} (h:w'.ownsRow base e 1 v n us) (hw:w.heap.size≤base) (hn:NewPart w w' w2):w2.ownsRow base e 1 v n us:=by
 refine ⟨h.1,?_⟩;rcases h.2 with h1 | ⟨g,cap,cur,h1,h2,h3,h4⟩
 ·exact .inl h1
 ·exact .inr ⟨g,cap,cur,h1,h2,(hn.same g (Nat.le_trans hw h2) (Array.getElem?_eq_some_iff.1 h3).1).trans h3,h4⟩
def StM (G:World→Prop) (v:Value) (m:MemM):Prop:=
 ∃vw vl us,v=.agg #[vw,vl,.int .i64 m.tick]∧∀w,G w→SlI w .u64 vw m.words∧SlL w vl us m.lists
theorem StM.at {G:World→Prop} {v:Value} {m:MemM} {w:World} (h:StM G v m) (hG:G w):MemV w v m:=by
 obtain ⟨vw,vl,us,e,h1⟩:=h; exact ⟨vw,vl,us,e,h1 w hG⟩
theorem StM.sub {G H:World→Prop} {v:Value} {m:MemM} (h:StM G v m) (hs:∀w,H w→G w):StM H v m:=by
 obtain ⟨vw,vl,us,e,h1⟩:=h; exact ⟨vw,vl,us,e,fun w hw=>h1 w (hs w hw)⟩
def StI (G:World→Prop) (k:IntKind) (v:Value) (l:List Int):Prop:=∀w,G w→SlI w k v l
def StA (G:World→Prop) (v:Value) (b:AnsM):Prop:=
 ∃vl,v=.agg #[.int .u64 b.val,.bool b.ok,.bool b.late,vl]∧∀w,G w→SlI w .i64 vl b.list
theorem StA.sub {G H:World→Prop} {v:Value} {b:AnsM} (h:StA G v b) (hs:∀w,H w→G w):StA H v b:=by
 obtain ⟨vl,e,h1⟩:=h; exact ⟨vl,e,fun w hw=>h1 w (hs w hw)⟩
theorem StA.bare (G:World→Prop) (x:Int) (p q:Bool):StA G (.agg #[.int .u64 x,.bool p,.bool q,.slice none 0 0]) ⟨x,p,q,[]⟩:=⟨_,rfl,fun w _=>SlI.nil _ _⟩
def Over (w0:World):World→Prop:=fun w=>Below w0.heap.size w0 w
theorem Over.wide (w0:World):Wide (Over w0):=fun _ _ h hb=>below_then h hb
theorem Over.self (w0:World):Over w0 w0:=Below.refl _ _
theorem MemV.over {w:World} {v:Value} {m:MemM} (h:MemV w v m):StM (Over w) v m:=by
 obtain ⟨vw,vl,us,e,h1,h2⟩:=h; exact ⟨vw,vl,us,e,fun w2 hb=>⟨h1.below hb,h2.below hb⟩⟩
def Rows' (s:Nat) (rows:List (List Value)):Prop:=∀r∈rows,r.length=s∧∀u∈r,u.oneCell'=true
def OwnS (w:World) (base:Nat) (e:TypeId) (s:Nat) (v:Value) (rows:List (List Value)):Prop:=
 Rows' s rows∧w.ownsRow base e s v rows.length rows.flatten
section
variable {w w':World} {base:Nat} {e:TypeId} {s:Nat} {v:Value} {rows:List (List Value)}
theorem OwnS.nil (w:World) (base:Nat) (e:TypeId) (s:Nat):OwnS w base e s (.slice none 0 0) []:=⟨fun r h=>by simp at h,World.ownsRow_nil w base _ s⟩
theorem OwnS.shape (h:OwnS w base e s v rows):(v=.slice none 0 0∧rows=[])∨∃g cap,v=.slice (some ⟨g,0,none⟩) rows.length cap∧base≤g∧g<w.heap.size∧rows.length≤cap:=by
 rcases h.2.2 with ⟨rfl,h2⟩ | ⟨g,cap,cur,rfl,h3,h4,h5,h6,_,_⟩
 ·exact .inl ⟨rfl,List.length_eq_zero_iff.1 h2⟩
 ·exact .inr ⟨g,cap,rfl,h3,(Array.getElem?_eq_some_iff.1 h4).1,h5⟩
theorem OwnS.len (h:OwnS w base e s v rows):∃a cap,v=.slice a rows.length cap:=by
 rcases h.shape with ⟨rfl,rfl⟩ | ⟨g,cap,rfl,_⟩
 ·exact ⟨_,_,rfl⟩
 ·exact ⟨_,_,rfl⟩
theorem OwnS.open (h:OwnS w base e s v rows) (hn:0<rows.length):∃g cap,v=.slice (some ⟨g,0,none⟩) rows.length cap∧base≤g∧g<w.heap.size∧rows.length≤cap:=by
 rcases h.shape with ⟨_,rfl⟩ | h
 ·simp at hn
 ·exact h
theorem OwnS.kept {row:Option Nat} (h:OwnS w base e s v rows) (hg:w.grownBy w' row) (hne:v.ownBlock=none∨v.ownBlock≠row):OwnS w' base e s v rows:=⟨h.1,World.ownsRow.kept h.2 hg hne⟩
theorem OwnS.lt (h:OwnS w base e s v rows):∀j,v.ownBlock=some j→base≤j∧j<w.heap.size:=World.ownsRow.lt h.2
theorem OwnS.ne (h:OwnS w base e s v rows) {g:Nat} (hg:g<base):v.ownBlock=none∨v.ownBlock≠some g:=by
 cases hv:v.ownBlock with
 | none=>exact .inl rfl
 | some b=>exact .inr fun e=>by have:=(h.lt b hv).1; cases e; omega
theorem OwnS.below (h:OwnS w base e s v rows) (hb:Below w.heap.size w w'):OwnS w' base e s v rows:=by
 refine h.kept (row:=none) ⟨hb.os,hb.tape,hb.output,hb.size,fun j hj _=>hb.block j hj⟩ ?_;cases hv:v.ownBlock with
 | none=>exact .inl rfl
 | some x=>exact .inr (by simp)
theorem OwnS.apart {b2 s2:Nat} {e2:TypeId} {v2:Value} {r2:List (List Value)} (h1:OwnS w base e s v rows) (h2:OwnS w b2 e2 s2 v2 r2) (he:e≠e2):v.ownBlock=none∨v.ownBlock≠v2.ownBlock:=by
 rcases h1.2.2 with ⟨rfl,_⟩ | ⟨g,cap,cur,rfl,_,hg,_⟩
 ·exact .inl rfl
 ·rcases h2.2.2 with ⟨rfl,_⟩ | ⟨g',cap',cur',rfl,_,hg',_⟩
  ·exact .inr (by simp [Value.ownBlock])
  ·refine .inr ?_
   simp only [Value.ownBlock,ne_eq,Option.some.injEq];intro e;rw [e,hg'] at hg;simp at hg;exact he hg.2.symm
theorem flatS_get:∀(rows:List (List Value)),Rows' s rows→∀(i j:Nat) (hi:i<rows.length),j<s→rows.flatten[i * s+j]?=rows[i][j]?
 | [],_,i,_,hi,_=>by simp at hi
 | r :: l,h,i,j,hi,hj=>by
  have hr:r.length=s:=(h r (List.mem_cons_self ..)).1;cases i with
  | zero=>rw [List.flatten_cons,Nat.zero_mul,Nat.zero_add,List.getElem?_append_left (by omega)]; rfl
  | succ i=>
   rw [List.flatten_cons,List.getElem?_append_right (by rw [hr,Nat.succ_mul]; omega),hr,show (i+1) * s+j - s=i * s+j by rw [Nat.succ_mul]; omega];exact flatS_get l (fun x hx=>h x (List.mem_cons_of_mem _ hx)) i j (by simpa using hi) hj
theorem flatS_set:∀(rows:List (List Value)) (i:Nat) (a b r:List Value) (u x:Value),Rows' s rows→(hi:i<rows.length)→rows[i]=a ++ x :: b→r=a ++ u :: b→rows.flatten.set (i * s+a.length) u=(rows.set i r).flatten
 | [],i,_,_,_,_,_,_,hi,_,_=>by simp at hi
 | q :: l,i,a,b,r,u,x,h,hi,he,hr=>by
  have hq:q.length=s:=(h q (List.mem_cons_self ..)).1;cases i with
  | zero=>
   simp only [List.getElem_cons_zero] at he;subst he hr;rw [List.flatten_cons,Nat.zero_mul,Nat.zero_add,List.set_cons_zero,List.flatten_cons,List.set_append_left _ _ (by simp)];congr 1;rw [List.set_append_right _ _ (Nat.le_refl _),Nat.sub_self,List.set_cons_zero]
  | succ i=>
   rw [List.flatten_cons,List.set_cons_succ,List.flatten_cons,List.set_append_right _ _ (by rw [hq,Nat.succ_mul]; omega),hq,show (i+1) * s+a.length - s=i * s+a.length by rw [Nat.succ_mul]; omega];rw [flatS_set l i a b r u x (fun x hx=>h x (List.mem_cons_of_mem _ hx)) (by simpa using hi) (by simpa using he) hr]
theorem Rows'.set {r:List Value} (h:Rows' s rows) (i:Nat) (hr:r.length=s) (h1:∀u∈r,u.oneCell'=true):Rows' s (rows.set i r):=fun x hx=>by
 rcases List.mem_or_eq_of_mem_set hx with h2 | rfl
 ·exact h x h2
 ·exact ⟨hr,h1⟩
theorem Rows'.snoc {r:List Value} (h:Rows' s rows) (hr:r.length=s) (h1:∀u∈r,u.oneCell'=true):Rows' s (rows ++ [r]):=fun x hx=>by
 rw [List.mem_append,List.mem_singleton] at hx;rcases hx with h2 | rfl
 ·exact h x h2
 ·exact ⟨hr,h1⟩
theorem OwnS.row {g n cap:Nat} (h:OwnS w base e s (.slice (some ⟨g,0,none⟩) n cap) rows) (i:Nat) (hi:i<rows.length):w.rangeAt g (i * s) rows[i]∧w.there g (i * s) s:=by
 obtain rfl:n=rows.length:=by obtain ⟨a,c,h2⟩:=h.len; simp only [Value.slice.injEq] at h2; exact h2.2.1
 have hr:=(h.1 _ (List.getElem_mem hi)).1;have hb:∀j,j<s→i * s+j<rows.length * s:=fun j hj=>by
  have:i * s+s≤rows.length * s:=by rw [← Nat.succ_mul]; exact Nat.mul_le_mul_right _ hi
  omega
 have hc:∀j,j<s→w.cell? ⟨g,i * s+j,none⟩=rows[i][j]?:=fun j hj=>by
  rw [World.ownsRow.cellAt h.2 _ (hb j hj),flatS_get rows h.1 i j hi hj]
 refine ⟨fun j u hj=>?_,fun j hj=>⟨?_,World.ownsRow.frozenAt h.2 _⟩⟩
 ·have hjs:j<s:=by rw [← hr]; exact (List.getElem?_eq_some_iff.1 hj).1
  rw [hc j hjs,hj]
 ·rw [hc j hj,List.getElem?_eq_getElem (by omega)]; rfl
theorem OwnS.setCell {g n cap:Nat} (h:OwnS w base e s (.slice (some ⟨g,0,none⟩) n cap) rows) (i:Nat) (hi:i<rows.length) (a b:List Value) (x u:Value) (he:rows[i]=a ++ x :: b) (hu:u.oneCell'=true):OwnS (w.setCell ⟨g,i * s+a.length,none⟩ u) base e s (.slice (some ⟨g,0,none⟩) n cap) (rows.set i (a ++ u :: b)):=by
 obtain rfl:n=rows.length:=by obtain ⟨a,c,h2⟩:=h.len; simp only [Value.slice.injEq] at h2; exact h2.2.1
 have hm:=h.1 _ (List.getElem_mem hi);have h1:=(World.ownsRow.stored h.2 (i * s+a.length) u).1;refine ⟨h.1.set i (by rw [← hm.1,he]; simp) fun z hz=>?_,?_⟩
 ·rw [List.mem_append,List.mem_cons] at hz
  rcases hz with hz | rfl | hz
  ·exact hm.2 z (by rw [he]; simp [hz])
  ·exact hu
  ·exact hm.2 z (by rw [he]; simp [hz])
 ·rw [List.length_set,← flatS_set rows i a b _ u x h.1 hi he rfl]
  exact h1
theorem OwnS.setCells {g n cap:Nat} (i:Nat):∀(r q a:List Value) (w:World) (rows:List (List Value)),OwnS w base e s (.slice (some ⟨g,0,none⟩) n cap) rows→(hi:i<rows.length)→rows[i]=a ++ q→q.length=r.length→(∀u∈r,u.oneCell'=true)→OwnS (w.setCells g (i * s+a.length) r) base e s (.slice (some ⟨g,0,none⟩) n cap) (rows.set i (a ++ r))
 | [],q,a,w,rows,h,hi,he,hl,_=>by
  have:q=[]:=List.length_eq_zero_iff.1 hl;subst this;rw [← he,List.set_getElem_self];exact h
 | u :: r,q,a,w,rows,h,hi,he,hl,h1=>by
  cases q with
  | nil=>simp at hl
  | cons x q=>
   have h2:=h.setCell i hi a q x u he (h1 u (List.mem_cons_self ..));have h3:=OwnS.setCells i r q (a ++ [u]) _ _ h2 (by simpa using hi) (by simp) (by simpa using hl) (fun z hz=>h1 z (List.mem_cons_of_mem _ hz));rw [List.set_set,List.append_assoc] at h3;rw [List.length_append] at h3;exact h3
theorem OwnS.setRow {g n cap:Nat} {r:List Value} (h:OwnS w base e s (.slice (some ⟨g,0,none⟩) n cap) rows) (i:Nat) (hi:i<rows.length) (hr:r.length=s) (h1:∀u∈r,u.oneCell'=true):OwnS (w.setCells g (i * s) r) base e s (.slice (some ⟨g,0,none⟩) n cap) (rows.set i r):=
 OwnS.setCells i r rows[i] [] w rows h hi rfl (by rw [(h.1 _ (List.getElem_mem hi)).1,hr]) h1
theorem setCells_other (g:Nat):∀(r:List Value) (o:Nat) (w:World) (k:Nat),k≠g→(w.setCells g o r).heap[k]?=w.heap[k]?
 | [],_,_,_,_=>rfl
 | u :: r,o,w,k,h=>(setCells_other g r (o+1) _ k h).trans (heap_setCell_other w ⟨g,o,none⟩ k u h)
theorem setCells_size (g:Nat):∀(r:List Value) (o:Nat) (w:World),(w.setCells g o r).heap.size=w.heap.size
 | [],_,_=>rfl
 | u :: r,o,w=>(setCells_size g r (o+1) _).trans (by simp)
theorem setCells_grown (g:Nat):∀(r:List Value) (o:Nat) (w:World),w.grownBy (w.setCells g o r) (some g)
 | [],_,w=>grownBy_refl w _
 | u :: r,o,w=>grownBy_trans (grownBy_setCell w ⟨g,o,none⟩ u) (setCells_grown g r (o+1) _)
theorem step_append_s (st:TypeId) {bytes:Nat} {z:Value} (hu:Try.prog.underlying st=some (.slice e)) (hinfo:(Try.prog.info? e).map (fun i=>(i.zero,i.size,i.bytes))=some (some z,s,bytes)) (hzs:z.cells.size=s) (hsz:0<s) (hby:bytes≤200)
  {ops:Array Oper} {o:Oper} {a:Act} {K:Act→World→Prop} {Q:Exit→Act→World→Prop} {E:Prop}
  (hgd:o.guard=none) (sl x:Operand) (hop:o.op=Op.call { callee:=Callee.builtin Builtin.append,args:=#[sl,x],argTypes:=#[st,st] })
  (hs:a.eval sl=v) (hown:OwnS w base e s v rows) (r:List Value) (hr:r.length=s) (hr1:∀u∈r,u.oneCell'=true) (g:Nat)
  (hx:a.eval x=.slice (some ⟨g,0,none⟩) 1 1) (hcell:w.heap[g]?=some (.cells r.toArray e (0,0))) (hl:rows.length≤1000000) (hb:base≤w.heap.size)
  (hK:∀v' w',OwnS w' base e s v' (rows ++ [r])→w.grownBy w' v.ownBlock→(v'.ownBlock=v.ownBlock∨v'.ownBlock=some w.heap.size)→K (a.put o.dst v') w') :
  if Region.wanted o (yielded ops a.tmps)=true then Oper.wp Try.prog o a w K Q else E:=by
 rw [if_pos (by simp [Region.wanted,hgd])];obtain ⟨i0,hi,hz0,hz1,hz2⟩:=info_parts hinfo;obtain ⟨v',w',hrun,h2,h3,-,h4⟩:=run_append_own_at (P:=Try.prog) w base st o.type e i0 z s bytes hu hi hz0 hz1 hz2 hzs hsz v rows.length _ hown.2 ⟨g,0,none⟩ 1 1 r (by omega) (fun j u hj=>by
  have:w.cell? ⟨g,j,none⟩=r.toArray[j]?:=cell_of_row _ _ j _ _ _ hcell;have e2:((⟨g,0,none⟩:Addr).add j)=⟨g,j,none⟩:=by rw [Addr.add_mid,Nat.zero_add]
  rw [e2,this];simpa using hj) hr1 (by unfold maxLen; omega) (by have:(rows.length+1) * bytes≤1000001 * 200:=Nat.mul_le_mul (by omega) hby; omega) hb
 refine Lib.wp_append_run w sl x _ _ hop _ _ hs hx v' w' hrun (hK v' w' ⟨hown.1.snoc hr hr1,?_⟩ h3 h4);rw [List.length_append,List.flatten_append];simpa using h2
end
theorem step_store_mid {ops:Array Oper} {Q:Exit→Act→World→Prop} {o:Oper} {a:Act} {w:World} {K:Act→World→Prop} {E:Prop} (hgd:o.guard=none) (ty:TypeId) (x y:Operand) (ho:o.op=.store ty x y)
  (b off:Nat) (cells:Array Value) (hx:a.eval x=.pointer (some ⟨b,off,none⟩)) (hy:a.eval y=.agg cells) (ht:w.there b off cells.size) (hi:(Try.prog.info? ty).map (·.size)=some cells.size) (h1:cells.all (·.oneCell')=true)
  (h:K (a.put o.dst undef) (w.setCells b off cells.toList)):if Region.wanted o (yielded ops a.tmps)=true then Oper.wp Try.prog o a w K Q else E:=by
 rw [if_pos (by simp [Region.wanted,hgd])];exact wp_store_mid ty x y ho b off cells hx hy ht hi h1 h
def OffS (S:List (Option Nat)) (w0:World):World→Prop:=fun w=>w0.heap.size≤w.heap.size∧∀j,j<w0.heap.size→some j ∉ S→w.heap[j]?=w0.heap[j]?
section
variable {S S2:List (Option Nat)} {w w0 w1 w2 w':World}
theorem OffS.self (S:List (Option Nat)) (w:World):OffS S w w:=⟨Nat.le_refl _,fun _ _ _=>rfl⟩
theorem OffS.trans (h:OffS S w0 w1) (h2:OffS S2 w1 w2) (hs:∀j,j<w0.heap.size→some j∈S2→some j∈S):OffS S w0 w2:=
 ⟨Nat.le_trans h.1 h2.1,fun j hj hn=>(h2.2 j (Nat.lt_of_lt_of_le hj h.1) (fun e=>hn (hs j hj e))).trans (h.2 j hj hn)⟩
theorem OffS.trans1 (h:OffS S w0 w1) (h2:OffS S w1 w2):OffS S w0 w2:=h.trans h2 fun _ _ e=>e
theorem OffS.below (h:Below w.heap.size w w'):OffS S w w':=⟨h.size,fun j hj _=>h.block j hj⟩
theorem OffS.wide (S:List (Option Nat)) (w0:World):Wide (OffS S w0):=fun _ _ h hb=>h.trans1 (OffS.below hb)
theorem OffS.grown {row:Option Nat} (h:w.grownBy w' row) (hr:row=none∨row∈S):OffS S w w':=⟨h.size,fun j hj hn=>h.block j hj (fun e=>by
 rcases hr with rfl | hr
 ·simp at e
 ·exact hn (e▸hr))⟩
theorem OffS.nx (h:OffS S w0 w) (hb:Below w.heap.size w w') (hS:∀j,some j∈S→j<w.heap.size):∀w2,OffS S w' w2→Nx (OffS S w0) w w' w2:=fun w2 h3=>
 ⟨h.trans1 ((OffS.below hb).trans1 h3),⟨h3.1,fun j hj hj2=>h3.2 j hj2 (fun e=>by have:=hS j e; omega)⟩⟩
end
theorem run_append_zero {w:World} {T ty e:TypeId} {i:TypeInfo} (ht:Try.prog.underlying T=some (.slice e)) (hi:Try.prog.info? e=some i) (A B:Option Addr) (n c c':Nat) (hn:n≤c) :
  (Builtin.append_ #[T,T] ty #[.slice A n c,.slice B 0 c']).run Try.prog w=.ok (.slice A n c) w:=by
 cases A <;> cases B <;> simp [Builtin.append_,run_underlying ht,sizeOf,typeInfo,hi,Builtin.lenOf,Builtin.firstCells,storeCells,loadCells,loadCellsFrom,Result.andThen,hn]
theorem run_app_i64 (w:World) (ty:TypeId) (base:Nat) (v:Value) (l:List Int) (hown:OwnI w base 3 .i64 v l) (xv:Value) (l2:List Int) (hS:SlI w .i64 xv l2)
  (hl:l.length≤1000000) (hl2:l2.length≤1000000) (hb:base≤w.heap.size) :
  ∃v' w',(Builtin.append_ #[28,28] ty #[v,xv]).run Try.prog w=.ok v' w'∧OwnI w' base 3 .i64 v' (l ++ l2)∧w.grownBy w' v.ownBlock:=by
 obtain ⟨i0,hi,hz0,hz1,hz2⟩:=info_parts Try.info_i64;by_cases hne:l2=[]
 ·subst hne
  obtain ⟨B,c',rfl,-⟩:=hS.len;have e:∃A c,v=.slice A l.length c∧l.length≤c:=by
   rcases hown.shape with ⟨rfl,rfl⟩ | ⟨g,cap,rfl,_,_,h,_⟩
   ·exact ⟨_,_,rfl,Nat.le_refl _⟩
   ·exact ⟨_,_,rfl,h⟩
  obtain ⟨A,c,rfl,hc⟩:=e;refine ⟨_,w,run_append_zero (by kernel_rfl) hi A B l.length c c' hc,by simpa using hown,grownBy_refl _ _⟩
 ·obtain ⟨b,off,cap,rfl,hcap,hbk,hc⟩:=hS.open hne
  obtain ⟨v',w',hr,h2,h3,-⟩:=run_append_own (P:=Try.prog) w base 28 ty 3 i0 (.int .i64 0) 1 _ (by kernel_rfl) hi hz0 hz1 rfl rfl (by decide) v l.length _ hown ⟨b,off,none⟩ l2.length cap (l2.map (Value.int .i64)) (by simp) (by
   intro j u hj;rw [add_plain];simp only [List.getElem?_map,Option.map_eq_some_iff] at hj;obtain ⟨y,hy,rfl⟩:=hj;have hjl:j<l2.length:=(List.getElem?_eq_some_iff.1 hy).1;rw [hc j hjl,List.getD_eq_getElem?_getD,hy]; rfl) (by intro u hu; simp only [List.mem_map] at hu; obtain ⟨y,_,rfl⟩:=hu; rfl) (by unfold maxLen; omega) (by rw [hz2]; omega) hb
  refine ⟨v',w',hr,?_,h3⟩;unfold OwnI;rw [List.length_append,List.map_append];exact h2
theorem step_app_i64 {w:World} {ops:Array Oper} {o:Oper} {a:Act} {K:Act→World→Prop} {Q:Exit→Act→World→Prop} {E:Prop}
  (hgd:o.guard=none) (s x:Operand) (hop:o.op=Op.call { callee:=Callee.builtin Builtin.append,args:=#[s,x],argTypes:=#[28,28] })
  (base:Nat) (v:Value) (l:List Int) (hs:a.eval s=v) (hown:OwnI w base 3 .i64 v l) (xv:Value) (l2:List Int) (hx:a.eval x=xv) (hS:SlI w .i64 xv l2)
  (hl:l.length≤1000000) (hl2:l2.length≤1000000) (hb:base≤w.heap.size)
  (hK:∀v' w',OwnI w' base 3 .i64 v' (l ++ l2)→w.grownBy w' v.ownBlock→K (a.put o.dst v') w') :
  if Region.wanted o (yielded ops a.tmps)=true then Oper.wp Try.prog o a w K Q else E:=by
 have hw:Region.wanted o (yielded ops a.tmps)=true:=by simp [Region.wanted,hgd]
 rw [if_pos hw];obtain ⟨v',w',hr,h1,h2⟩:=run_app_i64 w o.type base v l hown xv l2 hS hl hl2 hb;exact Lib.wp_append_run w s x _ _ hop _ _ hs hx v' w' hr (hK v' w' h1 h2)
theorem run_copy_u64 (w:World) (ty:TypeId) (B:Nat) (hB:B≤w.heap.size) (s:Value) (hs:w.ownsRow B 23 1 s 0 []) (xv:Value) (l:List Int) (hS:SlI w .u64 xv l) (hl:l.length≤1000000) :
  ∃v' w',(Builtin.append_ #[29,29] ty #[s,xv]).run Try.prog w=.ok v' w'∧OwnI w' B 23 .u64 v' l∧w.grownBy w' s.ownBlock:=by
 obtain ⟨i0,hi,hz0,hz1,hz2⟩:=info_parts Try.info_u64;by_cases hne:l=[]
 ·subst hne
  obtain ⟨B,c',rfl,-⟩:=hS.len;have e:∃A c,s=.slice A 0 c∧0≤c:=by
   rcases hs.2 with ⟨rfl,_⟩ | ⟨g,cap,cur,rfl,_⟩
   ·exact ⟨_,_,rfl,Nat.le_refl _⟩
   ·exact ⟨_,_,rfl,Nat.zero_le _⟩
  obtain ⟨A,c,rfl,hc⟩:=e;exact ⟨_,w,run_append_zero (by kernel_rfl) hi A B 0 c c' hc,hs,grownBy_refl _ _⟩
 ·obtain ⟨b,off,cap,rfl,hcap,hbk,hc⟩:=hS.open hne
  obtain ⟨v',w',hr,h2,h3,-⟩:=run_append_own (P:=Try.prog) w B 29 ty 23 i0 (.int .u64 0) 1 _ (by kernel_rfl) hi hz0 hz1 rfl rfl (by decide) s 0 _ hs ⟨b,off,none⟩ l.length cap (l.map (Value.int .u64)) (by simp) (by
   intro j u hj;rw [add_plain];simp only [List.getElem?_map,Option.map_eq_some_iff] at hj;obtain ⟨y,hy,rfl⟩:=hj;have hjl:j<l.length:=(List.getElem?_eq_some_iff.1 hy).1;rw [hc j hjl,List.getD_eq_getElem?_getD,hy]; rfl) (by intro u hu; simp only [List.mem_map] at hu; obtain ⟨y,_,rfl⟩:=hu; rfl) (by unfold maxLen; omega) (by rw [hz2]; omega) hB
  refine ⟨v',w',hr,?_,h3⟩;unfold OwnI;simpa using h2
theorem Try.info_li:(Try.prog.info? 28).map (fun i=>(i.zero,i.size,i.bytes))=some (some (.slice none 0 0),1,24):=by kernel_rfl
theorem SlI.one {w:World} {k:IntKind} {v:Value} {l:List Int} (h:SlI w k v l):v.oneCell'=true:=by
 obtain ⟨_,_,a,cap,rfl,_⟩:=h; rfl
theorem row_read {w:World} {base:Nat} {v:Value} {us:List Value} {ll:List (List Int)} (h:w.ownsRow base 28 1 v ll.length us) (he:∀t,t<ll.length→SlI w .i64 (us.getD t (.slice none 0 0)) (ll.getD t [])) (hl:ll.length≤140737488351232):SlL w v us ll:=by
 have hus:us.length=ll.length:=by have:=h.1; omega
 refine ⟨hl,hus,?_⟩;have h0:=h;rcases h.2 with ⟨rfl,h2⟩ | ⟨g,cap,cur,rfl,h3,h4,h5,h6,h7,h8⟩
 ·exact ⟨none,0,by rw [h2],by omega,fun t ht=>by omega⟩
 ·refine ⟨some ⟨g,0,none⟩,cap,rfl,h5,fun t ht=>⟨g,0,rfl,(Array.getElem?_eq_some_iff.1 h4).1,?_,he t ht⟩⟩
  rw [Nat.zero_add,World.ownsRow.cellAt h0 t (by omega)];simp [List.getD_eq_getElem?_getD,show t<us.length by omega]
theorem each_set {w:World} {us:List Value} {ll:List (List Int)} (hus:us.length=ll.length) (i:Nat) {u:Value} {l:List Int} (hu:SlI w .i64 u l) (hk:∀t,t<ll.length→SlI w .i64 (us.getD t (.slice none 0 0)) (ll.getD t [])) :
  ∀t,t<(ll.set i l).length→SlI w .i64 ((us.set i u).getD t (.slice none 0 0)) ((ll.set i l).getD t []):=by
 intro t ht;have ht':t<ll.length:=by simpa using ht
 rw [getD_setL,getD_setL];by_cases e:i=t
 ·simpa [e,hus,ht'] using hu
 ·simpa [e] using hk t ht'
theorem SlL.each {w:World} {v:Value} {us:List Value} {ll:List (List Int)} (h:SlL w v us ll):∀t,t<ll.length→SlI w .i64 (us.getD t (.slice none 0 0)) (ll.getD t []):=by
 obtain ⟨_,_,_,_,_,_,h5⟩:=h;intro t ht;obtain ⟨_,_,_,_,_,h⟩:=h5 t ht;exact h
theorem run_copy_li (w:World) (ty:TypeId) (B:Nat) (hB:B≤w.heap.size) (s:Value) (hs:w.ownsRow B 28 1 s 0 []) (xv:Value) (us:List Value) (ll:List (List Int)) (hS:SlL w xv us ll) (hl:ll.length≤1000000) :
  ∃v' w',(Builtin.append_ #[32,32] ty #[s,xv]).run Try.prog w=.ok v' w'∧w'.ownsRow B 28 1 v' ll.length us∧w.grownBy w' s.ownBlock:=by
 obtain ⟨i0,hi,hz0,hz1,hz2⟩:=info_parts Try.info_li;have hus:=hS.2.1;by_cases hne:ll=[]
 ·subst hne
  obtain rfl:us=[]:=List.length_eq_zero_iff.1 hus;obtain ⟨C,c',rfl,-⟩:=hS.len;have e:∃A c,s=.slice A 0 c∧0≤c:=by
   rcases hs.2 with ⟨rfl,_⟩ | ⟨g,cap,cur,rfl,_⟩
   ·exact ⟨_,_,rfl,Nat.le_refl _⟩
   ·exact ⟨_,_,rfl,Nat.zero_le _⟩
  obtain ⟨A,c,rfl,hc⟩:=e;exact ⟨_,w,run_append_zero (by kernel_rfl) hi A C 0 c c' hc,hs,grownBy_refl _ _⟩
 ·obtain ⟨b,off,cap,rfl,hcap,hbk,hc,hu⟩:=hS.open hne
  obtain ⟨v',w',hr,h2,h3,-⟩:=run_append_own (P:=Try.prog) w B 32 ty 28 i0 (.slice none 0 0) 1 _ (by kernel_rfl) hi hz0 hz1 rfl rfl (by decide) s 0 _ hs ⟨b,off,none⟩ ll.length cap us (by omega) (by
   intro j u hj;rw [add_plain];have hjl:j<us.length:=(List.getElem?_eq_some_iff.1 hj).1;rw [hc j (by omega),List.getD_eq_getElem?_getD,hj]; rfl) (by
   intro u hu';obtain ⟨j,hj,rfl⟩:=List.mem_iff_getElem.1 hu';have:=(hu j (by omega)).one;simpa [List.getD_eq_getElem?_getD,hj] using this) (by unfold maxLen; omega) (by rw [hz2]; omega) hB
  refine ⟨v',w',hr,by simpa using h2,h3⟩
structure FstL (l:List Int) (x:Int) (i:Nat):Prop where
 lt:i<l.length
 hit:l.getD i 0=x
 miss:∀j,j<i→l.getD j 0≠x
theorem erase_none (l:List Int) (x:Int) (h:∀j,j<l.length→l.getD j 0≠x):l.erase x=l:=by
 refine List.erase_of_not_mem fun hm=>?_;obtain ⟨j,hj,e⟩:=List.mem_iff_getElem.1 hm;exact h j hj (by simpa [List.getD_eq_getElem?_getD,hj] using e)
theorem FstL.erase {l:List Int} {x:Int} {i:Nat} (h:FstL l x i):l.erase x=l.take i ++ l.drop (i+1):=by
 induction l generalizing i with
 | nil=>exact absurd h.lt (by simp)
 | cons y l ih=>
  cases i with
  | zero=>
   have e:y=x:=by simpa using h.hit
   subst e;simp
  | succ i=>
   have e:y≠x:=by simpa using h.miss 0 (Nat.succ_pos _)
   have hi:FstL l x i:=⟨by simpa using h.lt,by simpa using h.hit,fun j hj=>by simpa using h.miss (j+1) (by omega)⟩;rw [List.erase_cons_tail (by simpa using e),ih hi];simp
theorem rword_any (v:Value) (m:MemM) (x:Int) (w:World) (h:MemV w v m) :
  Calls Try.prog 79 #[v,.int .i64 x] w fun e w'=>e=.returned (.bool (hasB m.words.length x))∧Below w.heap.size w w':=by
 obtain ⟨vw,vl,us,rfl,h1,h2⟩:=h;have hl:=h1.1;have hl2:=h2.1;obtain ⟨a,cap,rfl,-⟩:=h1.len;obtain ⟨a2,cap2,rfl,-⟩:=h2.len;clear h1 h2;generalize m.words.length=n at *;generalize m.lists.length=n2 at *;by_cases h0:0≤x
 ·have hd:decide (0≤x)=true:=by simpa using h0
  go_enter Try.func79,Try.ntmps79;go_wp2;go_ret;exact ⟨ret_bool (by simp [hasB,h0]),below_new (Below.refl _ _) _⟩
 ·have hd:decide (0≤x)=false:=by simpa using h0
  go_enter Try.func79,Try.ntmps79;go_wp2;go_ret;exact ⟨ret_bool (by simp only [hasB,hd,Bool.false_and]),below_new (Below.refl _ _) _⟩
theorem rlist_any (v:Value) (m:MemM) (x:Int) (w:World) (h:MemV w v m) :
  Calls Try.prog 76 #[v,.int .i64 x] w fun e w'=>e=.returned (.bool (hasB m.lists.length x))∧Below w.heap.size w w':=by
 obtain ⟨vw,vl,us,rfl,h1,h2⟩:=h;have hl:=h1.1;have hl2:=h2.1;obtain ⟨a,cap,rfl,-⟩:=h1.len;obtain ⟨a2,cap2,rfl,-⟩:=h2.len;clear h1 h2;generalize m.words.length=n at *;generalize m.lists.length=n2 at *;by_cases h0:0≤x
 ·have hd:decide (0≤x)=true:=by simpa using h0
  go_enter Try.func76,Try.ntmps76;go_wp2;go_ret;exact ⟨ret_bool (by simp [hasB,h0]),below_new (Below.refl _ _) _⟩
 ·have hd:decide (0≤x)=false:=by simpa using h0
  go_enter Try.func76,Try.ntmps76;go_wp2;go_ret;exact ⟨ret_bool (by simp only [hasB,hd,Bool.false_and]),below_new (Below.refl _ _) _⟩
def zeroMem:Array Value:=#[.slice none 0 0,.slice none 0 0,.int .i64 0]
set_option maxHeartbeats 1000000 in
theorem rset_any (G:World→Prop) (v:Value) (m:MemM) (i:Nat) (u:Int) (w:World) (hG:G w) (hcl:Wide G) (h:StM G v m) (hi:i<m.words.length) (hm:m.fits) (hu:u=IntKind.u64.wrap u) :
  Calls Try.prog 80 #[v,.int .i64 i,.int .u64 u] w fun e w'=>∃v',e=.returned v'∧StM (Nx G w w') v' ⟨m.words.set i u,m.lists,m.tick⟩∧Below w.heap.size w w':=by
 obtain ⟨vw,vl,us,rfl,hall⟩:=h;obtain ⟨h1,h2⟩:=hall w hG;have HW0:=Lib.hid h1;have hw1:=hm.words;obtain ⟨a,cap,rfl,-⟩:=h1.len;obtain ⟨a2,cap2,rfl,-⟩:=h2.len;have HM:=Lib.hid hm;have HU:=Lib.hid hu;have HALL:=Lib.hid hall;clear h1 h2 hm hu hall hG hcl;obtain ⟨W,hW⟩:∃W,(w.alloc (.cells #[.slice a m.words.length cap,.slice a2 m.lists.length cap2,.int .i64 m.tick] 34)).alloc (.cells zeroMem 34)=W:=⟨_,rfl⟩;have HB:Hid (Below w.heap.size w W):=hW▸below_new (below_new (Below.refl w.heap.size w) _) _;have hz:w.heap.size+2≤W.heap.size:=by rw [← hW]; simp
 have R0:Hid (W.heap[w.heap.size]?=some (.cells #[.slice a m.words.length cap,.slice a2 m.lists.length cap2,.int .i64 m.tick] 34 (0,0))):=hW▸heap_alloc2_old _ _ _;have R1:Hid (W.heap[w.heap.size+1]?=some (.cells zeroMem 34 (0,0))):=hW▸heap_alloc2_new _ _ _;have HW:=Lib.hid hW;clear hW;have c0:=cell_of_row _ _ 0 _ _ _ R0.out;simp at c0;go_enter Try.func80,Try.ntmps80;go_upto_region 1 with fail
 rw [show (#[.slice none 0 0,.slice none 0 0,.int .i64 0]:Array Value)=zeroMem from rfl,HW.out];obtain ⟨v1,w1,hr,ho,hg1⟩:=run_copy_u64 W 29 W.heap.size (Nat.le_refl _) (.slice none 0 0) (World.ownsRow_nil _ _ _ _) _ m.words (HW0.out.below HB.out) (by omega);have hb1:Below W.heap.size W w1:=(Below.refl _ _).grown hg1 (Nat.le_refl _) (fun j hj=>by cases hj);clear hg1;obtain ⟨g,cg,e1⟩:∃g c,v1=.slice (some ⟨g,0,none⟩) m.words.length c:=by
  rcases ho.shape with ⟨_,h⟩ | ⟨g,c,h,_⟩
  ·rw [h] at hi; simp at hi
  ·exact ⟨g,c,h⟩
 subst e1;have hgW:W.heap.size≤g:=ho.own_ge g rfl;have HO:=Lib.hid ho;have S0:=Lib.hid ((hb1.block w.heap.size (by omega)).trans R0.out);have S1:=Lib.hid ((hb1.block (w.heap.size+1) (by omega)).trans R1.out);have HB1:=Lib.hid (HB.out.trans (hb1.mono (by omega)));have hz1:w.heap.size+2≤w1.heap.size:=Nat.le_trans hz hb1.size;clear ho hb1;generalize hn:m.words.length=n at *;have HN:=Lib.hid hn;clear hn;obtain ⟨d0,d1,d2⟩:=rowc3 S0.out;have f0:=frozen_of_row _ _ 0 _ _ S0.out;have T0:=Lib.hid (heap_setCell_same w1 w.heap.size 0 _ _ (.slice (some ⟨g,0,none⟩) n cg) S0.out);simp at T0;obtain ⟨t0,t1,t2⟩:=rowc3 T0.out;have HO2:=Lib.hid (HO.out.setOther ⟨w.heap.size,0,none⟩ (by show g≠w.heap.size; omega) (.slice (some ⟨g,0,none⟩) n cg));obtain ⟨k0,k1⟩:=HO2.out.cell i (by rw [HN.out]; exact hi);have HO3:=Lib.hid (HO2.out.store i u HN.out.symm);have TROW:=Lib.hid ((heap_setCell_other (w1.setCell ⟨w.heap.size,0,none⟩ (.slice (some ⟨g,0,none⟩) n cg)) ⟨g,i,none⟩ (w.heap.size+1) (.int .u64 u) (by show w.heap.size+1≠g; omega)).trans ((heap_setCell_other w1 ⟨w.heap.size,0,none⟩ (w.heap.size+1) (.slice (some ⟨g,0,none⟩) n cg) (by simp)).trans S1.out));go_wp2_with (first | (at_builtin; refine Lib.wpList_append_run _ rfl _ _ _ _ rfl _ _ rfl rfl _ _ hr ?_) | (refine wpList_store_row rfl 34 _ _ rfl (w.heap.size+1) _ rfl rfl 34 zeroMem TROW.out (by kernel_rfl) rfl (by simp [Value.oneCell']) ?_));refine bodyPost_ret (v:=.agg #[.slice (some ⟨g,0,none⟩) n cg,.slice a2 m.lists.length cap2,.int .i64 m.tick]) (results_cell_row Try.results80 _ _ (w.heap.size+1) 34 _ (0,0) _ rfl (setRow_heap _ _ _ _ 34 (0,0) TROW.out) Try.underlying34 rfl (by kernel_rfl)) rfl ?_;have hbe:=row_below (((HB1.out.setCell (p:=⟨w.heap.size,0,none⟩) (Nat.le_refl _) (.slice (some ⟨g,0,none⟩) n cg)).setCell (p:=⟨g,i,none⟩) (by show w.heap.size≤g; omega) (.int .u64 u))) (Nat.le_succ _) #[.slice (some ⟨g,0,none⟩) n cg,.slice a2 m.lists.length cap2,.int .i64 m.tick];have hfi:=fits_put HM.out i u HU.out;refine ⟨_,rfl,⟨_,_,us,rfl,fun w2 hw2=>⟨((HO3.out.kept (row_grown _ _ _) (HO3.out.ne (by omega))).newPart (by omega) hw2.2).read ?_ hfi.wf,(HALL.out w2 hw2.1).2⟩⟩,hbe⟩
 have:=hfi.words;simp only at this ⊢;omega
set_option maxHeartbeats 1000000 in
theorem rput_any (G:World→Prop) (v:Value) (m:MemM) (i:Nat) (u:Value) (l:List Int) (w:World) (hG:G w) (hcl:Wide G) (h:StM G v m) (hi:i<m.lists.length) (hm:m.fits) (hu:StI G .i64 u l) :
  Calls Try.prog 78 #[v,.int .i64 i,u] w fun e w'=>∃v',e=.returned v'∧StM (Nx G w w') v' ⟨m.words,m.lists.set i l,m.tick⟩∧Below w.heap.size w w':=by
 obtain ⟨vw,vl,us,rfl,hall⟩:=h;obtain ⟨h1,h2⟩:=hall w hG;have hu0:=hu w hG;have hus:=h2.2.1;have HL:=Lib.hid h2;have hw1:=hm.lists;obtain ⟨a,cap,rfl,-⟩:=h1.len;obtain ⟨a2,cap2,rfl,-⟩:=h2.len;obtain ⟨ua,uc,rfl,-⟩:=hu0.len;have HALL:=Lib.hid hall;have HU:=Lib.hid hu;clear h1 h2 hm hu0 hall hG hcl hu;obtain ⟨W,hW⟩:∃W,(w.alloc (.cells #[.slice a m.words.length cap,.slice a2 m.lists.length cap2,.int .i64 m.tick] 34)).alloc (.cells zeroMem 34)=W:=⟨_,rfl⟩;have HB:Hid (Below w.heap.size w W):=hW▸below_new (below_new (Below.refl w.heap.size w) _) _;have hz:w.heap.size+2≤W.heap.size:=by rw [← hW]; simp
 have R0:Hid (W.heap[w.heap.size]?=some (.cells #[.slice a m.words.length cap,.slice a2 m.lists.length cap2,.int .i64 m.tick] 34 (0,0))):=hW▸heap_alloc2_old _ _ _;have R1:Hid (W.heap[w.heap.size+1]?=some (.cells zeroMem 34 (0,0))):=hW▸heap_alloc2_new _ _ _;have HW:=Lib.hid hW;clear hW;have c1:=cell_of_row _ _ 1 _ _ _ R0.out;simp at c1;go_enter Try.func78,Try.ntmps78;go_upto_region 1 with fail
 rw [show (#[.slice none 0 0,.slice none 0 0,.int .i64 0]:Array Value)=zeroMem from rfl,HW.out];obtain ⟨v1,w1,hr,ho,hg1⟩:=run_copy_li W 32 W.heap.size (Nat.le_refl _) (.slice none 0 0) (World.ownsRow_nil _ _ _ _) _ us m.lists (HL.out.below HB.out) (by omega);have hb1:Below W.heap.size W w1:=(Below.refl _ _).grown hg1 (Nat.le_refl _) (fun j hj=>by cases hj);clear hg1;obtain ⟨g,cg,e1,hgW,hg1⟩:∃g c,v1=.slice (some ⟨g,0,none⟩) m.lists.length c∧W.heap.size≤g∧g<w1.heap.size:=by
  rcases ho.2 with ⟨_,h⟩ | ⟨g,c,cur,h,h2,h3,_⟩
  ·omega
  ·exact ⟨g,c,h,h2,(Array.getElem?_eq_some_iff.1 h3).1⟩
 subst e1;have HO:=Lib.hid ho;have S0:=Lib.hid ((hb1.block w.heap.size (by omega)).trans R0.out);have S1:=Lib.hid ((hb1.block (w.heap.size+1) (by omega)).trans R1.out);have HB1:=Lib.hid (HB.out.trans (hb1.mono (by omega)));have hz1:w.heap.size+2≤w1.heap.size:=Nat.le_trans hz hb1.size;clear ho hb1;generalize hn:m.lists.length=n at *;have HN:=Lib.hid hn;clear hn;obtain ⟨d0,d1,d2⟩:=rowc3 S0.out;have f1:=frozen_of_row _ _ 1 _ _ S0.out;have T0:=Lib.hid (heap_setCell_same w1 w.heap.size 1 _ _ (.slice (some ⟨g,0,none⟩) n cg) S0.out);simp at T0;obtain ⟨t0,t1,t2⟩:=rowc3 T0.out;have hne:g≠w.heap.size:=by omega
 have gr1:=grownBy_setCell w1 ⟨w.heap.size,1,none⟩ (.slice (some ⟨g,0,none⟩) n cg);have hrow2:=HO.out.kept gr1 (.inr (by simpa [Value.ownBlock] using hne));have k0:(w1.setCell ⟨w.heap.size,1,none⟩ (.slice (some ⟨g,0,none⟩) n cg)).cell? ⟨g,i,none⟩=some (us.getD i (.slice none 0 0)):=by
  rw [World.ownsRow.cellAt hrow2 i (by omega)];simp [List.getD_eq_getElem?_getD,show i<us.length by omega]
 have k1:=hrow2.frozenAt i;have HR2:=Lib.hid hrow2;obtain ⟨uo,huo⟩:∃uo,us.getD i (.slice none 0 0)=uo:=⟨_,rfl⟩;rw [huo] at k0;clear hrow2 gr1 huo;have TROW:=Lib.hid ((heap_setCell_other (w1.setCell ⟨w.heap.size,1,none⟩ (.slice (some ⟨g,0,none⟩) n cg)) ⟨g,i,none⟩ (w.heap.size+1) (.slice ua l.length uc) (by show w.heap.size+1≠g; omega)).trans ((heap_setCell_other w1 ⟨w.heap.size,1,none⟩ (w.heap.size+1) (.slice (some ⟨g,0,none⟩) n cg) (by simp)).trans S1.out));go_wp2_with (first | (at_builtin; refine Lib.wpList_append_run _ rfl _ _ _ _ rfl _ _ rfl rfl _ _ hr ?_) | (refine wpList_store_row rfl 34 _ _ rfl (w.heap.size+1) _ rfl rfl 34 zeroMem TROW.out (by kernel_rfl) rfl (by simp [Value.oneCell']) ?_));refine bodyPost_ret (v:=.agg #[.slice a m.words.length cap,.slice (some ⟨g,0,none⟩) n cg,.int .i64 m.tick]) (results_cell_row Try.results78 _ _ (w.heap.size+1) 34 _ (0,0) _ rfl (setRow_heap _ _ _ _ 34 (0,0) TROW.out) Try.underlying34 rfl (by kernel_rfl)) rfl ?_;have hb2:=((HB1.out.setCell (p:=⟨w.heap.size,1,none⟩) (Nat.le_refl _) (.slice (some ⟨g,0,none⟩) n cg)).setCell (p:=⟨g,i,none⟩) (by show w.heap.size≤g; omega) (.slice ua l.length uc));have hbe:=row_below hb2 (Nat.le_succ _) #[.slice a m.words.length cap,.slice (some ⟨g,0,none⟩) n cg,.int .i64 m.tick];have r3:=(World.ownsRow.stored HR2.out i (.slice ua l.length uc)).1.kept (row_grown _ (w.heap.size+1) #[.slice a m.words.length cap,.slice (some ⟨g,0,none⟩) n cg,.int .i64 m.tick]) (.inr (by simp [Value.ownBlock]; omega));refine ⟨_,rfl,⟨_,_,us.set i (.slice ua l.length uc),rfl,fun w2 hw2=>⟨(HALL.out w2 hw2.1).1,?_⟩⟩,hbe⟩;refine row_read (base:=W.heap.size) ?_ (each_set (by rw [hus,HN.out]) i (HU.out w2 hw2.1) (HALL.out w2 hw2.1).2.each) (by rw [List.length_set,HN.out]; omega);rw [List.length_set,HN.out];exact row_newPart r3 (by omega) hw2.2
structure Ext (W:World) where
 wd:World
 below:Below W.heap.size W wd
instance (W:World):Nonempty (Ext W):=⟨⟨W,Below.refl _ _⟩⟩
theorem wp_region_ext {P:Program} {id:Nat} {Q:Exit→Act→World→Prop} {a:Act} {w:World} {l:List Oper} (W:World) (hm:P.follows .mixedOrders=true) (hB:Region.lexB .any l.toArray=true) (hW:Below W.heap.size W w)
  (h:wpQuiet P l.toArray (fun w'=>∃n:Ext W,w'=n.wd) (fun a'=>∀w',(∃n:Ext W,w'=n.wd)→Q .normal a' w') l a):(Code.region id l.toArray true).wp P Q a w:=
 wp_region_quiet (C:=fun w'=>∃n:Ext W,w'=n.wd) hm hB ⟨⟨_,below_drewN hW 1⟩,rfl⟩ (by simpa using h)
theorem calls_ext {P:Program} {f:FuncId} {args:Array Value} {W:World} {n:Ext W} {v:Value}
  (h:Calls P f args n.wd fun e w'=>e=.returned v∧Below n.wd.heap.size n.wd w'):Calls P f args n.wd fun e w''=>e=.returned v∧∃m:Ext W,w''=m.wd:=
 h.mono fun _ w' ⟨he,hm⟩=>⟨he,⟨w',below_then n.below hm⟩,rfl⟩
theorem ext_cell {W:World} (b o:Nat) (h:b<W.heap.size) (v:Value) (hc:W.cell? ⟨b,o,none⟩=some v) (n:Ext W):n.wd.cell? ⟨b,o,none⟩=some v:=(n.below.cell (p:=⟨b,o,none⟩) h).trans hc
theorem ne_beq {x c:Int} (h:x≠c):(x == c)=false:=by simpa using h
theorem hasB_true {n:Nat} {x:Int} (h:hasB n x=true):∃i:Nat,x=i∧i<n:=by
 simp only [hasB,Bool.and_eq_true,decide_eq_true_eq] at h;exact ⟨x.toNat,by omega,by omega⟩
theorem results_cells3 {fn:Func} {P:Program} {p q u:Tmp} {t1 t2:TypeId} (h:fn.results=#[.cell p t1,.cell q t2,.tmp u]) (tmps:Array Value) (w:World) (g1 g2:Nat) (u1 u2:TypeId) (c1 c2:Array Value) (f1 f2:Nat × Nat) (d1 d2:TypeDesc)
  (hp:tmps.getD p undef=.pointer (some ⟨g1,0,none⟩)) (hq:tmps.getD q undef=.pointer (some ⟨g2,0,none⟩)) (hg1:w.heap[g1]?=some (.cells c1 u1 f1)) (hg2:w.heap[g2]?=some (.cells c2 u2 f2))
  (hu1:P.underlying t1=some d1) (hd1:(match d1 with | .struct _ | .array _ _=>true | _=>false)=true) (hi1:(P.info? t1).map (·.size)=some c1.size)
  (hu2:P.underlying t2=some d2) (hd2:(match d2 with | .struct _ | .array _ _=>true | _=>false)=true) (hi2:(P.info? t2).map (·.size)=some c2.size) (x:Value) (hx:tmps.getD u undef=x) :
  (results fn tmps).run P w=.ok (.tuple #[.agg c1,.agg c2,x]) w:=by
 have hp':tmps[p]?.getD undef=.pointer (some ⟨g1,0,none⟩):=by simpa using hp
 have hq':tmps[q]?.getD undef=.pointer (some ⟨g2,0,none⟩):=by simpa using hq
 have hx':tmps[u]?.getD undef=x:=by simpa using hx
 simp [results,h,hp',hq',hx',asAddr,run_loadVar_row w g1 u1 t1 c1 f1 d1 hg1 hu1 hd1 hi1,run_loadVar_row w g2 u2 t2 c2 f2 d2 hg2 hu2 hd2 hi2]
theorem heap_alloc4 (w:World) (A B C D:Obj):let W:=(((w.alloc A).alloc B).alloc C).alloc D
  W.heap[w.heap.size]?=some A∧W.heap[w.heap.size+1]?=some B∧W.heap[w.heap.size+2]?=some C∧W.heap[w.heap.size+3]?=some D∧W.heap.size=w.heap.size+4∧Below w.heap.size w W:=by
 intro W;have hs:((w.alloc A).alloc B).heap.size=w.heap.size+2:=by simp
 have hb:=below_new (below_new (Below.refl ((w.alloc A).alloc B).heap.size ((w.alloc A).alloc B)) C) D;have e2:=heap_alloc2_old ((w.alloc A).alloc B) C D;have e3:=heap_alloc2_new ((w.alloc A).alloc B) C D;rw [hs] at e2 e3 hb;exact ⟨(hb.block _ (by omega)).trans (heap_alloc2_old w A B),(hb.block _ (by omega)).trans (heap_alloc2_new w A B),e2,e3,by simp [W],below_new (below_new (below_new (below_new (Below.refl _ _) _) _) _) _⟩
def zeroAns:Array Value:=#[.int .u64 0,.bool false,.bool false,.slice none 0 0]
theorem word_none {m:MemM} {a:AccM} (h:hasB m.words.length a.addr=false):wordE m a=(m,ansZ):=by simp [wordE,h]
theorem word_put {m:MemM} {k ad old nw til:Int} (h:hasB m.words.length ad=true) (hk:k=2∨k=6):wordE m ⟨k,ad,old,nw,til⟩=(⟨m.words.set ad.toNat nw,m.lists,m.tick⟩,ansZ):=by simp [wordE,h,hk]
theorem word_cas {m:MemM} {ad old nw til:Int} (h:hasB m.words.length ad=true) (hk:m.words.getD ad.toNat 0=old):wordE m ⟨3,ad,old,nw,til⟩=(⟨m.words.set ad.toNat nw,m.lists,m.tick⟩,⟨m.words.getD ad.toNat 0,true,false,[]⟩):=by unfold wordE; simp only [h]; simp only [List.getD_eq_getElem?_getD] at *; simp [hk]
theorem word_miss {m:MemM} {ad old nw til:Int} (h:hasB m.words.length ad=true) (hk:m.words.getD ad.toNat 0≠old):wordE m ⟨3,ad,old,nw,til⟩=(m,⟨m.words.getD ad.toNat 0,false,false,[]⟩):=by unfold wordE; simp only [h]; simp only [List.getD_eq_getElem?_getD] at *; simp [hk]
theorem word_wait {m:MemM} {ad old nw til:Int} (h:hasB m.words.length ad=true):wordE m ⟨4,ad,old,nw,til⟩=(m,⟨m.words.getD ad.toNat 0,false,m.words.getD ad.toNat 0 == old,[]⟩):=by unfold wordE; simp [h]
theorem word_load {m:MemM} {k ad old nw til:Int} (h:hasB m.words.length ad=true) (h2:k≠2) (h3:k≠3) (h4:k≠4) (h6:k≠6):wordE m ⟨k,ad,old,nw,til⟩=(m,⟨m.words.getD ad.toNat 0,false,false,[]⟩):=by unfold wordE; simp [h,h2,h3,h4,h6]
theorem StM.open {G:World→Prop} {v:Value} {m:MemM} (h:StM G v m) (w:World) (hG:G w):∃a cap a2 cap2,v=.agg #[.slice a m.words.length cap,.slice a2 m.lists.length cap2,.int .i64 m.tick]:=by
 obtain ⟨vw,vl,us,rfl,hall⟩:=h;obtain ⟨h1,h2⟩:=hall w hG;obtain ⟨a,cap,rfl,-⟩:=h1.len;obtain ⟨a2,cap2,rfl,-⟩:=h2.len;exact ⟨_,_,_,_,rfl⟩
theorem StM.words {G:World→Prop} {a a2:Option Addr} {n cap n2 cap2:Nat} {t:Int} {m:MemM} (h:StM G (.agg #[.slice a n cap,.slice a2 n2 cap2,.int .i64 t]) m) (w:World) (hG:G w):SlI w .u64 (.slice a n cap) m.words:=by
 obtain ⟨vw,vl,us,e,hall⟩:=h;obtain ⟨h1,h2⟩:=hall w hG;simp only [Value.agg.injEq,Array.mk.injEq,List.cons.injEq,and_true] at e;rw [e.1]; exact h1
theorem StM.listsOf {G:World→Prop} {a a2:Option Addr} {n cap n2 cap2:Nat} {t:Int} {m:MemM} (h:StM G (.agg #[.slice a n cap,.slice a2 n2 cap2,.int .i64 t]) m):∃us,∀w,G w→SlL w (.slice a2 n2 cap2) us m.lists:=by
 obtain ⟨vw,vl,us,e,hall⟩:=h;simp only [Value.agg.injEq,Array.mk.injEq,List.cons.injEq,and_true] at e;exact ⟨us,fun w hG=>by rw [e.2.1]; exact (hall w hG).2⟩
structure ItemM where
 thr:Int
 acc:AccM
 val:Int
 ok:Bool
def noItem:ItemM:=⟨0,⟨0,0,0,0,0⟩,0,false⟩
structure ItemM.good (x:ItemM):Prop where
 thr:x.thr=IntKind.i64.wrap x.thr
 acc:x.acc.ok
 val:x.val=IntKind.u64.wrap x.val
def itemCells (x:ItemM):List Value:=[.int .i64 x.thr,.int .i64 x.acc.kind,.int .i64 x.acc.addr,.int .u64 x.acc.old,.int .u64 x.acc.new,.int .i64 x.acc.til,.int .u64 x.val,.bool x.ok]
def itemV (x:ItemM):Value:=.agg #[.int .i64 x.thr,.int .i64 x.acc.kind,.int .i64 x.acc.addr,.int .u64 x.acc.old,.int .u64 x.acc.new,.int .i64 x.acc.til,.int .u64 x.val,.bool x.ok]
end Go.Proofs.Ytifhafjhmjkekaa
