import Derived.WalkKit
import Derived.WalkLawsBesides
import Derived.WalkSpells
import Derived.ProofKit
import Derived.Lib.Hide
import Derived.LoopTactic
import Derived.Test.YtiekicailidhcaaRows
import Derived.SizedLaws
import Derived.OpenShut
import Derived.OrdersHeld
import Derived.RegionTactic
import Derived.Laws.Tables
import Derived.Laws.MakeOwn
import Derived.Laws.AppendOwn
import Derived.Laws.OwnMore
import Derived.Maps.AppendAt
import Derived.Lib.AppendZeros
import Derived.Deep.MidRow
import Derived.RowKit
import Derived.Laws.AppendOwnNone
set_option linter.unusedVariables false
set_option linter.unusedSimpArgs false
namespace Go.Proofs.Ytiekicailidhcaa
open Go.ChangeShapes Go.WideShapes Go.ChangeAt Go.RowKit
set_option maxRecDepth 100000
theorem ret_i64 {a b:Int} (h:a=b):Ending.returned (.int .i64 a)=.returned (.int .i64 b):=by rw [h]
theorem ret_bool {a b:Bool} (h:a=b):Ending.returned (.bool a)=.returned (.bool b):=by rw [h]
def SlI (w:World) (k:IntKind) (v:Value) (l:List Int):Prop:=
 l.length≤140737488351232∧(∀x∈l,x=k.wrap x)∧∃a cap,v=.slice a l.length cap∧l.length≤cap∧
  ∀t,t<l.length→∃b off,a=some ⟨b,off,none⟩∧b<w.heap.size∧w.cell? ⟨b,off+t,none⟩=some (.int k (l.getD t 0))
theorem SlI.below {w w':World} {k:IntKind} {v:Value} {l:List Int} (h:SlI w k v l) (hb:Below w.heap.size w w'):SlI w' k v l:=by
 obtain ⟨h1,h2,a,cap,h3,h4,h5⟩:=h;refine ⟨h1,h2,a,cap,h3,h4,fun t ht=>?_⟩;obtain ⟨b,off,e,hlt,hc⟩:=h5 t ht;exact ⟨b,off,e,Nat.lt_of_lt_of_le hlt hb.size,(hb.cell (p:=⟨b,off+t,none⟩) hlt).trans hc⟩
theorem SlI.drew {w:World} {k:IntKind} {v:Value} {l:List Int} (h:SlI w k v l) (n:Nat):SlI (w.drewN n) k v l:=h
theorem SlI.open {w:World} {k:IntKind} {v:Value} {l:List Int} (h:SlI w k v l) (hne:l≠[]) :
  ∃b off cap,v=.slice (some ⟨b,off,none⟩) l.length cap∧l.length≤cap∧b<w.heap.size∧∀t,t<l.length→w.cell? ⟨b,off+t,none⟩=some (.int k (l.getD t 0)):=by
 obtain ⟨_,_,a,cap,rfl,h4,h5⟩:=h;obtain ⟨b,off,rfl,hlt,_⟩:=h5 0 (List.length_pos_iff.2 hne);refine ⟨b,off,cap,rfl,h4,hlt,fun t ht=>?_⟩;obtain ⟨b',off',e,_,hc⟩:=h5 t ht;simp only [Option.some.injEq,Addr.mk.injEq] at e;obtain ⟨rfl,rfl,_⟩:=e;exact hc
theorem SlI.len {w:World} {k:IntKind} {v:Value} {l:List Int} (h:SlI w k v l):∃a cap,v=.slice a l.length cap∧l.length≤cap:=by
 obtain ⟨_,_,a,cap,rfl,h4,h5⟩:=h;exact ⟨a,cap,rfl,h4⟩
theorem SlI.nil (w:World) (k:IntKind):SlI w k (.slice none 0 0) []:=
 ⟨by simp,by simp,none,0,rfl,Nat.le_refl _,fun t ht=>by simp at ht⟩
def OwnI (w:World) (base:Nat) (e:TypeId) (k:IntKind) (v:Value) (l:List Int):Prop:=
 w.ownsRow base e 1 v l.length (l.map (.int k))
theorem OwnI.shape {w:World} {base:Nat} {e:TypeId} {k:IntKind} {v:Value} {l:List Int} (h:OwnI w base e k v l) :
  (v=.slice none 0 0∧l=[])∨∃g cap,v=.slice (some ⟨g,0,none⟩) l.length cap∧base≤g∧g<w.heap.size∧l.length≤cap∧l.length≤maxLen:=by
 rcases h.2 with ⟨rfl,h2⟩ | ⟨g,cap,cur,rfl,h3,h4,h5,h6,_,_⟩
 ·exact .inl ⟨rfl,List.length_eq_zero_iff.1 h2⟩
 ·refine .inr ⟨g,cap,rfl,h3,?_,h5,by omega⟩
  exact (Array.getElem?_eq_some_iff.1 h4).1
theorem OwnI.cell {w:World} {base:Nat} {e:TypeId} {k:IntKind} {g n cap:Nat} {l:List Int} (h:OwnI w base e k (.slice (some ⟨g,0,none⟩) n cap) l) (i:Nat) (hi:i<l.length) :
  w.cell? ⟨g,i,none⟩=some (.int k (l.getD i 0))∧w.frozen? ⟨g,i,none⟩=false:=by
 have hn:n=l.length:=by
  rcases h.2 with ⟨h1,h2⟩ | ⟨g,cap,cur,h1,_⟩
  ·simp at h1
  ·simp only [Value.slice.injEq] at h1; exact h1.2.1
 subst hn;refine ⟨?_,h.frozenAt i⟩;rw [World.ownsRow.cellAt h i (by omega)];simp [List.getD_eq_getElem?_getD,hi]
theorem OwnI.store {w:World} {base:Nat} {e:TypeId} {k:IntKind} {g n cap:Nat} {l:List Int} (h:OwnI w base e k (.slice (some ⟨g,0,none⟩) n cap) l) (i:Nat) (x:Int) (hn:n=l.length) :
  OwnI (w.setCell ⟨g,i,none⟩ (.int k x)) base e k (.slice (some ⟨g,0,none⟩) n cap) (l.set i x):=by
 subst hn;have:=(World.ownsRow.stored h i (.int k x)).1;unfold OwnI;rw [List.length_set,List.map_set];exact this
theorem OwnI.drew {w:World} {base:Nat} {e:TypeId} {k:IntKind} {v:Value} {l:List Int} (h:OwnI w base e k v l) (n:Nat):OwnI (w.drewN n) base e k v l:=h
theorem OwnI.read {w:World} {base:Nat} {e:TypeId} {k:IntKind} {v:Value} {l:List Int} (h:OwnI w base e k v l) (hl:l.length≤140737488351232) (hw:∀x∈l,x=k.wrap x):SlI w k v l:=by
 rcases h.shape with ⟨rfl,rfl⟩ | ⟨g,cap,rfl,h1,h2,h3,h4⟩
 ·exact SlI.nil w k
 ·refine ⟨hl,hw,some ⟨g,0,none⟩,cap,rfl,h3,fun t ht=>⟨g,0,rfl,h2,?_⟩⟩
  rw [Nat.zero_add]; exact (h.cell t ht).1
theorem OwnI.kept {w w':World} {base:Nat} {e:TypeId} {k:IntKind} {v:Value} {l:List Int} {row:Option Nat} (h:OwnI w base e k v l) (hg:w.grownBy w' row) (hne:v.ownBlock=none∨v.ownBlock≠row):OwnI w' base e k v l:=World.ownsRow.kept h hg hne
theorem OwnI.below {w w':World} {base:Nat} {e:TypeId} {k:IntKind} {v:Value} {l:List Int} (h:OwnI w base e k v l) (hb:Below w.heap.size w w'):OwnI w' base e k v l:=by
 refine h.kept (row:=none) ⟨hb.os,hb.tape,hb.output,hb.size,fun j hj _=>hb.block j hj⟩ ?_;cases hv:v.ownBlock with
 | none=>exact .inl rfl
 | some x=>exact .inr (by simp)
theorem OwnI.alloc {w:World} {base:Nat} {e:TypeId} {k:IntKind} {v:Value} {l:List Int} (h:OwnI w base e k v l) (o:Obj):OwnI (w.alloc o) base e k v l:=World.ownsRow.alloc h o
theorem OwnI.ne {w:World} {base:Nat} {e:TypeId} {k:IntKind} {v:Value} {l:List Int} (h:OwnI w base e k v l) {g:Nat} (hg:g<base):v.ownBlock=none∨v.ownBlock≠some g:=by
 rcases h.shape with ⟨rfl,_⟩ | ⟨g',cap,rfl,h1,_⟩
 ·exact .inl rfl
 ·refine .inr ?_
  simp only [Value.ownBlock,ne_eq,Option.some.injEq];omega
theorem OwnI.nil (w:World) (base:Nat) (e:TypeId) (k:IntKind):OwnI w base e k (.slice none 0 0) []:=World.ownsRow_nil w base e 1
theorem grownBy_trans {a b c:World} {row:Option Nat} (h:a.grownBy b row) (h2:b.grownBy c row):a.grownBy c row:=
 ⟨h2.os.trans h.os,h2.tape.trans h.tape,h2.output.trans h.output,Nat.le_trans h.size h2.size,fun k hk hr=>(h2.block k (Nat.lt_of_lt_of_le hk h.size) hr).trans (h.block k hk hr)⟩
theorem grownBy_refl (a:World) (row:Option Nat):a.grownBy a row:=⟨rfl,rfl,rfl,Nat.le_refl _,fun _ _ _=>rfl⟩
theorem grownBy_of_below {a b c:World} {row:Option Nat} (h:a.grownBy b row) (h2:Below a.heap.size b c):a.grownBy c row:=
 ⟨h2.os.trans h.os,h2.tape.trans h.tape,h2.output.trans h.output,Nat.le_trans h.size h2.size,fun k hk hr=>(h2.block k hk).trans (h.block k hk hr)⟩
theorem grownBy_of_new {a b c:World} {row r2:Option Nat} (h:a.grownBy b row) (h2:b.grownBy c r2) (hr2:∀k,r2=some k→a.heap.size≤k):a.grownBy c row:=
 ⟨h2.os.trans h.os,h2.tape.trans h.tape,h2.output.trans h.output,Nat.le_trans h.size h2.size,fun k hk hr=>(h2.block k (Nat.lt_of_lt_of_le hk h.size) (fun e=>by have:=hr2 k e.symm; omega)).trans (h.block k hk hr)⟩
theorem grownBy_setCell (w:World) (a:Addr) (u:Value):w.grownBy (w.setCell a u) (some a.block):=
 ⟨rfl,rfl,rfl,by simp,fun k _ hk=>heap_setCell_other w a k u (fun e=>hk (by rw [e]))⟩
theorem OwnI.own_ge {w:World} {base:Nat} {e:TypeId} {k:IntKind} {v:Value} {l:List Int} (h:OwnI w base e k v l):∀j,v.ownBlock=some j→base≤j:=fun j hj=>(World.ownsRow.lt h j hj).1
def OwnB (w:World) (base:Nat) (e:TypeId) (v:Value) (l:List Bool):Prop:=w.ownsRow base e 1 v l.length (l.map Value.bool)
theorem OwnB.cell {w:World} {base:Nat} {e:TypeId} {g n cap:Nat} {l:List Bool} (h:OwnB w base e (.slice (some ⟨g,0,none⟩) n cap) l) (i:Nat) (hi:i<l.length) :
  w.cell? ⟨g,i,none⟩=some (.bool (l.getD i false))∧w.frozen? ⟨g,i,none⟩=false:=by
 have hn:n=l.length:=by
  rcases h.2 with ⟨h1,h2⟩ | ⟨g,cap,cur,h1,_⟩
  ·simp at h1
  ·simp only [Value.slice.injEq] at h1; exact h1.2.1
 subst hn;refine ⟨?_,h.frozenAt i⟩;rw [World.ownsRow.cellAt h i (by omega)];simp [List.getD_eq_getElem?_getD,hi]
theorem OwnB.store {w:World} {base:Nat} {e:TypeId} {g n cap:Nat} {l:List Bool} (h:OwnB w base e (.slice (some ⟨g,0,none⟩) n cap) l) (i:Nat) (x:Bool) (hn:n=l.length) :
  OwnB (w.setCell ⟨g,i,none⟩ (.bool x)) base e (.slice (some ⟨g,0,none⟩) n cap) (l.set i x):=by
 subst hn;have:=(World.ownsRow.stored h i (.bool x)).1;unfold OwnB;rw [List.length_set,List.map_set];exact this
theorem below_then {w a b:World} (h:Below w.heap.size w a) (hb:Below a.heap.size a b):Below w.heap.size w b:=h.trans (hb.mono h.size)
theorem below_new {w a:World} (h:Below w.heap.size w a) (o:Obj):Below w.heap.size w (a.alloc o):=h.alloc h.size o
theorem below_grown {w a b:World} {g:Nat} (h:Below w.heap.size w a) (hb:a.grownBy b (some g)) (hg:w.heap.size≤g):Below w.heap.size w b:=h.grown hb h.size fun k hk=>by cases hk; exact hg
theorem SlI.lit (w:World) (k:IntKind) (e:TypeId) (l:List Int) (hw:∀x∈l,x=k.wrap x) (hl:l.length≤140737488351232) :
  SlI (w.alloc (.cells (l.map (Value.int k)).toArray e)) k (.slice (some ⟨w.heap.size,0,none⟩) l.length l.length) l:=by
 refine ⟨hl,hw,_,_,rfl,Nat.le_refl _,fun t ht=>⟨_,0,rfl,by simp,?_⟩⟩;rw [World.cell?_alloc_at _ _ _ _ rfl,Nat.zero_add];simp [List.getD_eq_getElem?_getD,ht]
def offB (g:Nat) (v:Value):Prop:=∀a n c,v=.slice (some a) n c→n=0∨a.block≠g
theorem offB.nil (g:Nat):offB g (.slice none 0 0):=fun a n c h=>by simp at h
theorem OwnI.off {w:World} {base:Nat} {e:TypeId} {k:IntKind} {v:Value} {l:List Int} (h:OwnI w base e k v l) {g:Nat} (hg:g<base):offB g v:=by
 intro a n c e;subst e;have:=h.own_ge a.block rfl;exact .inr (by omega)
theorem SlI.offOf {w:World} {k:IntKind} {v:Value} {l:List Int} (h:SlI w k v l) {g:Nat} (hg:w.heap.size≤g):offB g v:=by
 intro a n c e;obtain ⟨_,_,a',cap,rfl,_,h5⟩:=h;rcases Nat.eq_zero_or_pos l.length with h0 | h0
 ·simp only [Value.slice.injEq] at e; exact .inl (by omega)
 ·obtain ⟨b,off,rfl,hlt,_⟩:=h5 0 h0
  simp only [Value.slice.injEq,Option.some.injEq] at e;obtain ⟨rfl,_⟩:=e;exact .inr (by simp; omega)
theorem SlI.grown {w w':World} {k:IntKind} {v:Value} {l:List Int} {g:Nat} (h:SlI w k v l) (hg:w.grownBy w' (some g)) (ho:offB g v):SlI w' k v l:=by
 obtain ⟨h1,h2,a,cap,rfl,h4,h5⟩:=h;refine ⟨h1,h2,a,cap,rfl,h4,fun t ht=>?_⟩;obtain ⟨b,off,rfl,hlt,hc⟩:=h5 t ht;have hb:b≠g:=(ho _ _ _ rfl).resolve_left (by omega);exact ⟨b,off,rfl,Nat.lt_of_lt_of_le hlt hg.size,(World.cell?_of_block (a:=⟨b,off+t,none⟩) (hg.block b hlt (by simpa using hb))).trans hc⟩
theorem OwnI.mono_base {w:World} {base b':Nat} {e:TypeId} {k:IntKind} {v:Value} {l:List Int} (h:OwnI w base e k v l) (hb:b'≤base):OwnI w b' e k v l:=by
 refine ⟨h.1,?_⟩;rcases h.2 with h1 | ⟨g,cap,cur,h1,h2,h3⟩
 ·exact .inl h1
 ·exact .inr ⟨g,cap,cur,h1,Nat.le_trans hb h2,h3⟩
theorem undrewG {a b:World} {row:Option Nat} (h:a.drew.grownBy b row):a.grownBy b row:=⟨h.os,h.tape,h.output,h.size,h.block⟩
theorem i64_ok (x:Int) (h0:-9223372036854775808≤x) (h1:x≤9223372036854775807):x=IntKind.i64.wrap x:=by
 rw [IntKind.wrap_i64]; omega
theorem keepR {w w':World} {b:Nat} {o:Obj} (hb:Below w.heap.size w w') (h:Hid (w.heap[b]?=some o)):Hid (w'.heap[b]?=some o):=(hb.block b (Array.getElem?_eq_some_iff.1 h.out).1).trans h.out
theorem ltR {w:World} {b:Nat} {o:Obj} (h:Hid (w.heap[b]?=some o)):b<w.heap.size:=(Array.getElem?_eq_some_iff.1 h.out).1
theorem own:ownKnob Try.prog.godebug=none:=by kernel_rfl
theorem Try.laidOut:laidOutB Try.prog=true:=by kernel_rfl
theorem wrap_of_wf {k:IntKind} {n:Int} (h:(Lit.int k n).wf=true):n=k.wrap n:=by
 cases k <;> simp [Lit.wf,IntKind.min,IntKind.max,IntKind.signed,IntKind.bits] at h <;> simp [IntKind.wrap,IntKind.bits,IntKind.signed] <;> omega
set_option maxRecDepth 100000 in
theorem view_sl {H:Type} {enc:TypeId × Value→H} {W:World} {t e:TypeId} {k:IntKind} {v:Value} {d:DataW H} {p:List MemPlace} (ht:Try.prog.underlying t=some (.slice e)) (he:Try.prog.underlying e=some (.int k)) (hc:Try.prog.cellsOf e=1)
  (hsz:∀elems sp,d=.slice elems sp→(elems.length+sp.length) * Try.prog.bytesOf e≤reachBytes) (hby:1≤Try.prog.bytesOf e)
  (hval:Value.okWide Try.prog W .any 0 t v) (hd:DataW.Trod enc Try.prog W 0 (fun _=>true) true t v d p):∃l,SlI W k v l:=by
 obtain ⟨a0,len,cap,rfl⟩:=okWide_slice ht hval;obtain ⟨fuel,hf⟩:=hd;rcases open_ints ht he hc hf with ⟨hcs,hx⟩ | ⟨a,len',cap',zs,hcs,_,hl,hm,hz,hx,hcell,hwz⟩
 ·simp [Value.cells] at hcs
  obtain ⟨rfl,rfl,rfl⟩:=hcs;exact ⟨[],SlI.nil _ _⟩
 ·simp [Value.cells] at hcs
  obtain ⟨rfl,rfl,rfl⟩:=hcs;simp only [Prod.mk.injEq] at hx;obtain ⟨rfl,rfl⟩:=hx;simp only [if_true] at hz;have hle:len≤140737488351232:=by
   have h1:=hsz _ _ rfl;simp only [lits,List.length_map,List.length_take,List.length_drop,reachBytes] at h1;have h2:(min len zs.length+(zs.length - len)) * 1≤(min len zs.length+(zs.length - len)) * Try.prog.bytesOf e:=Nat.mul_le_mul_left _ hby;omega
  have hlen:(zs.take len).length=len:=by simp; omega
  refine ⟨zs.take len,by omega,fun x hx=>wrap_of_wf (hwz x (List.mem_of_mem_take hx)),some a,cap,by rw [hlen],by omega,fun i hi=>?_⟩;have hi':i<len:=by omega
  have hc:=hcell i (by omega);have h0:=hcell 0 (by omega);obtain ⟨b,off,sp⟩:=a;have hsp:sp=none:=by simpa [Addr.add] using World.cell?_spot h0
  subst hsp;rw [add_plain] at hc;refine ⟨b,off,rfl,by simpa using World.block_lt_of_cell? W _ hc,?_⟩;rw [hc];simp [List.getD_eq_getElem?_getD,hi']
theorem toList_madeCells_one' (z:Value) (n:Nat):(madeCells #[z] n).toList=List.replicate n z:=toList_madeCells_one z n
theorem Try.info_i64:(Try.prog.info? 3).map (fun i=>(i.zero,i.size,i.bytes))=some (some (.int .i64 0),1,8):=by kernel_rfl
theorem wp_make_i64 (w:World) {ops:Array Oper} {rest:List Oper} {o:Oper} {a:Act} {Q:Exit→Act→World→Prop}
  (hg:o.guard=none) (l c:Operand) (hop:o.op=Op.makeSlice 26 l c) (n:Nat) (L C:Int) (hl:a.eval l=.int .i64 L) (hc:a.eval c=.int .i64 C) (hL:L=n) (hC:C=n) (hn:n≤1000000)
  (hK:∀w',OwnI w' w.heap.size 3 .i64 (.slice (some ⟨w.heap.size,0,none⟩) n n) (List.replicate n 0)→Below w.heap.size w w'→wpList Try.prog ops Q rest (a.put o.dst (.slice (some ⟨w.heap.size,0,none⟩) n n)) w') :
  wpList Try.prog ops Q (o :: rest) a w:=by
 obtain ⟨i0,hi,hz0,hz1,hz2⟩:=info_parts Try.info_i64;refine wpList_make_full w hg l c _ hop w.heap.size 3 i0 (.int .i64 0) 1 Try.underlying26 hi hz0 hz1 _ _ _ _ n hl hc hL hC (by rw [hz2]; omega) (by unfold maxLen; omega) (Nat.le_refl _) fun w' h1 h2=>?_;refine hK w' ?_ ((Below.refl _ _).grown h2 (Nat.le_refl _) (fun k hk=>by cases hk));unfold OwnI;rw [show (Value.int .i64 0).cells=#[.int .i64 0] from rfl,toList_madeCells_one'] at h1;simpa using h1
theorem step_append_i64 {w:World} {ops:Array Oper} {o:Oper} {a:Act} {K:Act→World→Prop} {Q:Exit→Act→World→Prop} {E:Prop}
  (hgd:o.guard=none) (s x:Operand) (hop:o.op=Op.call { callee:=Callee.builtin Builtin.append,args:=#[s,x],argTypes:=#[26,26] })
  (base:Nat) (v:Value) (l:List Int) (hs:a.eval s=v) (hown:OwnI w base 3 .i64 v l) (y:Int) (g:Nat)
  (hx:a.eval x=.slice (some ⟨g,0,none⟩) 1 1) (hcell:w.cell? ⟨g,0,none⟩=some (.int .i64 y)) (hl:l.length≤1000000) (hb:base≤w.heap.size)
  (hK:∀v' w',OwnI w' base 3 .i64 v' (l ++ [y])→w.grownBy w' v.ownBlock→K (a.put o.dst v') w') :
  if Region.wanted o (yielded ops a.tmps)=true then Oper.wp Try.prog o a w K Q else E:=by
 have hw:Region.wanted o (yielded ops a.tmps)=true:=by simp [Region.wanted,hgd]
 rw [if_pos hw];obtain ⟨i0,hi,hz0,hz1,hz2⟩:=info_parts Try.info_i64;refine wp_append_own w s x _ hop base _ i0 (.int .i64 0) 1 _ (by kernel_rfl) hi hz0 hz1 rfl rfl (by decide) v l.length _ hs hown ⟨g,0,none⟩ 1 1 [.int .i64 y] hx rfl ?_ ?_ (by unfold maxLen; omega) (by rw [hz2]; omega) hb fun v' w' h1 h2 _=>hK v' w' ?_ h2
 ·intro j u hj
  match j,hj with
  | 0,hj=>simp at hj; subst hj; simpa [Addr.add] using hcell
 ·intro u hu; simp at hu; subst hu; rfl
 ·unfold OwnI
  rw [List.length_append,List.map_append];exact h1
theorem Try.info_u64:(Try.prog.info? 41).map (fun i=>(i.zero,i.size,i.bytes))=some (some (.int .u64 0),1,8):=by kernel_rfl
theorem wp_append_u64 (w:World) {ops:Array Oper} {rest:List Oper} {o:Oper} {a:Act} {Q:Exit→Act→World→Prop}
  (hg:o.guard=none) (s x:Operand) (hop:o.op=Op.call { callee:=Callee.builtin Builtin.append,args:=#[s,x],argTypes:=#[27,27] })
  (base:Nat) (v:Value) (l:List Int) (hs:a.eval s=v) (hown:OwnI w base 41 .u64 v l) (y:Int) (g:Nat)
  (hx:a.eval x=.slice (some ⟨g,0,none⟩) 1 1) (hcell:w.cell? ⟨g,0,none⟩=some (.int .u64 y)) (hl:l.length≤1000000) (hb:base≤w.heap.size)
  (hK:∀v' w',OwnI w' base 41 .u64 v' (l ++ [y])→w.grownBy w' v.ownBlock→wpList Try.prog ops Q rest (a.put o.dst v') w') :
  wpList Try.prog ops Q (o :: rest) a w:=by
 obtain ⟨i0,hi,hz0,hz1,hz2⟩:=info_parts Try.info_u64;refine wpList_append_own w hg s x _ hop base _ i0 (.int .u64 0) 1 _ (by kernel_rfl) hi hz0 hz1 rfl rfl (by decide) v l.length _ hs hown ⟨g,0,none⟩ 1 1 [.int .u64 y] hx rfl ?_ ?_ (by unfold maxLen; omega) (by rw [hz2]; omega) hb fun v' w' h1 h2 h3=>hK v' w' ?_ h2
 ·intro j u hj
  match j,hj with
  | 0,hj=>simp at hj; subst hj; simpa [Addr.add] using hcell
 ·intro u hu; simp at hu; subst hu; rfl
 ·unfold OwnI
  rw [List.length_append,List.map_append];exact h1
theorem step_append_u64 {w:World} {ops:Array Oper} {o:Oper} {a:Act} {K:Act→World→Prop} {Q:Exit→Act→World→Prop} {E:Prop}
  (hgd:o.guard=none) (s x:Operand) (hop:o.op=Op.call { callee:=Callee.builtin Builtin.append,args:=#[s,x],argTypes:=#[27,27] })
  (base:Nat) (v:Value) (l:List Int) (hs:a.eval s=v) (hown:OwnI w base 41 .u64 v l) (y:Int) (g:Nat)
  (hx:a.eval x=.slice (some ⟨g,0,none⟩) 1 1) (hcell:w.cell? ⟨g,0,none⟩=some (.int .u64 y)) (hl:l.length≤1000000) (hb:base≤w.heap.size)
  (hK:∀v' w',OwnI w' base 41 .u64 v' (l ++ [y])→w.grownBy w' v.ownBlock→K (a.put o.dst v') w') :
  if Region.wanted o (yielded ops a.tmps)=true then Oper.wp Try.prog o a w K Q else E:=by
 have hw:Region.wanted o (yielded ops a.tmps)=true:=by simp [Region.wanted,hgd]
 rw [if_pos hw];obtain ⟨i0,hi,hz0,hz1,hz2⟩:=info_parts Try.info_u64;refine wp_append_own w s x _ hop base _ i0 (.int .u64 0) 1 _ (by kernel_rfl) hi hz0 hz1 rfl rfl (by decide) v l.length _ hs hown ⟨g,0,none⟩ 1 1 [.int .u64 y] hx rfl ?_ ?_ (by unfold maxLen; omega) (by rw [hz2]; omega) hb fun v' w' h1 h2 _=>hK v' w' ?_ h2
 ·intro j u hj
  match j,hj with
  | 0,hj=>simp at hj; subst hj; simpa [Addr.add] using hcell
 ·intro u hu; simp at hu; subst hu; rfl
 ·unfold OwnI
  rw [List.length_append,List.map_append];exact h1
section
variable {P:Program} {ops:Array Oper} {Q:Exit→Act→World→Prop} {md:Region.Mode} {S:World→Prop} {k:Nat}
def wpAnyU (P:Program) (md:Region.Mode) (ops:Array Oper) (Q:Exit→Act→World→Prop) (S:World→Prop) (k:Nat):Nat→Array Bool→Act→World→Prop
 | 0,listed,a,w=>Region.ready md ops listed=[]∧Q .normal a w
 | fuel+1,listed,a,w=>
  (Region.ready md ops listed=[]→Q .normal a w)∧
  ∀i∈Region.ready md ops listed,wpOp P ops Q i (fun a' w'=>((listed.setIfInBounds i true).getD k true=false→S w')∧wpAnyU P md ops Q S k fuel (listed.setIfInBounds i true) a' w') a w
theorem wpAny_of_until:∀(fuel:Nat) (listed:Array Bool) (a:Act) (w:World),wpAnyU P md ops Q S k fuel listed a w→wpAny P md ops Q fuel listed a w
 | 0,_,_,_,h=>h
 | fuel+1,_,_,_,h=>⟨h.1,fun i hi=>wpOp_mono (fun a' w' h'=>wpAny_of_until fuel _ a' w' h'.2) (h.2 i hi)⟩
def waitsFor (md:Region.Mode) (ops:Array Oper) (k i:Nat):Bool:=k != i && (match ops[k]? with | some o=>o.after.any (fun e=>Region.binds md e && e.on == i) | none=>false)
theorem waitsFor_spec {i:Nat} (h:waitsFor md ops k i=true):k≠i∧∃o e,ops[k]?=some o∧e∈o.after∧Region.binds md e=true∧e.on=i:=by
 simp only [waitsFor,Bool.and_eq_true,bne_iff_ne,ne_eq] at h;obtain ⟨h1,h2⟩:=h;refine ⟨h1,?_⟩;cases ho:ops[k]? with
 | none=>rw [ho] at h2; cases h2
 | some o=>
  rw [ho] at h2;simp only [Array.any_eq_true] at h2;obtain ⟨j,hj,hh⟩:=h2;simp only [Bool.and_eq_true,beq_iff_eq] at hh;exact ⟨o,_,rfl,Array.getElem_mem hj,hh.1,hh.2⟩
theorem wpAnyU_first {i:Nat} {oi:Oper} {v:Value} (hi:ops[i]?=some oi) (hsel:∀(j:Nat) (o:Oper) cs b,ops[j]?=some o→o.op≠.select cs b)
  (hQ:∀c a w,Q (.panic c) (a.put oi.dst v) w→Q (.panic c) a w) (hk:waitsFor md ops k i=true) :
  ∀(fuel:Nat) (listed:Array Bool) (a:Act) (w:World),
   (∀j oj,ops[j]?=some oj→j≠i→listed.getD j true=false→(∀e∈oj.after,Region.binds md e=true→e.on≠i)→oi.apart ops oj=true)→
   i∈Region.ready md ops listed→listed.getD k true=false→YieldsIf P ops S oi v a→S w→
   wpAnyU P md ops Q S k fuel (listed.setIfInBounds i true) (a.put oi.dst v) w→wpAnyU P md ops Q S k (fuel+1) listed a w:=by
 obtain ⟨hki,ok,ek,hok,hek,hbk,honk⟩:=waitsFor_spec hk;intro fuel;induction fuel with
 | zero=>
  intro listed a w _ hr _ hy hS H;refine ⟨fun h=>(by rw [h] at hr; cases hr),fun j hj=>?_⟩;by_cases hji:j=i
  ·subst hji; exact hy.wpOp hi hS ⟨fun _=>hS,H⟩
  ·have:=ready_mono hj hji
   rw [H.1] at this;cases this
 | succ fuel ih=>
  intro listed a w hfree hr hkl hy hS H;refine ⟨fun h=>(by rw [h] at hr; cases hr),fun j hj=>?_⟩;by_cases hji:j=i
  ·subst hji; exact hy.wpOp hi hS ⟨fun _=>hS,H⟩
  ·have h1:=H.2 j (ready_mono hj hji)
   obtain ⟨hjun,oj,hoj,hall⟩:=mem_ready.1 hj;have hnot:∀e∈oj.after,Region.binds md e=true→e.on≠i:=fun e he hb heq=>by
    have h1:=hall e he hb;have h0:=(mem_ready.1 hr).1;rw [heq] at h1;rcases Nat.lt_or_ge i listed.size with h' | h'
    ·simp [h'] at h0 h1; rw [h0] at h1; cases h1
    ·simp [Array.getElem?_eq_none h'] at h1
   have hjk:j≠k:=fun e=>by
    subst e;rw [hok] at hoj;cases hoj;exact hnot ek hek hbk honk
   have h2:=wpOp_putIf hoj (hfree j oj hoj hji hjun hnot) (fun cs b=>hsel i oi cs b hi) (fun cs b=>hsel j oj cs b hoj) hQ hy h1;have hfree':∀k ok,ops[k]?=some ok→k≠i→(listed.setIfInBounds j true).getD k true=false→
     (∀e∈ok.after,Region.binds md e=true→e.on≠i)→oi.apart ops ok=true:=fun k ok hk hki hun hno=>by
    refine hfree k ok hk hki ?_ hno;by_cases hjk:j=k
    ·subst hjk; exact hjun
    ·rw [getD_set_ne true hjk] at hun; exact hun
   have hkj:(listed.setIfInBounds j true).getD k true=false:=by rw [getD_set_ne true hjk]; exact hkl
   have hkij:((listed.setIfInBounds i true).setIfInBounds j true).getD k true=false:=by rw [getD_set_ne true hjk,getD_set_ne true (Ne.symm hki)]; exact hkl
   refine wpOp_mono (fun a' w' h3=>⟨fun _=>h3.2.1 hkij,ih (listed.setIfInBounds j true) a' w' hfree' (ready_mono hr (Ne.symm hji)) hkj h3.1 (h3.2.1 hkij) ?_⟩) h2;rw [Array.setIfInBounds_comm _ _ hji];exact h3.2.2
theorem wpAnyU_firstW {i:Nat} {oi:Oper} {v:Value} (hi:ops[i]?=some oi) (hsel:∀(j:Nat) (o:Oper) cs b,ops[j]?=some o→o.op≠.select cs b)
  (hQ:∀c a w,Q (.panic c) (a.put oi.dst v) w→Q (.panic c) a w) (hki:k≠i) :
  ∀(fuel:Nat) (listed:Array Bool) (a:Act) (w:World),
   (∀j oj,ops[j]?=some oj→j≠i→listed.getD j true=false→(∀e∈oj.after,Region.binds md e=true→e.on≠i)→oi.apart ops oj=true)→
   i∈Region.ready md ops listed→YieldsIf P ops (fun _=>True) oi v a→(listed.getD k true=false→S w)→
   wpAnyU P md ops Q S k fuel (listed.setIfInBounds i true) (a.put oi.dst v) w→wpAnyU P md ops Q S k (fuel+1) listed a w:=by
 have hkk:∀l:Array Bool,(l.setIfInBounds i true).getD k true=l.getD k true:=fun l=>getD_set_ne true (Ne.symm hki);intro fuel;induction fuel with
 | zero=>
  intro listed a w _ hr hy hS H;refine ⟨fun h=>(by rw [h] at hr; cases hr),fun j hj=>?_⟩;by_cases hji:j=i
  ·subst hji; exact hy.wpOp hi trivial ⟨by rw [hkk]; exact hS,H⟩
  ·have:=ready_mono hj hji
   rw [H.1] at this;cases this
 | succ fuel ih=>
  intro listed a w hfree hr hy hS H;refine ⟨fun h=>(by rw [h] at hr; cases hr),fun j hj=>?_⟩;by_cases hji:j=i
  ·subst hji; exact hy.wpOp hi trivial ⟨by rw [hkk]; exact hS,H⟩
  ·have h1:=H.2 j (ready_mono hj hji)
   obtain ⟨hjun,oj,hoj,hall⟩:=mem_ready.1 hj;have hnot:∀e∈oj.after,Region.binds md e=true→e.on≠i:=fun e he hb heq=>by
    have h1:=hall e he hb;have h0:=(mem_ready.1 hr).1;rw [heq] at h1;rcases Nat.lt_or_ge i listed.size with h' | h'
    ·simp [h'] at h0 h1; rw [h0] at h1; cases h1
    ·simp [Array.getElem?_eq_none h'] at h1
   have h2:=wpOp_putIf hoj (hfree j oj hoj hji hjun hnot) (fun cs b=>hsel i oi cs b hi) (fun cs b=>hsel j oj cs b hoj) hQ hy h1;have hfree':∀k ok,ops[k]?=some ok→k≠i→(listed.setIfInBounds j true).getD k true=false→
     (∀e∈ok.after,Region.binds md e=true→e.on≠i)→oi.apart ops ok=true:=fun k ok hk hki hun hno=>by
    refine hfree k ok hk hki ?_ hno;by_cases hjk:j=k
    ·subst hjk; exact hjun
    ·rw [getD_set_ne true hjk] at hun; exact hun
   have hc:=Array.setIfInBounds_comm (xs:=listed) true true hji;refine wpOp_mono (fun a' w' h3=>?_) h2;have h4:(listed.setIfInBounds j true).getD k true=false→S w':=fun h0=>h3.2.1 (by rw [← hc,hkk]; exact h0);refine ⟨h4,ih (listed.setIfInBounds j true) a' w' hfree' (ready_mono hr (Ne.symm hji)) h3.1 h4 ?_⟩;rw [hc];exact h3.2.2
inductive ListAt {α:Type}:List α→Nat→α→Prop
 | zero {x:α} {l:List α}:ListAt (x :: l) 0 x
 | succ {x y:α} {l:List α} {n:Nat} (h:ListAt l n x):ListAt (y :: l) (n+1) x
theorem ListAt.get {α:Type} {l:List α} {n:Nat} {x:α} (h:ListAt l n x):l.toArray[n]?=some x:=by
 induction h with
 | zero=>simp
 | succ h ih=>simpa using ih
theorem wpAnyU_take {l:List Oper} (i:Nat) {oi:Oper} {v:Value} {fuel:Nat} {listed:Array Bool} {a:Act} {w:World} (hi:ListAt l i oi)
  (hs:Region.noSelect l.toArray=true) (hf:Region.free md l.toArray listed i=true) (hr:(Region.ready md l.toArray listed).contains i=true) (hk:waitsFor md l.toArray k i=true) (hkl:listed.getD k true=false)
  (hQ:∀c a w,Q (.panic c) (a.put oi.dst v) w→Q (.panic c) a w) (hS:S w) (hg:oi.guard=none) (hy:∀w,S w→(execOp a.eval oi).run P w=.ok (.value v) w)
  (h:wpAnyU P md l.toArray Q S k fuel (listed.setIfInBounds i true) (a.put oi.dst v) w):wpAnyU P md l.toArray Q S k (fuel+1) listed a w:=
 wpAnyU_first hi.get (Region.noSelect_spec hs) hQ hk fuel listed a w (Region.free_spec hi.get hf) (by simpa using hr) hkl (.inl ⟨by simp [Region.wanted,hg],hy⟩) hS h
theorem wpAnyU_takeW {l:List Oper} (i:Nat) {oi:Oper} {v:Value} {fuel:Nat} {listed:Array Bool} {a:Act} {w:World} (hi:ListAt l i oi)
  (hs:Region.noSelect l.toArray=true) (hf:Region.free md l.toArray listed i=true) (hr:(Region.ready md l.toArray listed).contains i=true) (hk:(k != i)=true)
  (hQ:∀c a w,Q (.panic c) (a.put oi.dst v) w→Q (.panic c) a w) (hS:listed.getD k true=false→S w) (hg:oi.guard=none) (hy:∀w,(execOp a.eval oi).run P w=.ok (.value v) w)
  (h:wpAnyU P md l.toArray Q S k fuel (listed.setIfInBounds i true) (a.put oi.dst v) w):wpAnyU P md l.toArray Q S k (fuel+1) listed a w:=
 wpAnyU_firstW hi.get (Region.noSelect_spec hs) hQ (by simpa using hk) fuel listed a w (Region.free_spec hi.get hf) (by simpa using hr) (.inl ⟨by simp [Region.wanted,hg],fun w _=>hy w⟩) hS h
theorem past_k {S:Prop} {l:Array Bool} {k:Nat} (h:l.getD k true=true):l.getD k true=false→S:=fun h0=>by rw [h] at h0; cases h0
def AllReadyU (P:Program) (md:Region.Mode) (ops:Array Oper) (Q:Exit→Act→World→Prop) (S:World→Prop) (k fuel:Nat) (listed:Array Bool) (a:Act) (w:World) (rs:List Nat):Prop:=
 ∀i∈rs,wpOp P ops Q i (fun a' w'=>((listed.setIfInBounds i true).getD k true=false→S w')∧wpAnyU P md ops Q S k fuel (listed.setIfInBounds i true) a' w') a w
theorem AllReadyU.nil {fuel:Nat} {listed:Array Bool} {a:Act} {w:World}:AllReadyU P md ops Q S k fuel listed a w []:=fun _ h=>by cases h
def ShutU (p:Prop):Prop:=p
theorem ShutU.out {p:Prop} (h:ShutU p):p:=h
theorem AllReadyU.cons {l:List Oper} {fuel:Nat} {listed:Array Bool} {a:Act} {w:World} {i:Nat} {o:Oper} {rs:List Nat} (ho:ListAt l i o) (hg:o.guard=none)
  (h:∀K':Act→World→Prop,ShutU (∀a w,S w→(S w→wpAnyU P md l.toArray Q S k fuel (listed.setIfInBounds i true) a w)→K' a w)→if Region.wanted o (yielded l.toArray a.tmps)=true then Oper.wp P o a w K' Q else K' (a.put o.dst undef) w)
  (hs:AllReadyU P md l.toArray Q S k fuel listed a w rs):AllReadyU P md l.toArray Q S k fuel listed a w (i :: rs):=fun j hj=>by
 rcases List.mem_cons.1 hj with rfl | hj
 ·exact wpOp_step ho.get (fun K' hK=>h K' (fun a w hS hW=>hK a w ⟨fun _=>hS,hW hS⟩))
 ·exact hs j hj
theorem AllReadyU.free {l:List Oper} {fuel:Nat} {listed:Array Bool} {a:Act} {w:World} {i:Nat} {o:Oper} {rs:List Nat} (ho:ListAt l i o) (hg:o.guard=none)
  (hk:(listed.setIfInBounds i true).getD k true=true)
  (h:∀K':Act→World→Prop,ShutU (∀a w,wpAnyU P md l.toArray Q S k fuel (listed.setIfInBounds i true) a w→K' a w)→if Region.wanted o (yielded l.toArray a.tmps)=true then Oper.wp P o a w K' Q else K' (a.put o.dst undef) w)
  (hs:AllReadyU P md l.toArray Q S k fuel listed a w rs):AllReadyU P md l.toArray Q S k fuel listed a w (i :: rs):=fun j hj=>by
 rcases List.mem_cons.1 hj with rfl | hj
 ·exact wpOp_step ho.get (fun K' hK=>h K' (fun a w hW=>hK a w ⟨fun h0=>(by rw [hk] at h0; cases h0),hW⟩))
 ·exact hs j hj
theorem wpAnyU_ready {rs:List Nat} {fuel:Nat} {listed:Array Bool} {a:Act} {w:World} (hr:Region.ready md ops listed=rs) (hne:rs.isEmpty=false)
  (h:AllReadyU P md ops Q S k fuel listed a w rs):wpAnyU P md ops Q S k (fuel+1) listed a w:=
 by
 refine ⟨fun h0=>?_,?_⟩
 ·rw [hr] at h0
  subst h0;cases hne
 ·rw [hr]
  exact h
theorem wpAnyU_done {listed:Array Bool} {a:Act} {w:World} (hr:Region.ready md ops listed=[]) (h:Q .normal a w) :
  ∀fuel,wpAnyU P md ops Q S k fuel listed a w
 | 0=>⟨hr,h⟩
 | _+1=>⟨fun _=>h,by rw [hr]; simp⟩
theorem wp_region_until (S:World→Prop) (k:Nat) {l:List Oper} (n:Nat) {id:Nat} {a:Act} {w:World} (hm:P.follows .mixedOrders=true) (hn:l.toArray.size=n)
  (h:wpAnyU P .any l.toArray Q S k n (Array.replicate n false) a w.drew):(Code.region id l.toArray true).wp P Q a w:=by
 subst hn;exact wp_region_any hm (wpAny_of_until _ _ _ _ h)
end
theorem la0 {α:Type} {x:α} {l:List α}:ListAt (x :: l) 0 x:=.zero
theorem la1 {α:Type} {x y0:α} {l:List α}:ListAt (y0 :: x :: l) 1 x:=.succ la0
theorem la2 {α:Type} {x y0 y1:α} {l:List α}:ListAt (y0 :: y1 :: x :: l) 2 x:=.succ la1
theorem la3 {α:Type} {x y0 y1 y2:α} {l:List α}:ListAt (y0 :: y1 :: y2 :: x :: l) 3 x:=.succ la2
theorem la4 {α:Type} {x y0 y1 y2 y3:α} {l:List α}:ListAt (y0 :: y1 :: y2 :: y3 :: x :: l) 4 x:=.succ la3
theorem la5 {α:Type} {x y0 y1 y2 y3 y4:α} {l:List α}:ListAt (y0 :: y1 :: y2 :: y3 :: y4 :: x :: l) 5 x:=.succ la4
theorem la6 {α:Type} {x y0 y1 y2 y3 y4 y5:α} {l:List α}:ListAt (y0 :: y1 :: y2 :: y3 :: y4 :: y5 :: x :: l) 6 x:=.succ la5
theorem la7 {α:Type} {x y0 y1 y2 y3 y4 y5 y6:α} {l:List α}:ListAt (y0 :: y1 :: y2 :: y3 :: y4 :: y5 :: y6 :: x :: l) 7 x:=.succ la6
theorem la8 {α:Type} {x y0 y1 y2 y3 y4 y5 y6 y7:α} {l:List α}:ListAt (y0 :: y1 :: y2 :: y3 :: y4 :: y5 :: y6 :: y7 :: x :: l) 8 x:=.succ la7
theorem la9 {α:Type} {x y0 y1 y2 y3 y4 y5 y6 y7 y8:α} {l:List α}:ListAt (y0 :: y1 :: y2 :: y3 :: y4 :: y5 :: y6 :: y7 :: y8 :: x :: l) 9 x:=.succ la8
theorem la10 {α:Type} {x y0 y1 y2 y3 y4 y5 y6 y7 y8 y9:α} {l:List α}:ListAt (y0 :: y1 :: y2 :: y3 :: y4 :: y5 :: y6 :: y7 :: y8 :: y9 :: x :: l) 10 x:=.succ la9
theorem la11 {α:Type} {x y0 y1 y2 y3 y4 y5 y6 y7 y8 y9 y10:α} {l:List α}:ListAt (y0 :: y1 :: y2 :: y3 :: y4 :: y5 :: y6 :: y7 :: y8 :: y9 :: y10 :: x :: l) 11 x:=.succ la10
theorem la12 {α:Type} {x y0 y1 y2 y3 y4 y5 y6 y7 y8 y9 y10 y11:α} {l:List α}:ListAt (y0 :: y1 :: y2 :: y3 :: y4 :: y5 :: y6 :: y7 :: y8 :: y9 :: y10 :: y11 :: x :: l) 12 x:=.succ la11
theorem la13 {α:Type} {x y0 y1 y2 y3 y4 y5 y6 y7 y8 y9 y10 y11 y12:α} {l:List α}:ListAt (y0 :: y1 :: y2 :: y3 :: y4 :: y5 :: y6 :: y7 :: y8 :: y9 :: y10 :: y11 :: y12 :: x :: l) 13 x:=.succ la12
def looksOk (md:Region.Mode) (ops:Array Oper) (k i:Nat) (listed:Array Bool):Bool:=Region.noSelect ops && (Region.free md ops listed i && ((Region.ready md ops listed).contains i && (waitsFor md ops k i && !(listed.getD k true))))
theorem tkU {P:Program} {Q:Exit→Act→World→Prop} {md:Region.Mode} {S:World→Prop} {k:Nat} {l:List Oper} (i:Nat) {oi:Oper} {v:Value} {fuel:Nat} {listed:Array Bool} {a:Act} {w:World} (hi:ListAt l i oi) (hS:S w)
  (hc:looksOk md l.toArray k i listed=true) (hQ:∀c a w,Q (.panic c) (a.put oi.dst v) w→Q (.panic c) a w) (hg:oi.guard=none)
  (hy:∀w,S w→(execOp a.eval oi).run P w=.ok (.value v) w) (h:wpAnyU P md l.toArray Q S k fuel (listed.setIfInBounds i true) (a.put oi.dst v) w):wpAnyU P md l.toArray Q S k (fuel+1) listed a w:=by
 unfold looksOk at hc;simp only [Bool.and_eq_true,Bool.not_eq_true'] at hc;exact wpAnyU_take i hi hc.1 hc.2.1 hc.2.2.1 hc.2.2.2.1 hc.2.2.2.2 hQ hS hg hy h
theorem untilK {P:Program} {Q:Exit→Act→World→Prop} {S:World→Prop} {W0:World} (hK:Hid (∀w',Below W0.heap.size W0 w'→S w')) (k n:Nat) {l:List Oper} {id:Nat} {a:Act} {w:World}
  (hm:P.follows .mixedOrders=true) (hn:l.toArray.size=n) (h:wpAnyU P .any l.toArray Q S k n (Array.replicate n false) a w.drew):(Code.region id l.toArray true).wp P Q a w:=wp_region_until S k n hm hn h
theorem step_store_row {P:Program} {ops:Array Oper} {Q:Exit→Act→World→Prop} {o:Oper} {a:Act} {w:World} {K:Act→World→Prop} {E:Prop} (hgd:o.guard=none) (ty:TypeId) (x y:Operand) (ho:o.op=.store ty x y)
  (g:Nat) (cells:Array Value) (hx:a.eval x=.pointer (some ⟨g,0,none⟩)) (hy:a.eval y=.agg cells)
  (t:TypeId) (old:Array Value) (hg:w.heap[g]?=some (.cells old t (0,0))) (hi:(P.info? ty).map (·.size)=some cells.size)
  (hold:old.size=cells.size) (h1:cells.all (·.oneCell')=true)
  (h:K (a.put o.dst undef) (w.setRow g cells)):if Region.wanted o (yielded ops a.tmps)=true then Oper.wp P o a w K Q else E:=by
 rw [if_pos (by simp [Region.wanted,hgd])];exact wp_store_row ty x y ho g cells hx hy t old hg hi hold h1 h
theorem alloc_pack (w:World) (o:Obj):∃(w':World) (b:Nat),w.alloc o=w'∧w.heap.size=b∧Hid (w'.heap[b]?=some o)∧Hid (Below w.heap.size w w')∧Hid (b<w'.heap.size):=
 ⟨w.alloc o,w.heap.size,rfl,rfl,(by show (w.heap.push o)[w.heap.size]?=some o; exact Array.getElem?_push_size),below_new (Below.refl _ _) _,(by show w.heap.size<(w.heap.push o).size; rw [Array.size_push]; omega)⟩
theorem drew_pack (w:World):∃u:World,w.drew=u∧Hid (Below w.heap.size w u):=⟨_,rfl,below_drewN (Below.refl _ _) 1⟩
theorem OwnI.made {w:World} {base X n:Nat} {e:TypeId} {k:IntKind} (h:w.heap[X]?=some (.cells (madeCells #[.int k 0] n) e (0,0))) (hb:base≤X) (hn:n≤1000000):OwnI w base e k (.slice (some ⟨X,0,none⟩) n n) (List.replicate n 0):=by
 have hm:n≤maxLen:=by unfold maxLen; omega
 refine ⟨by rw [List.length_map,Nat.mul_one],.inr ⟨X,n,_,by rw [List.length_replicate],hb,h,by rw [List.length_replicate]; exact Nat.le_refl _,hm,by rw [size_madeCells,Nat.mul_one],?_⟩⟩;rw [toList_madeCells_one,List.length_replicate,Nat.mul_one,List.map_replicate,List.take_of_length_le (by rw [List.length_replicate]; exact Nat.le_refl _)]
theorem ownsRow_made {w:World} {base X n:Nat} {e:TypeId} {z:Value} (h:w.heap[X]?=some (.cells (madeCells #[z] n) e (0,0))) (hb:base≤X) (hn:n≤1000000):w.ownsRow base e 1 (.slice (some ⟨X,0,none⟩) n n) n (List.replicate n z):=by
 have hm:n≤maxLen:=by unfold maxLen; omega
 refine ⟨by rw [List.length_replicate,Nat.mul_one],.inr ⟨X,n,_,rfl,hb,h,Nat.le_refl _,hm,by rw [size_madeCells,Nat.mul_one],?_⟩⟩;rw [toList_madeCells_one,Nat.mul_one,List.take_of_length_le (by rw [List.length_replicate]; exact Nat.le_refl _)]
theorem laG {α:Type}:∀(l:List α) (i:Nat) (x:α),l[i]?=some x→ListAt l i x
 | y :: l,0,x,h=>by simp at h; subst h; exact .zero
 | y :: l,i+1,x,h=>.succ (laG l i x (by simpa using h))
theorem J0 (t:Array Value) (d:Nat) (v:Value) (f):(Act.mk t f).put (some d) v=Act.mk (t.setIfInBounds d v) f:=rfl
theorem J1 (a:Act) (v:Value):a.put none v=a:=rfl
theorem J2 {α:Type} (l:List α) (i:Nat) (x:α):l.toArray.setIfInBounds i x=(l.set i x).toArray:=by simp
theorem J3 {α:Type} (a b:α) (l:List α):(a :: l).set 0 b=b :: l:=rfl
theorem J4 {α:Type} (a b:α) (l:List α) (n:Nat):(a :: l).set (n+1) b=a :: l.set n b:=rfl
section
variable {P:Program} {Q:Exit→Act→World→Prop} {md:Region.Mode} {S:World→Prop} {k:Nat} {l:List Oper} {oi:Oper} {v:Value} {fuel:Nat} {listed:Array Bool} {a:Act} {w:World}
theorem tkV (i:Nat) (hS:S w) (hi:l[i]?=some oi) (hc:looksOk md l.toArray k i listed=true) (hQ:∀c a w,Q (.panic c) (a.put oi.dst v) w→Q (.panic c) a w) (hg:oi.guard=none)
  (hy:∀w,S w→(execOp a.eval oi).run P w=.ok (.value v) w) (h:wpAnyU P md l.toArray Q S k fuel (listed.setIfInBounds i true) (a.put oi.dst v) w):wpAnyU P md l.toArray Q S k (fuel+1) listed a w:=tkU i (laG _ _ _ hi) hS hc hQ hg hy h
def lookOkW (md:Region.Mode) (ops:Array Oper) (k i:Nat) (listed:Array Bool):Bool:=Region.noSelect ops && (Region.free md ops listed i && ((Region.ready md ops listed).contains i && (k != i)))
theorem tkW (i:Nat) (hS:listed.getD k true=false→S w) (hi:l[i]?=some oi) (hc:lookOkW md l.toArray k i listed=true) (hQ:∀c a w,Q (.panic c) (a.put oi.dst v) w→Q (.panic c) a w) (hg:oi.guard=none)
  (hy:∀w,(execOp a.eval oi).run P w=.ok (.value v) w) (h:wpAnyU P md l.toArray Q S k fuel (listed.setIfInBounds i true) (a.put oi.dst v) w):wpAnyU P md l.toArray Q S k (fuel+1) listed a w:=by
 unfold lookOkW at hc;simp only [Bool.and_eq_true] at hc;exact wpAnyU_takeW i (laG _ _ _ hi) hc.1 hc.2.1 hc.2.2.1 hc.2.2.2 hQ hS hg hy h
theorem consU (i:Nat) (hi:l[i]?=some oi) (hr:Region.ready md l.toArray listed=[i]) (hg:oi.guard=none)
  (h:∀K':Act→World→Prop,ShutU (∀a w,S w→(S w→wpAnyU P md l.toArray Q S k fuel (listed.setIfInBounds i true) a w)→K' a w)→if Region.wanted oi (yielded l.toArray a.tmps)=true then Oper.wp P oi a w K' Q else K' (a.put oi.dst undef) w):wpAnyU P md l.toArray Q S k (fuel+1) listed a w:=
 wpAnyU_ready hr rfl (AllReadyU.cons (laG _ _ _ hi) hg h AllReadyU.nil)
theorem freeU (i:Nat) (hi:l[i]?=some oi) (hr:Region.ready md l.toArray listed=[i]) (hg:oi.guard=none) (hk:(listed.setIfInBounds i true).getD k true=true)
  (h:∀K':Act→World→Prop,ShutU (∀a w,wpAnyU P md l.toArray Q S k fuel (listed.setIfInBounds i true) a w→K' a w)→if Region.wanted oi (yielded l.toArray a.tmps)=true then Oper.wp P oi a w K' Q else K' (a.put oi.dst undef) w):wpAnyU P md l.toArray Q S k (fuel+1) listed a w:=
 wpAnyU_ready hr rfl (AllReadyU.free (laG _ _ _ hi) hg hk h AllReadyU.nil)
end
theorem rowc3 {w:World} {g:Nat} {T:TypeId} {v0 v1 v2:Value} (h:w.heap[g]?=some (.cells #[v0,v1,v2] T (0,0))) :
  w.cell? ⟨g,0,none⟩=some v0∧w.cell? ⟨g,1,none⟩=some v1∧w.cell? ⟨g,2,none⟩=some v2:=
 ⟨cell_of_row _ _ 0 _ _ _ h,cell_of_row _ _ 1 _ _ _ h,cell_of_row _ _ 2 _ _ _ h⟩
theorem rowc5 {w:World} {g:Nat} {T:TypeId} {v0 v1 v2 v3 v4:Value} (h:w.heap[g]?=some (.cells #[v0,v1,v2,v3,v4] T (0,0))) :
  w.cell? ⟨g,0,none⟩=some v0∧w.cell? ⟨g,1,none⟩=some v1∧w.cell? ⟨g,2,none⟩=some v2∧w.cell? ⟨g,3,none⟩=some v3∧w.cell? ⟨g,4,none⟩=some v4:=
 ⟨cell_of_row _ _ 0 _ _ _ h,cell_of_row _ _ 1 _ _ _ h,cell_of_row _ _ 2 _ _ _ h,cell_of_row _ _ 3 _ _ _ h,cell_of_row _ _ 4 _ _ _ h⟩
theorem row_grown (w:World) (g:Nat) (cs:Array Value):w.grownBy (w.setRow g cs) (some g):=
 ⟨rfl,rfl,rfl,by simp [World.setRow],fun k _ hk=>setRow_other w g k cs (fun e=>hk (by rw [e]))⟩
theorem row_below {B g:Nat} {a w:World} (h:Below B a w) (hB:B≤g) (cs:Array Value):Below B a (w.setRow g cs):=
 ⟨h.os,h.tape,h.output,by simpa [World.setRow] using h.size,fun k hk=>(setRow_other w g k cs (by omega)).trans (h.block k hk)⟩
theorem grown_below {a b:World} {row:Option Nat} (h:Below a.heap.size a b):a.grownBy b row:=⟨h.os,h.tape,h.output,h.size,fun j hj _=>h.block j hj⟩
structure MemM where
 words:List Int
 lists:List (List Int)
 tick:Int
structure AccM where
 kind:Int
 addr:Int
 old:Int
 new:Int
 til:Int
structure AnsM where
 val:Int
 ok:Bool
 late:Bool
 list:List Int
structure AccM.ok (a:AccM):Prop where
 kind:a.kind=IntKind.i64.wrap a.kind
 addr:a.addr=IntKind.i64.wrap a.addr
 old:a.old=IntKind.u64.wrap a.old
 new:a.new=IntKind.u64.wrap a.new
 til:a.til=IntKind.i64.wrap a.til
theorem getD_setL {α:Type} (l:List α) (i t:Nat) (x d:α):(l.set i x).getD t d=if i=t∧t<l.length then x else l.getD t d:=by
 simp only [List.getD_eq_getElem?_getD,List.getElem?_set];by_cases h:i=t
 ·subst h
  by_cases h2:i<l.length
  ·simp [h2]
  ·simp [h2]
 ·simp [h]
def SlL (w:World) (v:Value) (us:List Value) (ll:List (List Int)):Prop:=
 ll.length≤140737488351232∧us.length=ll.length∧∃a cap,v=.slice a ll.length cap∧ll.length≤cap∧
  ∀t,t<ll.length→∃b off,a=some ⟨b,off,none⟩∧b<w.heap.size∧w.cell? ⟨b,off+t,none⟩=some (us.getD t (.slice none 0 0))∧SlI w .i64 (us.getD t (.slice none 0 0)) (ll.getD t [])
theorem SlL.below {w w':World} {v:Value} {us:List Value} {ll:List (List Int)} (h:SlL w v us ll) (hb:Below w.heap.size w w'):SlL w' v us ll:=by
 obtain ⟨h1,h2,a,cap,h3,h4,h5⟩:=h;refine ⟨h1,h2,a,cap,h3,h4,fun t ht=>?_⟩;obtain ⟨b,off,e,hlt,hc,hu⟩:=h5 t ht;exact ⟨b,off,e,Nat.lt_of_lt_of_le hlt hb.size,(hb.cell (p:=⟨b,off+t,none⟩) hlt).trans hc,hu.below hb⟩
theorem SlL.drew {w:World} {v:Value} {us:List Value} {ll:List (List Int)} (h:SlL w v us ll) (n:Nat):SlL (w.drewN n) v us ll:=h
theorem SlL.len {w:World} {v:Value} {us:List Value} {ll:List (List Int)} (h:SlL w v us ll):∃a cap,v=.slice a ll.length cap∧ll.length≤cap:=by
 obtain ⟨_,_,a,cap,rfl,h4,_⟩:=h;exact ⟨a,cap,rfl,h4⟩
theorem SlL.nil (w:World):SlL w (.slice none 0 0) [] []:=⟨by simp,rfl,none,0,rfl,Nat.le_refl _,fun t ht=>by simp at ht⟩
theorem SlL.open {w:World} {v:Value} {us:List Value} {ll:List (List Int)} (h:SlL w v us ll) (hne:ll≠[]) :
  ∃b off cap,v=.slice (some ⟨b,off,none⟩) ll.length cap∧ll.length≤cap∧b<w.heap.size∧(∀t,t<ll.length→w.cell? ⟨b,off+t,none⟩=some (us.getD t (.slice none 0 0)))∧∀t,t<ll.length→SlI w .i64 (us.getD t (.slice none 0 0)) (ll.getD t []):=by
 obtain ⟨_,_,a,cap,rfl,h4,h5⟩:=h;obtain ⟨b,off,rfl,hlt,_⟩:=h5 0 (List.length_pos_iff.2 hne);refine ⟨b,off,cap,rfl,h4,hlt,fun t ht=>?_,fun t ht=>?_⟩
 ·obtain ⟨b',off',e,_,hc,hu⟩:=h5 t ht
  simp only [Option.some.injEq,Addr.mk.injEq] at e;obtain ⟨rfl,rfl,_⟩:=e;exact hc
 ·obtain ⟨b',off',e,_,hc,hu⟩:=h5 t ht
  exact hu
def MemV (w:World) (v:Value) (m:MemM):Prop:=
 ∃vw vl us,v=.agg #[vw,vl,.int .i64 m.tick]∧SlI w .u64 vw m.words∧SlL w vl us m.lists
theorem MemV.below {w w':World} {v:Value} {m:MemM} (h:MemV w v m) (hb:Below w.heap.size w w'):MemV w' v m:=by
 obtain ⟨vw,vl,us,e,h1,h2⟩:=h; exact ⟨vw,vl,us,e,h1.below hb,h2.below hb⟩
structure NewPart (w w' w2:World):Prop where
 size:w'.heap.size≤w2.heap.size
 same:∀j,w.heap.size≤j→j<w'.heap.size→w2.heap[j]?=w'.heap[j]?
def Wide (G:World→Prop):Prop:=∀w1 w2,G w1→Below w1.heap.size w1 w2→G w2
def Nx (G:World→Prop) (w w':World):World→Prop:=fun w2=>G w2∧NewPart w w' w2
theorem Nx.at {G:World→Prop} {w w':World} (hG:G w) (h:Wide G) (hb:Below w.heap.size w w'):Nx G w w' w':=
 ⟨h _ _ hG hb,⟨Nat.le_refl _,fun _ _ _=>rfl⟩⟩
theorem NewPart.sub {w W W' F w2:World} (h:NewPart w F w2) (hw:w.heap.size≤W.heap.size) (hs:W'.heap.size≤F.heap.size) (he:∀j,W.heap.size≤j→j<W'.heap.size→F.heap[j]?=W'.heap[j]?):NewPart W W' w2:=
 ⟨Nat.le_trans hs h.size,fun j hj hj2=>(h.same j (Nat.le_trans hw hj) (Nat.lt_of_lt_of_le hj2 hs)).trans (he j hj hj2)⟩
def StM (G:World→Prop) (v:Value) (m:MemM):Prop:=
 ∃vw vl us,v=.agg #[vw,vl,.int .i64 m.tick]∧∀w,G w→SlI w .u64 vw m.words∧SlL w vl us m.lists
theorem StM.at {G:World→Prop} {v:Value} {m:MemM} {w:World} (h:StM G v m) (hG:G w):MemV w v m:=by
 obtain ⟨vw,vl,us,e,h1⟩:=h; exact ⟨vw,vl,us,e,h1 w hG⟩
theorem StM.sub {G H:World→Prop} {v:Value} {m:MemM} (h:StM G v m) (hs:∀w,H w→G w):StM H v m:=by
 obtain ⟨vw,vl,us,e,h1⟩:=h; exact ⟨vw,vl,us,e,fun w hw=>h1 w (hs w hw)⟩
def StA (G:World→Prop) (v:Value) (b:AnsM):Prop:=
 ∃vl,v=.agg #[.int .u64 b.val,.bool b.ok,.bool b.late,vl]∧∀w,G w→SlI w .i64 vl b.list
theorem StA.sub {G H:World→Prop} {v:Value} {b:AnsM} (h:StA G v b) (hs:∀w,H w→G w):StA H v b:=by
 obtain ⟨vl,e,h1⟩:=h; exact ⟨vl,e,fun w hw=>h1 w (hs w hw)⟩
theorem StA.bare (G:World→Prop) (x:Int) (p q:Bool):StA G (.agg #[.int .u64 x,.bool p,.bool q,.slice none 0 0]) ⟨x,p,q,[]⟩:=⟨_,rfl,fun w _=>SlI.nil _ _⟩
def Over (w0:World):World→Prop:=fun w=>Below w0.heap.size w0 w
theorem MemV.over {w:World} {v:Value} {m:MemM} (h:MemV w v m):StM (Over w) v m:=by
 obtain ⟨vw,vl,us,e,h1,h2⟩:=h; exact ⟨vw,vl,us,e,fun w2 hb=>⟨h1.below hb,h2.below hb⟩⟩
def Rows' (s:Nat) (rows:List (List Value)):Prop:=∀r∈rows,r.length=s∧∀u∈r,u.oneCell'=true
def OwnS (w:World) (base:Nat) (e:TypeId) (s:Nat) (v:Value) (rows:List (List Value)):Prop:=
 Rows' s rows∧w.ownsRow base e s v rows.length rows.flatten
section
variable {w w':World} {base:Nat} {e:TypeId} {s:Nat} {v:Value} {rows:List (List Value)}
theorem OwnS.nil (w:World) (base:Nat) (e:TypeId) (s:Nat):OwnS w base e s (.slice none 0 0) []:=⟨fun r h=>by simp at h,World.ownsRow_nil w base _ s⟩
theorem OwnS.shape (h:OwnS w base e s v rows):(v=.slice none 0 0∧rows=[])∨∃g cap,v=.slice (some ⟨g,0,none⟩) rows.length cap∧base≤g∧g<w.heap.size∧rows.length≤cap:=by
 rcases h.2.2 with ⟨rfl,h2⟩ | ⟨g,cap,cur,rfl,h3,h4,h5,h6,_,_⟩
 ·exact .inl ⟨rfl,List.length_eq_zero_iff.1 h2⟩
 ·exact .inr ⟨g,cap,rfl,h3,(Array.getElem?_eq_some_iff.1 h4).1,h5⟩
theorem OwnS.len (h:OwnS w base e s v rows):∃a cap,v=.slice a rows.length cap:=by
 rcases h.shape with ⟨rfl,rfl⟩ | ⟨g,cap,rfl,_⟩
 ·exact ⟨_,_,rfl⟩
 ·exact ⟨_,_,rfl⟩
theorem OwnS.open (h:OwnS w base e s v rows) (hn:0<rows.length):∃g cap,v=.slice (some ⟨g,0,none⟩) rows.length cap∧base≤g∧g<w.heap.size∧rows.length≤cap:=by
 rcases h.shape with ⟨_,rfl⟩ | h
 ·simp at hn
 ·exact h
theorem OwnS.kept {row:Option Nat} (h:OwnS w base e s v rows) (hg:w.grownBy w' row) (hne:v.ownBlock=none∨v.ownBlock≠row):OwnS w' base e s v rows:=⟨h.1,World.ownsRow.kept h.2 hg hne⟩
theorem OwnS.lt (h:OwnS w base e s v rows):∀j,v.ownBlock=some j→base≤j∧j<w.heap.size:=World.ownsRow.lt h.2
theorem OwnS.ne (h:OwnS w base e s v rows) {g:Nat} (hg:g<base):v.ownBlock=none∨v.ownBlock≠some g:=by
 cases hv:v.ownBlock with
 | none=>exact .inl rfl
 | some b=>exact .inr fun e=>by have:=(h.lt b hv).1; cases e; omega
theorem OwnS.below (h:OwnS w base e s v rows) (hb:Below w.heap.size w w'):OwnS w' base e s v rows:=by
 refine h.kept (row:=none) ⟨hb.os,hb.tape,hb.output,hb.size,fun j hj _=>hb.block j hj⟩ ?_;cases hv:v.ownBlock with
 | none=>exact .inl rfl
 | some x=>exact .inr (by simp)
theorem OwnS.apart {b2 s2:Nat} {e2:TypeId} {v2:Value} {r2:List (List Value)} (h1:OwnS w base e s v rows) (h2:OwnS w b2 e2 s2 v2 r2) (he:e≠e2):v.ownBlock=none∨v.ownBlock≠v2.ownBlock:=by
 rcases h1.2.2 with ⟨rfl,_⟩ | ⟨g,cap,cur,rfl,_,hg,_⟩
 ·exact .inl rfl
 ·rcases h2.2.2 with ⟨rfl,_⟩ | ⟨g',cap',cur',rfl,_,hg',_⟩
  ·exact .inr (by simp [Value.ownBlock])
  ·refine .inr ?_
   simp only [Value.ownBlock,ne_eq,Option.some.injEq];intro e;rw [e,hg'] at hg;simp at hg;exact he hg.2.symm
theorem flatS_length:∀(rows:List (List Value)),Rows' s rows→rows.flatten.length=rows.length * s
 | [],_=>by simp
 | r :: l,h=>by
  rw [List.flatten_cons,List.length_append,flatS_length l (fun x hx=>h x (List.mem_cons_of_mem _ hx)),(h r (List.mem_cons_self ..)).1,List.length_cons,Nat.add_mul];omega
theorem flatS_get:∀(rows:List (List Value)),Rows' s rows→∀(i j:Nat) (hi:i<rows.length),j<s→rows.flatten[i * s+j]?=rows[i][j]?
 | [],_,i,_,hi,_=>by simp at hi
 | r :: l,h,i,j,hi,hj=>by
  have hr:r.length=s:=(h r (List.mem_cons_self ..)).1;cases i with
  | zero=>rw [List.flatten_cons,Nat.zero_mul,Nat.zero_add,List.getElem?_append_left (by omega)]; rfl
  | succ i=>
   rw [List.flatten_cons,List.getElem?_append_right (by rw [hr,Nat.succ_mul]; omega),hr,show (i+1) * s+j - s=i * s+j by rw [Nat.succ_mul]; omega];exact flatS_get l (fun x hx=>h x (List.mem_cons_of_mem _ hx)) i j (by simpa using hi) hj
theorem flatS_set:∀(rows:List (List Value)) (i:Nat) (a b r:List Value) (u x:Value),Rows' s rows→(hi:i<rows.length)→rows[i]=a ++ x :: b→r=a ++ u :: b→rows.flatten.set (i * s+a.length) u=(rows.set i r).flatten
 | [],i,_,_,_,_,_,_,hi,_,_=>by simp at hi
 | q :: l,i,a,b,r,u,x,h,hi,he,hr=>by
  have hq:q.length=s:=(h q (List.mem_cons_self ..)).1;cases i with
  | zero=>
   simp only [List.getElem_cons_zero] at he;subst he hr;rw [List.flatten_cons,Nat.zero_mul,Nat.zero_add,List.set_cons_zero,List.flatten_cons,List.set_append_left _ _ (by simp)];congr 1;rw [List.set_append_right _ _ (Nat.le_refl _),Nat.sub_self,List.set_cons_zero]
  | succ i=>
   rw [List.flatten_cons,List.set_cons_succ,List.flatten_cons,List.set_append_right _ _ (by rw [hq,Nat.succ_mul]; omega),hq,show (i+1) * s+a.length - s=i * s+a.length by rw [Nat.succ_mul]; omega];rw [flatS_set l i a b r u x (fun x hx=>h x (List.mem_cons_of_mem _ hx)) (by simpa using hi) (by simpa using he) hr]
theorem Rows'.set {r:List Value} (h:Rows' s rows) (i:Nat) (hr:r.length=s) (h1:∀u∈r,u.oneCell'=true):Rows' s (rows.set i r):=fun x hx=>by
 rcases List.mem_or_eq_of_mem_set hx with h2 | rfl
 ·exact h x h2
 ·exact ⟨hr,h1⟩
theorem Rows'.snoc {r:List Value} (h:Rows' s rows) (hr:r.length=s) (h1:∀u∈r,u.oneCell'=true):Rows' s (rows ++ [r]):=fun x hx=>by
 rw [List.mem_append,List.mem_singleton] at hx;rcases hx with h2 | rfl
 ·exact h x h2
 ·exact ⟨hr,h1⟩
theorem OwnS.row {g n cap:Nat} (h:OwnS w base e s (.slice (some ⟨g,0,none⟩) n cap) rows) (i:Nat) (hi:i<rows.length):w.rangeAt g (i * s) rows[i]∧w.there g (i * s) s:=by
 obtain rfl:n=rows.length:=by obtain ⟨a,c,h2⟩:=h.len; simp only [Value.slice.injEq] at h2; exact h2.2.1
 have hr:=(h.1 _ (List.getElem_mem hi)).1;have hb:∀j,j<s→i * s+j<rows.length * s:=fun j hj=>by
  have:i * s+s≤rows.length * s:=by rw [← Nat.succ_mul]; exact Nat.mul_le_mul_right _ hi
  omega
 have hc:∀j,j<s→w.cell? ⟨g,i * s+j,none⟩=rows[i][j]?:=fun j hj=>by
  rw [World.ownsRow.cellAt h.2 _ (hb j hj),flatS_get rows h.1 i j hi hj]
 refine ⟨fun j u hj=>?_,fun j hj=>⟨?_,World.ownsRow.frozenAt h.2 _⟩⟩
 ·have hjs:j<s:=by rw [← hr]; exact (List.getElem?_eq_some_iff.1 hj).1
  rw [hc j hjs,hj]
 ·rw [hc j hj,List.getElem?_eq_getElem (by omega)]; rfl
theorem OwnS.setCell {g n cap:Nat} (h:OwnS w base e s (.slice (some ⟨g,0,none⟩) n cap) rows) (i:Nat) (hi:i<rows.length) (a b:List Value) (x u:Value) (he:rows[i]=a ++ x :: b) (hu:u.oneCell'=true):OwnS (w.setCell ⟨g,i * s+a.length,none⟩ u) base e s (.slice (some ⟨g,0,none⟩) n cap) (rows.set i (a ++ u :: b)):=by
 obtain rfl:n=rows.length:=by obtain ⟨a,c,h2⟩:=h.len; simp only [Value.slice.injEq] at h2; exact h2.2.1
 have hm:=h.1 _ (List.getElem_mem hi);have h1:=(World.ownsRow.stored h.2 (i * s+a.length) u).1;refine ⟨h.1.set i (by rw [← hm.1,he]; simp) fun z hz=>?_,?_⟩
 ·rw [List.mem_append,List.mem_cons] at hz
  rcases hz with hz | rfl | hz
  ·exact hm.2 z (by rw [he]; simp [hz])
  ·exact hu
  ·exact hm.2 z (by rw [he]; simp [hz])
 ·rw [List.length_set,← flatS_set rows i a b _ u x h.1 hi he rfl]
  exact h1
theorem OwnS.setCells {g n cap:Nat} (i:Nat):∀(r q a:List Value) (w:World) (rows:List (List Value)),OwnS w base e s (.slice (some ⟨g,0,none⟩) n cap) rows→(hi:i<rows.length)→rows[i]=a ++ q→q.length=r.length→(∀u∈r,u.oneCell'=true)→OwnS (w.setCells g (i * s+a.length) r) base e s (.slice (some ⟨g,0,none⟩) n cap) (rows.set i (a ++ r))
 | [],q,a,w,rows,h,hi,he,hl,_=>by
  have:q=[]:=List.length_eq_zero_iff.1 hl;subst this;rw [← he,List.set_getElem_self];exact h
 | u :: r,q,a,w,rows,h,hi,he,hl,h1=>by
  cases q with
  | nil=>simp at hl
  | cons x q=>
   have h2:=h.setCell i hi a q x u he (h1 u (List.mem_cons_self ..));have h3:=OwnS.setCells i r q (a ++ [u]) _ _ h2 (by simpa using hi) (by simp) (by simpa using hl) (fun z hz=>h1 z (List.mem_cons_of_mem _ hz));rw [List.set_set,List.append_assoc] at h3;rw [List.length_append] at h3;exact h3
theorem OwnS.setRow {g n cap:Nat} {r:List Value} (h:OwnS w base e s (.slice (some ⟨g,0,none⟩) n cap) rows) (i:Nat) (hi:i<rows.length) (hr:r.length=s) (h1:∀u∈r,u.oneCell'=true):OwnS (w.setCells g (i * s) r) base e s (.slice (some ⟨g,0,none⟩) n cap) (rows.set i r):=
 OwnS.setCells i r rows[i] [] w rows h hi rfl (by rw [(h.1 _ (List.getElem_mem hi)).1,hr]) h1
theorem setCells_other (g:Nat):∀(r:List Value) (o:Nat) (w:World) (k:Nat),k≠g→(w.setCells g o r).heap[k]?=w.heap[k]?
 | [],_,_,_,_=>rfl
 | u :: r,o,w,k,h=>(setCells_other g r (o+1) _ k h).trans (heap_setCell_other w ⟨g,o,none⟩ k u h)
theorem setCells_grown (g:Nat):∀(r:List Value) (o:Nat) (w:World),w.grownBy (w.setCells g o r) (some g)
 | [],_,w=>grownBy_refl w _
 | u :: r,o,w=>grownBy_trans (grownBy_setCell w ⟨g,o,none⟩ u) (setCells_grown g r (o+1) _)
theorem step_append_s (st:TypeId) {bytes:Nat} {z:Value} (hu:Try.prog.underlying st=some (.slice e)) (hinfo:(Try.prog.info? e).map (fun i=>(i.zero,i.size,i.bytes))=some (some z,s,bytes)) (hzs:z.cells.size=s) (hsz:0<s) (hby:bytes≤200)
  {ops:Array Oper} {o:Oper} {a:Act} {K:Act→World→Prop} {Q:Exit→Act→World→Prop} {E:Prop}
  (hgd:o.guard=none) (sl x:Operand) (hop:o.op=Op.call { callee:=Callee.builtin Builtin.append,args:=#[sl,x],argTypes:=#[st,st] })
  (hs:a.eval sl=v) (hown:OwnS w base e s v rows) (r:List Value) (hr:r.length=s) (hr1:∀u∈r,u.oneCell'=true) (g:Nat)
  (hx:a.eval x=.slice (some ⟨g,0,none⟩) 1 1) (hcell:w.heap[g]?=some (.cells r.toArray e (0,0))) (hl:rows.length≤1000000) (hb:base≤w.heap.size)
  (hK:∀v' w',OwnS w' base e s v' (rows ++ [r])→w.grownBy w' v.ownBlock→(v'.ownBlock=v.ownBlock∨v'.ownBlock=some w.heap.size)→K (a.put o.dst v') w') :
  if Region.wanted o (yielded ops a.tmps)=true then Oper.wp Try.prog o a w K Q else E:=by
 rw [if_pos (by simp [Region.wanted,hgd])];obtain ⟨i0,hi,hz0,hz1,hz2⟩:=info_parts hinfo;obtain ⟨v',w',hrun,h2,h3,-,h4⟩:=run_append_own_at (P:=Try.prog) w base st o.type e i0 z s bytes hu hi hz0 hz1 hz2 hzs hsz v rows.length _ hown.2 ⟨g,0,none⟩ 1 1 r (by omega) (fun j u hj=>by
  have:w.cell? ⟨g,j,none⟩=r.toArray[j]?:=cell_of_row _ _ j _ _ _ hcell;have e2:((⟨g,0,none⟩:Addr).add j)=⟨g,j,none⟩:=by rw [Addr.add_mid,Nat.zero_add]
  rw [e2,this];simpa using hj) hr1 (by unfold maxLen; omega) (by have:(rows.length+1) * bytes≤1000001 * 200:=Nat.mul_le_mul (by omega) hby; omega) hb
 refine Lib.wp_append_run w sl x _ _ hop _ _ hs hx v' w' hrun (hK v' w' ⟨hown.1.snoc hr hr1,?_⟩ h3 h4);rw [List.length_append,List.flatten_append];simpa using h2
end
theorem step_store_mid {ops:Array Oper} {Q:Exit→Act→World→Prop} {o:Oper} {a:Act} {w:World} {K:Act→World→Prop} {E:Prop} (hgd:o.guard=none) (ty:TypeId) (x y:Operand) (ho:o.op=.store ty x y)
  (b off:Nat) (cells:Array Value) (hx:a.eval x=.pointer (some ⟨b,off,none⟩)) (hy:a.eval y=.agg cells) (ht:w.there b off cells.size) (hi:(Try.prog.info? ty).map (·.size)=some cells.size) (h1:cells.all (·.oneCell')=true)
  (h:K (a.put o.dst undef) (w.setCells b off cells.toList)):if Region.wanted o (yielded ops a.tmps)=true then Oper.wp Try.prog o a w K Q else E:=by
 rw [if_pos (by simp [Region.wanted,hgd])];exact wp_store_mid ty x y ho b off cells hx hy ht hi h1 h
def OffS (S:List (Option Nat)) (w0:World):World→Prop:=fun w=>w0.heap.size≤w.heap.size∧∀j,j<w0.heap.size→some j ∉ S→w.heap[j]?=w0.heap[j]?
section
variable {S S2:List (Option Nat)} {w w0 w1 w2 w':World}
theorem OffS.trans (h:OffS S w0 w1) (h2:OffS S2 w1 w2) (hs:∀j,j<w0.heap.size→some j∈S2→some j∈S):OffS S w0 w2:=
 ⟨Nat.le_trans h.1 h2.1,fun j hj hn=>(h2.2 j (Nat.lt_of_lt_of_le hj h.1) (fun e=>hn (hs j hj e))).trans (h.2 j hj hn)⟩
theorem OffS.trans1 (h:OffS S w0 w1) (h2:OffS S w1 w2):OffS S w0 w2:=h.trans h2 fun _ _ e=>e
theorem OffS.below (h:Below w.heap.size w w'):OffS S w w':=⟨h.size,fun j hj _=>h.block j hj⟩
theorem OffS.grown {row:Option Nat} (h:w.grownBy w' row) (hr:row=none∨row∈S):OffS S w w':=⟨h.size,fun j hj hn=>h.block j hj (fun e=>by
 rcases hr with rfl | hr
 ·simp at e
 ·exact hn (e▸hr))⟩
theorem OffS.nx (h:OffS S w0 w) (hb:Below w.heap.size w w') (hS:∀j,some j∈S→j<w.heap.size):∀w2,OffS S w' w2→Nx (OffS S w0) w w' w2:=fun w2 h3=>
 ⟨h.trans1 ((OffS.below hb).trans1 h3),⟨h3.1,fun j hj hj2=>h3.2 j hj2 (fun e=>by have:=hS j e; omega)⟩⟩
end
structure CaseM where
 send:Bool
 chan:Int
 val:Int
structure OpM where
 kind:Int
 mode:Int
 chan:Int
 val:Int
 dl:Int
 cases:List CaseM
 draws:List Int
def CaseM.ok (c:CaseM):Prop:=c.chan=IntKind.i64.wrap c.chan∧c.val=IntKind.u64.wrap c.val
def noCase:CaseM:=⟨false,0,0⟩
def CaseAt (w:World) (b o:Nat) (c:CaseM):Prop:=
 w.cell? ⟨b,o,none⟩=some (.bool c.send)∧w.cell? ⟨b,o+1,none⟩=some (.int .i64 c.chan)∧w.cell? ⟨b,o+2,none⟩=some (.int .u64 c.val)
def SlC (w:World) (v:Value) (l:List CaseM):Prop:=
 l.length≤140737488351232∧(∀x∈l,x.ok)∧∃a cap,v=.slice a l.length cap∧l.length≤cap∧
  ∀t,t<l.length→∃b off,a=some ⟨b,off,none⟩∧b<w.heap.size∧CaseAt w b (off+t * 3) (l.getD t noCase)
theorem CaseAt.below {w w':World} {b o B:Nat} {c:CaseM} (h:CaseAt w b o c) (hb:b<B) (hw:Below B w w'):CaseAt w' b o c:=
 ⟨(hw.cell (p:=⟨b,o,none⟩) hb).trans h.1,(hw.cell (p:=⟨b,o+1,none⟩) hb).trans h.2.1,(hw.cell (p:=⟨b,o+2,none⟩) hb).trans h.2.2⟩
theorem SlC.below {w w':World} {v:Value} {l:List CaseM} (h:SlC w v l) (hb:Below w.heap.size w w'):SlC w' v l:=by
 obtain ⟨h1,h2,a,cap,h3,h4,h5⟩:=h;refine ⟨h1,h2,a,cap,h3,h4,fun t ht=>?_⟩;obtain ⟨b,off,e,hlt,hc⟩:=h5 t ht;exact ⟨b,off,e,Nat.lt_of_lt_of_le hlt hb.size,hc.below hlt hb⟩
theorem SlC.drew {w:World} {v:Value} {l:List CaseM} (h:SlC w v l) (n:Nat):SlC (w.drewN n) v l:=h
theorem SlC.len {w:World} {v:Value} {l:List CaseM} (h:SlC w v l):∃a cap,v=.slice a l.length cap:=by
 obtain ⟨_,_,a,cap,rfl,_⟩:=h;exact ⟨a,cap,rfl⟩
theorem SlC.nil (w:World):SlC w (.slice none 0 0) []:=
 ⟨by simp,by simp,none,0,rfl,Nat.le_refl _,fun t ht=>by simp at ht⟩
def OpV (w:World) (v:Value) (op:OpM):Prop:=
 ∃vc vd,v=.agg #[.int .i64 op.kind,.int .i64 op.mode,.int .i64 op.chan,.int .u64 op.val,.int .i64 op.dl,vc,vd]∧SlC w vc op.cases∧SlI w .i64 vd op.draws
theorem OpV.below {w w':World} {v:Value} {op:OpM} (h:OpV w v op) (hb:Below w.heap.size w w'):OpV w' v op:=by
 obtain ⟨vc,vd,e,h1,h2⟩:=h;exact ⟨vc,vd,e,h1.below hb,h2.below hb⟩
theorem OpV.drew {w:World} {v:Value} {op:OpM} (h:OpV w v op) (n:Nat):OpV (w.drewN n) v op:=h
structure ConfM where
 caps:List Int
 starts:List Int
 threads:Int
def ConfV (w:World) (v:Value) (c:ConfM):Prop:=
 ∃vc vs,v=.agg #[vc,vs,.int .i64 c.threads]∧SlI w .i64 vc c.caps∧SlI w .u64 vs c.starts
theorem ConfV.below {w w':World} {v:Value} {c:ConfM} (h:ConfV w v c) (hb:Below w.heap.size w w'):ConfV w' v c:=by
 obtain ⟨vc,vd,e,h1,h2⟩:=h;exact ⟨vc,vd,e,h1.below hb,h2.below hb⟩
theorem ConfV.drew {w:World} {v:Value} {c:ConfM} (h:ConfV w v c) (n:Nat):ConfV (w.drewN n) v c:=h
structure ChanM where
 cap:Int
 buf:List Int
 closed:Bool
structure ResM where
 kind:Int
 case:Int
 val:Int
 ok:Bool
 num:Int
def noChan:ChanM:=⟨0,[],false⟩
def exB (l:List ChanM) (n:Int):Bool:=decide (0≤n) && decide (n<(l.length:Int))
def chE (l:List ChanM) (n:Int):ChanM:=l.getD n.toNat noChan
def readyB (l:List ChanM) (x:CaseM):Bool:=
 exB l x.chan && (if x.send then ((chE l x.chan).closed || decide (((chE l x.chan).buf.length:Int)<(chE l x.chan).cap)) else ((chE l x.chan).closed || decide (0<(chE l x.chan).buf.length)))
def setE (l:List ChanM) (n:Int) (c:ChanM):List ChanM:=l.set n.toNat c
def oneB (op:OpM):Bool:=op.kind == 1 || op.kind == 2
def oneC (op:OpM):CaseM:=if op.kind=1 then ⟨true,op.chan,op.val⟩ else if op.kind=2 then ⟨false,op.chan,op.val⟩ else noCase
def chosenE (op:OpM) (r:ResM):Option CaseM:=
 if op.kind=4 then (if r.case<0∨(op.cases.length:Int)≤r.case then none else some (op.cases.getD r.case.toNat noCase))
 else if oneB op=true∧r.case=-1 then some (oneC op) else none
def onlyB (r:ResM) (value number:Bool):Bool:=(value || (r.val == 0 && !r.ok)) && (number || r.num == 0)
def doE (l:List ChanM) (x:CaseM) (r:ResM):Option (List ChanM):=
 if exB l x.chan=false then none
 else if r.kind=1∧x.send=true then
  (if onlyB r false false=true∧(chE l x.chan).closed=false∧((chE l x.chan).buf.length:Int)<(chE l x.chan).cap then some (setE l x.chan { chE l x.chan with buf:=(chE l x.chan).buf ++ [x.val] }) else none)
 else if r.kind=5∧x.send=true then (if onlyB r false false=true∧(chE l x.chan).closed=true then some l else none)
 else if r.kind=2∧x.send=false∧r.ok=true then
  (if onlyB r true false=true∧(chE l x.chan).buf.head?=some r.val then some (setE l x.chan { chE l x.chan with buf:=(chE l x.chan).buf.tail }) else none)
 else if r.kind=2∧x.send=false then (if onlyB r true false=true∧r.val=0∧(chE l x.chan).closed=true∧(chE l x.chan).buf=[] then some l else none)
 else none
def casesE (op:OpM):List CaseM:=if op.kind=4 then op.cases else if oneB op then [oneC op] else []
def blockedB (l:List ChanM) (op:OpM):Bool:=(casesE op).all fun x=>!readyB l x
def waitsB (op:OpM):Bool:=op.kind == 1 || op.kind == 2 || op.kind == 4
def modE (l:List ChanM) (op:OpM) (r:ResM):Option (List ChanM):=
 if r.kind=1∨r.kind=2 then (chosenE op r).bind fun x=>doE l x r
 else if r.kind=5 then
  (if op.kind=3 then (if r.case=-1∧onlyB r false false=true∧(exB l op.chan=false∨(chE l op.chan).closed=true) then some l else none)
  else (chosenE op r).bind fun x=>doE l x r)
 else if r.kind=6 then
  (if op.kind=3∧r.case=-1∧onlyB r false false=true∧exB l op.chan=true∧(chE l op.chan).closed=false then some (setE l op.chan { chE l op.chan with closed:=true }) else none)
 else if r.kind=3 then (if waitsB op=true∧op.mode=1∧r.case=-1∧onlyB r false false=true∧blockedB l op=true then some l else none)
 else if r.kind=4 then (if waitsB op=true∧op.mode=2∧r.case=-1∧onlyB r false false=true then some l else none)
 else if r.kind=7 then
  (if (op.kind=5∨op.kind=6)∧r.case=-1∧onlyB r false true=true∧r.num=(if exB l op.chan=true then (if op.kind=6 then (chE l op.chan).cap else ((chE l op.chan).buf.length:Int)) else 0) then some l else none)
 else none
def halfB (l:List ChanM) (a:OpM) (x:ResM) (b:OpM) (y:ResM):Bool:=
 decide (x.kind=1∧y.kind=2) && onlyB x false false && onlyB y true false && y.ok &&
 (match chosenE a x,chosenE b y with
 | some p,some q=>p.send && !q.send && decide (p.chan=q.chan) && exB l p.chan && decide ((chE l p.chan).cap≤0) && !(chE l p.chan).closed && decide (y.val=p.val)
 | _,_=>false)
def pairB (l:List ChanM) (a:OpM) (x:ResM) (b:OpM) (y:ResM):Bool:=halfB l a x b y || halfB l b y a x
def numE (op:OpM) (i:Nat):Int:=if op.kind=4 then (i:Int) else -1
def meetPQ (a b:OpM) (i k:Nat):ResM × ResM:=
 if ((casesE a).getD i noCase).send then (⟨1,numE a i,0,false,0⟩,⟨2,numE b k,((casesE a).getD i noCase).val,true,0⟩)
 else (⟨2,numE a i,((casesE b).getD k noCase).val,true,0⟩,⟨1,numE b k,0,false,0⟩)
structure WaitM where
 thr:Int
 op:OpM
def SlS (w:World) (s:Nat) (v:Value) (rows:List (List Value)):Prop:=
 rows.length≤140737488351232∧Rows' s rows∧∃a cap,v=.slice a rows.length cap∧rows.length≤cap∧
  ∀i,i<rows.length→∃b off,a=some ⟨b,off,none⟩∧b<w.heap.size∧w.rangeAt b (off+i * s) (rows.getD i [])
theorem SlS.below {w w':World} {s:Nat} {v:Value} {rows:List (List Value)} (h:SlS w s v rows) (hb:Below w.heap.size w w'):SlS w' s v rows:=by
 obtain ⟨h1,h2,a,cap,rfl,h3,h4⟩:=h;refine ⟨h1,h2,a,cap,rfl,h3,fun i hi=>?_⟩;obtain ⟨b,off,e,hlt,hr⟩:=h4 i hi;exact ⟨b,off,e,Nat.lt_of_lt_of_le hlt hb.size,fun j u hj=>(hb.cell (p:=⟨b,off+i * s+j,none⟩) hlt).trans (hr j u hj)⟩
theorem SlS.len {w:World} {s:Nat} {v:Value} {rows:List (List Value)} (h:SlS w s v rows):∃a cap,v=.slice a rows.length cap∧rows.length≤cap:=by
 obtain ⟨-,-,a,cap,rfl,h3,-⟩:=h;exact ⟨a,cap,rfl,h3⟩
theorem SlS.open {w:World} {s:Nat} {v:Value} {rows:List (List Value)} (h:SlS w s v rows) (hn:0<rows.length):∃b off cap,v=.slice (some ⟨b,off,none⟩) rows.length cap∧b<w.heap.size∧∀i,i<rows.length→w.rangeAt b (off+i * s) (rows.getD i []):=by
 obtain ⟨-,-,a,cap,rfl,h3,h4⟩:=h;obtain ⟨b,off,rfl,hlt,-⟩:=h4 0 hn;refine ⟨b,off,cap,rfl,hlt,fun i hi=>?_⟩;obtain ⟨b',off',e,-,hr⟩:=h4 i hi;simp only [Option.some.injEq,Addr.mk.injEq] at e;obtain ⟨rfl,rfl,-⟩:=e;exact hr
theorem SlS.nil (w:World) (s:Nat):SlS w s (.slice none 0 0) []:=⟨by simp,fun r h=>by simp at h,none,0,rfl,Nat.le_refl _,fun i hi=>by simp at hi⟩
theorem OwnS.sls {w:World} {base s:Nat} {e:TypeId} {v:Value} {rows:List (List Value)} (h:OwnS w base e s v rows) (hl:rows.length≤140737488351232):SlS w s v rows:=by
 refine ⟨hl,h.1,?_⟩;rcases h.shape with ⟨rfl,rfl⟩ | ⟨g,cap,rfl,h3,h4,h5⟩
 ·exact ⟨none,0,rfl,Nat.le_refl _,fun i hi=>by simp at hi⟩
 ·refine ⟨some ⟨g,0,none⟩,cap,rfl,h5,fun i hi=>⟨g,0,rfl,h4,?_⟩⟩
  rw [List.getD_eq_getElem?_getD,List.getElem?_eq_getElem hi,Nat.zero_add];exact (h.row i hi).1
theorem run_copy_sls (w:World) (st ty:TypeId) {e:TypeId} {s bytes:Nat} {z:Value} (hu:Try.prog.underlying st=some (.slice e)) (hinfo:(Try.prog.info? e).map (fun i=>(i.zero,i.size,i.bytes))=some (some z,s,bytes)) (hzs:z.cells.size=s) (hsz:0<s) (hby:bytes≤200)
  {base:Nat} {v:Value} {rows:List (List Value)} (hS:SlS w s v rows) (hne:rows≠[]) (hl:rows.length≤1000000) (hb:base≤w.heap.size) :
  ∃v' w',(Builtin.append_ #[st,st] ty #[.slice none 0 0,v]).run Try.prog w=.ok v' w'∧OwnS w' base e s v' rows∧w.grownBy w' none:=by
 obtain ⟨i0,hi,hz0,hz1,hz2⟩:=info_parts hinfo;have hr1:=hS.2.1;obtain ⟨b,off,cap,rfl,hbl,hr⟩:=hS.open (List.length_pos_iff.2 hne);obtain ⟨v',w',hrun,h2,h3,-,h4⟩:=run_append_own_at (P:=Try.prog) w base st ty e i0 z s bytes hu hi hz0 hz1 hz2 hzs hsz (.slice none 0 0) 0 [] (World.ownsRow_nil w base e s) ⟨b,off,none⟩ rows.length cap rows.flatten (flatS_length rows hr1) (fun j u hj=>by
   have hlt:=(List.getElem?_eq_some_iff.1 hj).1;rw [flatS_length rows hr1] at hlt;have hq:j / s<rows.length:=Nat.div_lt_of_lt_mul (by rw [Nat.mul_comm]; exact hlt);have hm:j % s<s:=Nat.mod_lt _ hsz;have hj2:j=j / s * s+j % s:=by rw [Nat.mul_comm]; exact (Nat.div_add_mod j s).symm
   have e2:((⟨b,off,none⟩:Addr).add j)=⟨b,off+(j / s) * s+j % s,none⟩:=by rw [Addr.add_mid,Nat.add_assoc,← hj2]
   rw [e2];refine hr (j / s) hq (j % s) u ?_;rw [List.getD_eq_getElem?_getD,List.getElem?_eq_getElem hq];have h9:=flatS_get rows hr1 (j / s) (j % s) hq hm;rw [← hj2] at h9;show rows[j / s][j % s]?=some u;rw [← h9];exact hj) (fun u hu=>by
   obtain ⟨r,hr,hur⟩:=List.mem_flatten.1 hu;exact (hr1 r hr).2 u hur) (by unfold maxLen; omega) (by have:(0+rows.length) * bytes≤1000000 * 200:=Nat.mul_le_mul (by omega) hby; omega) hb
 rw [Nat.zero_add,List.nil_append] at h2;exact ⟨v',w',hrun,⟨hr1,h2⟩,h3⟩
theorem wp_copy_sls (w:World) (st:TypeId) {e:TypeId} {s bytes:Nat} {z:Value} (hu:Try.prog.underlying st=some (.slice e)) (hinfo:(Try.prog.info? e).map (fun i=>(i.zero,i.size,i.bytes))=some (some z,s,bytes)) (hzs:z.cells.size=s) (hsz:0<s) (hby:bytes≤200)
  {ops:Array Oper} {rest:List Oper} {o:Oper} {a:Act} {Q:Exit→Act→World→Prop}
  (hg:o.guard=none) (sl x:Operand) (hop:o.op=Op.call { callee:=Callee.builtin Builtin.append,args:=#[sl,x],argTypes:=#[st,st] })
  {base:Nat} {v:Value} {rows:List (List Value)} (hs:a.eval sl=.slice none 0 0) (hx:a.eval x=v) (hS:SlS w s v rows) (hne:rows≠[]) (hl:rows.length≤1000000) (hb:base≤w.heap.size)
  (hK:∀v' w',OwnS w' base e s v' rows→w.grownBy w' none→wpList Try.prog ops Q rest (a.put o.dst v') w') :
  wpList Try.prog ops Q (o :: rest) a w:=by
 obtain ⟨v',w',hr,h1,h2⟩:=run_copy_sls w st o.type hu hinfo hzs hsz hby hS hne hl hb;exact Lib.wpList_append_run w hg sl x _ _ hop _ _ hs hx v' w' hr (hK v' w' h1 h2)
def chRow (c:ChanM) (u:Value):List Value:=[.int .i64 c.cap,u,.bool c.closed]
def chRows:List ChanM→List Value→List (List Value)
 | c :: l,u :: us=>chRow c u :: chRows l us
 | _,_=>[]
theorem chRows_length:∀(l:List ChanM) (us:List Value),us.length=l.length→(chRows l us).length=l.length
 | [],[],_=>rfl
 | c :: l,u :: us,h=>by show (chRows l us).length+1=_; rw [chRows_length l us (by simpa using h)]; rfl
 | [],u :: us,h=>by simp at h
 | c :: l,[],h=>by simp at h
theorem chRows_get:∀(l:List ChanM) (us:List Value) (i:Nat),us.length=l.length→i<l.length→(chRows l us).getD i []=chRow (l.getD i noChan) (us.getD i (.slice none 0 0))
 | c :: l,u :: us,0,_,_=>rfl
 | c :: l,u :: us,i+1,h,hi=>by
  have:=chRows_get l us i (by simpa using h) (by simpa using hi);simpa [chRows] using this
 | [],[],i,_,hi=>by simp at hi
 | [],u :: us,_,h,_=>by simp at h
 | c :: l,[],_,h,_=>by simp at h
theorem chRows_set:∀(l:List ChanM) (us:List Value) (i:Nat) (c:ChanM) (u:Value),us.length=l.length→(chRows l us).set i (chRow c u)=chRows (l.set i c) (us.set i u)
 | c :: l,u :: us,0,_,_,_=>rfl
 | c :: l,u :: us,i+1,c2,u2,h=>by
  have:=chRows_set l us i c2 u2 (by simpa using h);simp [chRows,this]
 | [],[],i,_,_,_=>by cases i <;> rfl
 | [],u :: us,_,_,_,h=>by simp at h
 | c :: l,[],_,_,_,h=>by simp at h
theorem chRows_snoc:∀(l:List ChanM) (us:List Value) (c:ChanM) (u:Value),us.length=l.length→chRows (l ++ [c]) (us ++ [u])=chRows l us ++ [chRow c u]
 | [],[],_,_,_=>rfl
 | c :: l,u :: us,c2,u2,h=>by
  have:=chRows_snoc l us c2 u2 (by simpa using h);simp [chRows,this]
 | [],u :: us,_,_,h=>by simp at h
 | c :: l,[],_,_,h=>by simp at h
def notC (w:World) (b:Nat):Prop:=∀cs f,w.heap[b]?≠some (.cells cs 77 f)
def fineB (w:World) (v:Value):Prop:=∀a n c,v=.slice (some a) n c→n=0∨(a.block<w.heap.size∧notC w a.block)
theorem fineB.nil (w:World):fineB w (.slice none 0 0):=fun a n c h=>by simp at h
theorem fineB.below {w w':World} {v:Value} (h:fineB w v) (hb:Below w.heap.size w w'):fineB w' v:=fun a n c e=>by
 rcases h a n c e with h1 | ⟨h1,h2⟩
 ·exact .inl h1
 ·exact .inr ⟨Nat.lt_of_lt_of_le h1 hb.size,fun cs f=>by rw [hb.block a.block h1]; exact h2 cs f⟩
theorem notC.setCell {w:World} {b:Nat} (h:notC w b) (p:Addr) (u:Value):notC (w.setCell p u) b:=fun cs f e=>by
 by_cases hb:b=p.block
 ·subst hb
  unfold World.setCell at e;simp only [Array.getElem?_modify,if_true] at e;obtain ⟨o,ho,hf⟩:=Option.map_eq_some_iff.1 e;cases o <;> simp only [Obj.cells.injEq,reduceCtorEq] at hf;exact h _ _ (by rw [ho,hf.2.1])
 ·rw [heap_setCell_other w p b u hb] at e
  exact h cs f e
theorem fineB.setCell {w:World} {v:Value} (h:fineB w v) (p:Addr) (u:Value):fineB (w.setCell p u) v:=fun a n c e=>by
 rcases h a n c e with h1 | ⟨h1,h2⟩
 ·exact .inl h1
 ·exact .inr ⟨by simpa using h1,h2.setCell p u⟩
theorem notC_of {w:World} {b:Nat} {cur:Array Value} {e:TypeId} {f:Nat × Nat} (h:w.heap[b]?=some (.cells cur e f)) (he:e≠77):notC w b:=fun cs f2 h2=>by
 rw [h] at h2;simp only [Option.some.injEq,Obj.cells.injEq] at h2;exact he h2.2.1
theorem own_fine {w:World} {base s n:Nat} {e:TypeId} {v:Value} {xs:List Value} (h:w.ownsRow base e s v n xs) (he:e≠77):fineB w v:=fun a m c e2=>by
 rcases h.2 with ⟨rfl,rfl⟩ | ⟨g,cap,cur,rfl,-,hg,-⟩
 ·simp at e2
 ·simp only [Value.slice.injEq,Option.some.injEq] at e2
  obtain ⟨rfl,-,-⟩:=e2;exact .inr ⟨(Array.getElem?_eq_some_iff.1 hg).1,notC_of hg he⟩
def SlU (w:World) (u:Value) (l:List Int):Prop:=SlI w .u64 u l∧fineB w u
theorem SlU.below {w w':World} {u:Value} {l:List Int} (h:SlU w u l) (hb:Below w.heap.size w w'):SlU w' u l:=⟨h.1.below hb,h.2.below hb⟩
theorem SlU.nil (w:World):SlU w (.slice none 0 0) []:=⟨SlI.nil _ _,fineB.nil _⟩
theorem OwnI.slU {w:World} {base:Nat} {u:Value} {l:List Int} (h:OwnI w base 41 .u64 u l) (hl:l.length≤140737488351232) (hw:∀x∈l,x=IntKind.u64.wrap x):SlU w u l:=⟨h.read hl hw,own_fine h (by decide)⟩
def SlH (w:World) (v:Value) (l:List ChanM):Prop:=
 ∃us:List Value,us.length=l.length∧SlS w 3 v (chRows l us)∧(∀i,i<l.length→SlU w (us.getD i (.slice none 0 0)) (l.getD i noChan).buf)∧(∀c∈l,c.cap=IntKind.i64.wrap c.cap)∧fineB w v
theorem SlH.below {w w':World} {v:Value} {l:List ChanM} (h:SlH w v l) (hb:Below w.heap.size w w'):SlH w' v l:=by
 obtain ⟨us,h1,h2,h3,h4,h5⟩:=h;exact ⟨us,h1,h2.below hb,fun i hi=>(h3 i hi).below hb,h4,h5.below hb⟩
theorem SlH.len {w:World} {v:Value} {l:List ChanM} (h:SlH w v l):∃a cap,v=.slice a l.length cap∧l.length≤cap:=by
 obtain ⟨us,h1,h2,-⟩:=h;obtain ⟨a,cap,rfl,h3⟩:=h2.len;rw [chRows_length l us h1] at h3 ⊢;exact ⟨a,cap,rfl,h3⟩
theorem SlH.bound {w:World} {v:Value} {l:List ChanM} (h:SlH w v l):l.length≤140737488351232:=by
 obtain ⟨us,h1,h2,-⟩:=h;have:=h2.1;rw [chRows_length l us h1] at this;exact this
theorem SlH.at2 {w:World} {v:Value} {l:List ChanM} (h:SlH w v l) (i:Nat) (hi:i<l.length):∃b off cap u,v=.slice (some ⟨b,off,none⟩) l.length cap∧b<w.heap.size∧w.cell? ⟨b,off+i * 3,none⟩=some (.int .i64 (l.getD i noChan).cap)∧w.cell? ⟨b,off+i * 3+1,none⟩=some u∧w.cell? ⟨b,off+i * 3+2,none⟩=some (.bool (l.getD i noChan).closed)∧SlU w u (l.getD i noChan).buf:=by
 obtain ⟨us,h1,h2,h3,-⟩:=h;have hlen:=chRows_length l us h1;obtain ⟨b,off,cap,rfl,hb,hr⟩:=h2.open (by omega);have h5:=hr i (by omega);rw [chRows_get l us i h1 hi] at h5;exact ⟨b,off,cap,_,by rw [hlen],hb,h5 0 _ rfl,h5 1 _ rfl,h5 2 _ rfl,h3 i hi⟩
theorem SlH.at {w:World} {v:Value} {l:List ChanM} (h:SlH w v l) (i:Nat) (hi:i<l.length):∃b off cap u,v=.slice (some ⟨b,off,none⟩) l.length cap∧b<w.heap.size∧w.cell? ⟨b,off+i * 3,none⟩=some (.int .i64 (l.getD i noChan).cap)∧w.cell? ⟨b,off+i * 3+1,none⟩=some u∧w.cell? ⟨b,off+i * 3+2,none⟩=some (.bool (l.getD i noChan).closed)∧SlI w .u64 u (l.getD i noChan).buf:=by
 obtain ⟨b,off,cap,u,h1,h2,h3,h4,h5,h6⟩:=h.at2 i hi;exact ⟨b,off,cap,u,h1,h2,h3,h4,h5,h6.1⟩
theorem OwnS.slH {w:World} {base:Nat} {v:Value} {l:List ChanM} {us:List Value} (h:OwnS w base 63 3 v (chRows l us)) (h1:us.length=l.length) (hl:l.length≤1000000) (h3:∀i,i<l.length→SlU w (us.getD i (.slice none 0 0)) (l.getD i noChan).buf) (h4:∀c∈l,c.cap=IntKind.i64.wrap c.cap):SlH w v l:=
 ⟨us,h1,h.sls (by rw [chRows_length l us h1]; omega),h3,h4,own_fine h.2 (by decide)⟩
theorem fineB.off {w w2:World} {g:Nat} {v:Value} {b off n c:Nat} (h:fineB w v) (hv:v=.slice (some ⟨b,off,none⟩) n c) (hn:0<n) (hC:∃cs f,w.heap[g]?=some (.cells cs 77 f)):b≠g:=fun e=>by
 obtain ⟨cs,f,hg⟩:=hC;rcases h _ _ _ hv with h1 | ⟨-,h1⟩
 ·omega
 ·subst e
  exact h1 cs f hg
theorem fineB.grown {w w2:World} {g:Nat} {v:Value} (h:fineB w v) (hg:w.grownBy w2 (some g)) (hC:∃cs f,w.heap[g]?=some (.cells cs 77 f)):fineB w2 v:=fun a n c e=>by
 rcases h a n c e with h1 | ⟨h1,h2⟩
 ·exact .inl h1
 ·refine .inr ⟨Nat.lt_of_lt_of_le h1 hg.size,fun cs f=>?_⟩
  obtain ⟨cs2,f2,hgg⟩:=hC;rw [hg.block a.block h1 (fun e=>by simp only [Option.some.injEq] at e; rw [e] at h2; exact h2 cs2 f2 hgg)];exact h2 cs f
theorem SlU.grown {w w2:World} {g:Nat} {u:Value} {l:List Int} (h:SlU w u l) (hg:w.grownBy w2 (some g)) (hC:∃cs f,w.heap[g]?=some (.cells cs 77 f)):SlU w2 u l:=by
 refine ⟨h.1.grown hg fun a n c e=>?_,h.2.grown hg hC⟩;rcases h.2 a n c e with h1 | ⟨-,h1⟩
 ·exact .inl h1
 ·refine .inr fun e2=>?_
  obtain ⟨cs,f,hgg⟩:=hC;rw [e2] at h1;exact h1 cs f hgg
theorem SlH.grown {w w2:World} {g:Nat} {v:Value} {l:List ChanM} (h:SlH w v l) (hg:w.grownBy w2 (some g)) (hC:∃cs f,w.heap[g]?=some (.cells cs 77 f)):SlH w2 v l:=by
 obtain ⟨us,h1,h2,h3,h4,h5⟩:=h;refine ⟨us,h1,?_,fun i hi=>(h3 i hi).grown hg hC,h4,h5.grown hg hC⟩;obtain ⟨q1,q2,a,cap,rfl,q4,q5⟩:=h2;refine ⟨q1,q2,a,cap,rfl,q4,fun i hi=>?_⟩;obtain ⟨b,off,rfl,hb,hr⟩:=q5 i hi;have hne:b≠g:=h5.off (w2:=w) rfl (by omega) hC;exact ⟨b,off,rfl,Nat.lt_of_lt_of_le hb hg.size,fun j u hj=>by
  have hbk:=hg.block b hb (fun e=>hne (by simp only [Option.some.injEq] at e; exact e));have:=hr j u hj;unfold World.cell? at this ⊢;rw [hbk];exact this⟩
open Go.RowKit
theorem tmod_bd (x:Int) (i:Nat):- ((i:Int)+1)<x.tmod (i+1)∧x.tmod (i+1)<i+1:=by
 constructor
 ·rcases Int.le_total 0 x with h | h
  ·have:=Int.tmod_nonneg (i+1:Int) h; omega
  ·have:=Int.tmod_nonneg (i+1:Int) (show 0≤-x by omega)
   have h2:=Int.tmod_lt_of_pos (-x) (show (0:Int)<i+1 by omega);rw [Int.neg_tmod] at h2; omega
 ·exact Int.tmod_lt_of_pos x (by omega)
theorem tmod_mod (x:Int) (i:Nat):x % (i+1)=if x.tmod (i+1)<0 then x.tmod (i+1)+(i+1) else x.tmod (i+1):=by
 have hb:=tmod_bd x i;have h:=Int.tmod_add_mul_tdiv x (i+1);have h3:x % (i+1)=(x.tmod (i+1)) % (i+1):=by
  conv=>lhs; rw [← h]
  rw [Int.add_mul_emod_self_left]
 rw [h3];split
 ·rw [← Int.add_emod_right,Int.emod_eq_of_lt (by omega) (by omega)]
 ·exact Int.emod_eq_of_lt (by omega) (by omega)
def drawI (l:List Int) (i:Nat):Nat:=((l.getD i 0) % (i+1)).toNat
theorem drawI_le (l:List Int) (i:Nat):drawI l i≤i:=by
 unfold drawI;have h1:=Int.emod_nonneg (l.getD i 0) (show ((i:Int)+1)≠0 by omega);have h2:=Int.emod_lt_of_pos (l.getD i 0) (show (0:Int)<(i:Int)+1 by omega);omega
theorem drawI_out (l:List Int) (i:Nat) (h:l.length≤i):drawI l i=0:=by
 unfold drawI; rw [List.getD_eq_getElem?_getD,List.getElem?_eq_none h]; simp
theorem drawI_neg (l:List Int) (i:Nat) (h:(l.getD i 0).tmod (i+1)<0):((l.getD i 0).tmod (i+1)+(i+1))=(drawI l i:Int):=by
 have e:=tmod_mod (l.getD i 0) i;rw [if_pos h] at e;have h1:=Int.emod_nonneg (l.getD i 0) (show ((i:Int)+1)≠0 by omega);unfold drawI; omega
theorem drawI_pos (l:List Int) (i:Nat) (h:0≤(l.getD i 0).tmod (i+1)):(l.getD i 0).tmod (i+1)=(drawI l i:Int):=by
 have e:=tmod_mod (l.getD i 0) i;rw [if_neg (by omega)] at e;unfold drawI; omega
def fd (x:Int):List Int→Nat
 | []=>0
 | y :: t=>if y=x then 0 else fd x t+1
theorem ext_same (l m:List Int) (hl:l.length=m.length) (h:∀j,j<l.length→l.getD j 0=m.getD j 0):l=m:=by
 apply List.ext_getElem hl;intro i h1 h2;simpa [List.getD_eq_getElem?_getD,h1,h2] using h i h1
def asc (n:Nat):List Int:=(List.range n).map fun (i:Nat)=>(i:Int)
theorem asc_length (n:Nat):(asc n).length=n:=by simp [asc]
theorem asc_mem (n:Nat) (x:Int) (h:x∈asc n):0≤x∧x<n:=by
 simp [asc] at h; obtain ⟨i,hi,rfl⟩:=h; omega
def fill (n k:Nat):List Int:=asc k ++ List.replicate (n - k) 0
theorem fill_zero (n:Nat):fill n 0=List.replicate n 0:=by simp [fill,asc]
theorem fill_full (n:Nat):fill n n=asc n:=by simp [fill]
theorem fill_length (n k:Nat) (h:k≤n):(fill n k).length=n:=by simp [fill,asc_length]; omega
theorem fill_step (n k:Nat) (h:k<n):(fill n k).set k (k:Int)=fill n (k+1):=by
 unfold fill;rw [List.set_append_right _ _ (by simp [asc_length])];obtain ⟨m,hm⟩:∃m,n - k=m+1:=⟨n - k - 1,by omega⟩;rw [hm,show n - (k+1)=m by omega];simp [List.replicate_succ,asc,List.range_succ]
def swp (l:List Int) (i k:Nat):List Int:=(l.set i (l.getD k 0)).set k (l.getD i 0)
theorem swp_length (l:List Int) (i k:Nat):(swp l i k).length=l.length:=by simp [swp]
theorem swp_mem (l:List Int) (i k:Nat) (hi:i<l.length) (hk:k<l.length) (x:Int) (h:x∈swp l i k):x∈l:=by
 unfold swp at h;rcases List.mem_or_eq_of_mem_set h with h | rfl
 ·rcases List.mem_or_eq_of_mem_set h with h | rfl
  ·exact h
  ·simp [List.getD_eq_getElem?_getD,hk]
 ·simp [List.getD_eq_getElem?_getD,hi]
def shuf (d:List Int):Nat→List Int→List Int
 | 0,l=>l
 | i+1,l=>shuf d i (swp l (i+1) (drawI d (i+1)))
theorem shuf_length (d:List Int) (i:Nat) (l:List Int):(shuf d i l).length=l.length:=by
 induction i generalizing l with
 | zero=>rfl
 | succ i ih=>unfold shuf; rw [ih,swp_length]
theorem shuf_mem (d:List Int) (i:Nat) (l:List Int) (hi:i<l.length) (x:Int) (h:x∈shuf d i l):x∈l:=by
 induction i generalizing l with
 | zero=>exact h
 | succ i ih=>
  unfold shuf at h;have:=drawI_le d (i+1);exact swp_mem l (i+1) _ hi (by omega) x (ih _ (by rw [swp_length]; omega) h)
theorem shuf_round (d l:List Int) (k j:Nat) (hk:0<k) (hj:drawI d k=j):shuf d k l=shuf d (k - 1) (swp l k j):=by
 obtain ⟨i,rfl⟩:∃i,k=i+1:=⟨k - 1,by omega⟩;subst hj;rfl
def okD:Nat→List Int→Bool
 | _,[]=>true
 | i,x :: t=>decide (0≤x∧x≤i) && okD (i+1) t
open Go.RowKit
def namedB (n:Int):Bool:=decide (-1≤n) && decide (n<8)
def rangesB (op:OpM):Bool:=namedB op.chan && decide (0≤op.dl) && decide (op.dl≤1099511627776) && op.cases.all fun c=>namedB c.chan
def shapeB (op:OpM):Bool:=
 if ((op.kind == 3 || op.kind == 5 || op.kind == 6) && op.mode != 0) || (op.dl != 0 && op.mode != 2) then false
 else if op.kind != 4 then decide (op.cases.length=0) && decide (op.draws.length=0) && (op.kind == 1 || op.val == 0)
 else if op.chan != 0 || op.val != 0 || decide (op.draws.length≠op.cases.length) then false
 else op.cases.all fun c=>c.send || c.val == 0
def kindB (op:OpM):Bool:=decide (1≤op.kind) && decide (op.kind≤6) && decide (0≤op.mode) && decide (op.mode≤2)
def checkE (op:OpM):Int:=
 if kindB op=false then 2 else if rangesB op=false then 2 else if 6<op.cases.length∨6<op.draws.length then 3
 else if okD 0 op.draws=false then 2 else if shapeB op=false then 5 else 0
structure OpM.ok (op:OpM):Prop where
 kind:op.kind=IntKind.i64.wrap op.kind
 mode:op.mode=IntKind.i64.wrap op.mode
 chan:op.chan=IntKind.i64.wrap op.chan
 val:op.val=IntKind.u64.wrap op.val
 dl:op.dl=IntKind.i64.wrap op.dl
structure OpM.good (op:OpM):Prop where
 check:checkE op=0
 ok:op.ok
 cases:op.cases.length≤6
 draws:op.draws.length≤6
 cok:∀c∈op.cases,c.ok
theorem i64_small (x:Int) (h0:-2000000000000≤x) (h1:x≤2000000000000):x=IntKind.i64.wrap x:=i64_ok x (by omega) (by omega)
theorem good_one (kd md ch vl dl:Int) (hk:1≤kd∧kd≤6) (h4:kd≠4) (hm:(md=0∧dl=0)∨((kd=1∨kd=2)∧((md=1∧dl=0)∨(md=2∧0≤dl∧dl<5)))) (hc:-1≤ch∧ch<8) (hv:vl=IntKind.u64.wrap vl) (hv2:kd=1∨vl=0) :
  OpM.good ⟨kd,md,ch,vl,dl,[],[]⟩:=by
 have hm2:0≤md∧md≤2:=by omega
 have hd2:0≤dl∧dl<5:=by omega
 refine ⟨?_,⟨i64_small _ (by simp only; omega) (by simp only; omega),i64_small _ (by simp only; omega) (by simp only; omega),i64_small _ (by simp only; omega) (by simp only; omega),hv,i64_small _ (by simp only; omega) (by simp only; omega)⟩,by simp,by simp,by simp⟩;have k1:kindB ⟨kd,md,ch,vl,dl,[],[]⟩=true:=by simp [kindB]; omega
 have k2:rangesB ⟨kd,md,ch,vl,dl,[],[]⟩=true:=by simp [rangesB,namedB]; omega
 have k3:shapeB ⟨kd,md,ch,vl,dl,[],[]⟩=true:=by
  unfold shapeB;have a1:(kd == 4)=false:=by simpa using h4
  have a2:(kd != 4)=true:=by simpa using h4
  have a3:(((kd == 3 || kd == 5 || kd == 6) && md != 0) || (dl != 0 && md != 2))=false:=by
   rcases hm with ⟨rfl,rfl⟩ | ⟨h,⟨rfl,rfl⟩ | ⟨rfl,_⟩⟩
   ·simp
   ·rcases h with rfl | rfl <;> decide
   ·rcases h with rfl | rfl <;> simp
  simp only [a3,a2,if_true,Bool.false_eq_true,if_false];rcases hv2 with rfl | rfl <;> simp
 simp [checkE,k1,k2,k3,okD]
def opZ:OpM:=⟨0,0,0,0,0,[],[]⟩
def watZ:WaitM:=⟨0,opZ⟩
def wat (l:List WaitM) (i:Nat):WaitM:=l.getD i watZ
def wtL (x:WaitM) (vc vd:Value):List Value:=[.int .i64 x.thr,.int .i64 x.op.kind,.int .i64 x.op.mode,.int .i64 x.op.chan,.int .u64 x.op.val,.int .i64 x.op.dl,vc,vd]
def SlW (w:World) (v:Value) (l:List WaitM):Prop:=
 ∃rows:List (List Value),rows.length=l.length∧SlS w 8 v rows∧∀i,i<l.length→∃vc vd,rows.getD i []=wtL (wat l i) vc vd∧SlC w vc (wat l i).op.cases∧SlI w .i64 vd (wat l i).op.draws
theorem SlW.below {w w':World} {v:Value} {l:List WaitM} (h:SlW w v l) (hb:Below w.heap.size w w'):SlW w' v l:=by
 obtain ⟨rows,h1,h2,h3⟩:=h;exact ⟨rows,h1,h2.below hb,fun i hi=>by
  obtain ⟨vc,vd,e,h4,h5⟩:=h3 i hi;exact ⟨vc,vd,e,h4.below hb,h5.below hb⟩⟩
theorem SlW.len {w:World} {v:Value} {l:List WaitM} (h:SlW w v l):∃a cap,v=.slice a l.length cap∧l.length≤cap:=by
 obtain ⟨rows,h1,h2,-⟩:=h;obtain ⟨a,cap,rfl,h3⟩:=h2.len;rw [h1] at h3 ⊢;exact ⟨a,cap,rfl,h3⟩
theorem SlW.bound {w:World} {v:Value} {l:List WaitM} (h:SlW w v l):l.length≤140737488351232:=by
 obtain ⟨rows,h1,h2,-⟩:=h;have:=h2.1;omega
theorem SlW.at {w:World} {v:Value} {l:List WaitM} (h:SlW w v l) (i:Nat) (hi:i<l.length):∃b off cap vc vd,v=.slice (some ⟨b,off,none⟩) l.length cap∧b<w.heap.size∧
  w.cell? ⟨b,off+i * 8,none⟩=some (.int .i64 (wat l i).thr)∧w.cell? ⟨b,off+i * 8+1,none⟩=some (.int .i64 (wat l i).op.kind)∧w.cell? ⟨b,off+i * 8+2,none⟩=some (.int .i64 (wat l i).op.mode)∧w.cell? ⟨b,off+i * 8+3,none⟩=some (.int .i64 (wat l i).op.chan)∧w.cell? ⟨b,off+i * 8+4,none⟩=some (.int .u64 (wat l i).op.val)∧w.cell? ⟨b,off+i * 8+5,none⟩=some (.int .i64 (wat l i).op.dl)∧w.cell? ⟨b,off+i * 8+6,none⟩=some vc∧w.cell? ⟨b,off+i * 8+7,none⟩=some vd∧
  SlC w vc (wat l i).op.cases∧SlI w .i64 vd (wat l i).op.draws:=by
 obtain ⟨rows,h1,h2,h3⟩:=h;obtain ⟨b,off,cap,rfl,hb,hr⟩:=h2.open (by omega);obtain ⟨vc,vd,e,h4,h5⟩:=h3 i hi;have h6:=hr i (by omega);rw [e] at h6;exact ⟨b,off,cap,vc,vd,by rw [h1],hb,h6 0 _ rfl,h6 1 _ rfl,h6 2 _ rfl,h6 3 _ rfl,h6 4 _ rfl,h6 5 _ rfl,h6 6 _ rfl,h6 7 _ rfl,h4,h5⟩
theorem rowc8 {w:World} {g:Nat} {T:TypeId} {v0 v1 v2 v3 v4 v5 v6 v7:Value} (h:w.heap[g]?=some (.cells #[v0,v1,v2,v3,v4,v5,v6,v7] T (0,0))):w.cell? ⟨g,0,none⟩=some v0∧w.cell? ⟨g,1,none⟩=some v1∧w.cell? ⟨g,2,none⟩=some v2∧w.cell? ⟨g,3,none⟩=some v3∧w.cell? ⟨g,4,none⟩=some v4∧w.cell? ⟨g,5,none⟩=some v5∧w.cell? ⟨g,6,none⟩=some v6∧w.cell? ⟨g,7,none⟩=some v7:=
 ⟨cell_of_row _ _ 0 _ _ _ h,cell_of_row _ _ 1 _ _ _ h,cell_of_row _ _ 2 _ _ _ h,cell_of_row _ _ 3 _ _ _ h,cell_of_row _ _ 4 _ _ _ h,cell_of_row _ _ 5 _ _ _ h,cell_of_row _ _ 6 _ _ _ h,cell_of_row _ _ 7 _ _ _ h⟩
structure OpM.fine (op:OpM):Prop where
 ok:op.chan=IntKind.i64.wrap op.chan∧op.val=IntKind.u64.wrap op.val
 cok:∀x∈op.cases,x.ok
 len:(casesE op).length≤100000
theorem OpM.good.fine {op:OpM} (h:op.good):op.fine:=⟨⟨h.ok.chan,h.ok.val⟩,h.cok,by
 unfold casesE;have:=h.cases;split
 ·omega
 ·split <;> simp⟩
theorem run_append_zero {w:World} {T ty e:TypeId} {i:TypeInfo} (ht:Try.prog.underlying T=some (.slice e)) (hi:Try.prog.info? e=some i) (A B:Option Addr) (n c c':Nat) (hn:n≤c) :
  (Builtin.append_ #[T,T] ty #[.slice A n c,.slice B 0 c']).run Try.prog w=.ok (.slice A n c) w:=by
 cases A <;> cases B <;> simp [Builtin.append_,run_underlying ht,sizeOf,typeInfo,hi,Builtin.lenOf,Builtin.firstCells,storeCells,loadCells,loadCellsFrom,Result.andThen,hn]
theorem SlI.one {w:World} {k:IntKind} {v:Value} {l:List Int} (h:SlI w k v l):v.oneCell'=true:=by
 obtain ⟨_,_,a,cap,rfl,_⟩:=h; rfl
theorem SlL.each {w:World} {v:Value} {us:List Value} {ll:List (List Int)} (h:SlL w v us ll):∀t,t<ll.length→SlI w .i64 (us.getD t (.slice none 0 0)) (ll.getD t []):=by
 obtain ⟨_,_,_,_,_,_,h5⟩:=h;intro t ht;obtain ⟨_,_,_,_,_,h⟩:=h5 t ht;exact h
end Go.Proofs.Ytiekicailidhcaa
