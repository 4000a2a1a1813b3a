import Derived.WalkKit
import Derived.WalkLawsBesides
import Derived.WalkSpells
import Derived.ProofKit
import Derived.Lib.Hide
import Derived.LoopTactic
import Derived.Test.YtfbdehcibgdagaaRows
import Derived.SizedLaws
import Derived.OpenShut
import Derived.RowKit
import Derived.Laws.AppendOwnNone
import Derived.Lib.AppendZeros
import Derived.Shelf.RegionOpenPlain
import Derived.Lib.SliceRun
import Derived.Deep.LoopGhost
import Derived.Deep.QuietTactic
import Derived.BigQuiet
import Derived.Deep.DeepCutAuto
import Derived.RegionTactic
import Derived.BigRegion
import Derived.Deep.Fields
import Derived.Deep.Slices
import Derived.Deep.CutBlock
set_option linter.unusedVariables false
set_option linter.unusedSimpArgs false
namespace Go.Proofs.Ytfbdehcibgdagaa
open Go.ChangeShapes Go.WideShapes Go.ChangeAt Go.RowKit
set_option maxRecDepth 100000
theorem ret_i64 {a b:Int} (h:a=b):Ending.returned (.int .i64 a)=.returned (.int .i64 b):=by rw [h]
theorem ret_bool {a b:Bool} (h:a=b):Ending.returned (.bool a)=.returned (.bool b):=by rw [h]
def SlI (w:World) (k:IntKind) (v:Value) (l:List Int):Prop:=
 l.length≤140737488351232∧(∀x∈l,x=k.wrap x)∧∃a cap,v=.slice a l.length cap∧l.length≤cap∧
  ∀t,t<l.length→∃b off,a=some ⟨b,off,none⟩∧b<w.heap.size∧w.cell? ⟨b,off+t,none⟩=some (.int k (l.getD t 0))
theorem SlI.below {w w':World} {k:IntKind} {v:Value} {l:List Int} (h:SlI w k v l) (hb:Below w.heap.size w w'):SlI w' k v l:=by
 obtain ⟨h1,h2,a,cap,h3,h4,h5⟩:=h;refine ⟨h1,h2,a,cap,h3,h4,fun t ht=>?_⟩;obtain ⟨b,off,e,hlt,hc⟩:=h5 t ht;exact ⟨b,off,e,Nat.lt_of_lt_of_le hlt hb.size,(hb.cell (p:=⟨b,off+t,none⟩) hlt).trans hc⟩
theorem SlI.drew {w:World} {k:IntKind} {v:Value} {l:List Int} (h:SlI w k v l) (n:Nat):SlI (w.drewN n) k v l:=h
theorem SlI.open {w:World} {k:IntKind} {v:Value} {l:List Int} (h:SlI w k v l) (hne:l≠[]) :
  ∃b off cap,v=.slice (some ⟨b,off,none⟩) l.length cap∧l.length≤cap∧b<w.heap.size∧∀t,t<l.length→w.cell? ⟨b,off+t,none⟩=some (.int k (l.getD t 0)):=by
 obtain ⟨_,_,a,cap,rfl,h4,h5⟩:=h;obtain ⟨b,off,rfl,hlt,_⟩:=h5 0 (List.length_pos_iff.2 hne);refine ⟨b,off,cap,rfl,h4,hlt,fun t ht=>?_⟩;obtain ⟨b',off',e,_,hc⟩:=h5 t ht;simp only [Option.some.injEq,Addr.mk.injEq] at e;obtain ⟨rfl,rfl,_⟩:=e;exact hc
theorem SlI.len {w:World} {k:IntKind} {v:Value} {l:List Int} (h:SlI w k v l):∃a cap,v=.slice a l.length cap∧l.length≤cap:=by
 obtain ⟨_,_,a,cap,rfl,h4,h5⟩:=h;exact ⟨a,cap,rfl,h4⟩
theorem SlI.nil (w:World) (k:IntKind):SlI w k (.slice none 0 0) []:=
 ⟨by simp,by simp,none,0,rfl,Nat.le_refl _,fun t ht=>by simp at ht⟩
def OwnI (w:World) (base:Nat) (e:TypeId) (k:IntKind) (v:Value) (l:List Int):Prop:=
 w.ownsRow base e 1 v l.length (l.map (.int k))
theorem OwnI.shape {w:World} {base:Nat} {e:TypeId} {k:IntKind} {v:Value} {l:List Int} (h:OwnI w base e k v l) :
  (v=.slice none 0 0∧l=[])∨∃g cap,v=.slice (some ⟨g,0,none⟩) l.length cap∧base≤g∧g<w.heap.size∧l.length≤cap∧l.length≤maxLen:=by
 rcases h.2 with ⟨rfl,h2⟩ | ⟨g,cap,cur,rfl,h3,h4,h5,h6,_,_⟩
 ·exact .inl ⟨rfl,List.length_eq_zero_iff.1 h2⟩
 ·refine .inr ⟨g,cap,rfl,h3,?_,h5,by omega⟩
  exact (Array.getElem?_eq_some_iff.1 h4).1
theorem OwnI.cell {w:World} {base:Nat} {e:TypeId} {k:IntKind} {g n cap:Nat} {l:List Int} (h:OwnI w base e k (.slice (some ⟨g,0,none⟩) n cap) l) (i:Nat) (hi:i<l.length) :
  w.cell? ⟨g,i,none⟩=some (.int k (l.getD i 0))∧w.frozen? ⟨g,i,none⟩=false:=by
 have hn:n=l.length:=by
  rcases h.2 with ⟨h1,h2⟩ | ⟨g,cap,cur,h1,_⟩
  ·simp at h1
  ·simp only [Value.slice.injEq] at h1; exact h1.2.1
 subst hn;refine ⟨?_,h.frozenAt i⟩;rw [World.ownsRow.cellAt h i (by omega)];simp [List.getD_eq_getElem?_getD,hi]
theorem OwnI.store {w:World} {base:Nat} {e:TypeId} {k:IntKind} {g n cap:Nat} {l:List Int} (h:OwnI w base e k (.slice (some ⟨g,0,none⟩) n cap) l) (i:Nat) (x:Int) (hn:n=l.length) :
  OwnI (w.setCell ⟨g,i,none⟩ (.int k x)) base e k (.slice (some ⟨g,0,none⟩) n cap) (l.set i x):=by
 subst hn;have:=(World.ownsRow.stored h i (.int k x)).1;unfold OwnI;rw [List.length_set,List.map_set];exact this
theorem OwnI.drew {w:World} {base:Nat} {e:TypeId} {k:IntKind} {v:Value} {l:List Int} (h:OwnI w base e k v l) (n:Nat):OwnI (w.drewN n) base e k v l:=h
theorem OwnI.read {w:World} {base:Nat} {e:TypeId} {k:IntKind} {v:Value} {l:List Int} (h:OwnI w base e k v l) (hl:l.length≤140737488351232) (hw:∀x∈l,x=k.wrap x):SlI w k v l:=by
 rcases h.shape with ⟨rfl,rfl⟩ | ⟨g,cap,rfl,h1,h2,h3,h4⟩
 ·exact SlI.nil w k
 ·refine ⟨hl,hw,some ⟨g,0,none⟩,cap,rfl,h3,fun t ht=>⟨g,0,rfl,h2,?_⟩⟩
  rw [Nat.zero_add]; exact (h.cell t ht).1
theorem OwnI.kept {w w':World} {base:Nat} {e:TypeId} {k:IntKind} {v:Value} {l:List Int} {row:Option Nat} (h:OwnI w base e k v l) (hg:w.grownBy w' row) (hne:v.ownBlock=none∨v.ownBlock≠row):OwnI w' base e k v l:=World.ownsRow.kept h hg hne
theorem OwnI.below {w w':World} {base:Nat} {e:TypeId} {k:IntKind} {v:Value} {l:List Int} (h:OwnI w base e k v l) (hb:Below w.heap.size w w'):OwnI w' base e k v l:=by
 refine h.kept (row:=none) ⟨hb.os,hb.tape,hb.output,hb.size,fun j hj _=>hb.block j hj⟩ ?_;cases hv:v.ownBlock with
 | none=>exact .inl rfl
 | some x=>exact .inr (by simp)
theorem OwnI.alloc {w:World} {base:Nat} {e:TypeId} {k:IntKind} {v:Value} {l:List Int} (h:OwnI w base e k v l) (o:Obj):OwnI (w.alloc o) base e k v l:=World.ownsRow.alloc h o
theorem OwnI.ne {w:World} {base:Nat} {e:TypeId} {k:IntKind} {v:Value} {l:List Int} (h:OwnI w base e k v l) {g:Nat} (hg:g<base):v.ownBlock=none∨v.ownBlock≠some g:=by
 rcases h.shape with ⟨rfl,_⟩ | ⟨g',cap,rfl,h1,_⟩
 ·exact .inl rfl
 ·refine .inr ?_
  simp only [Value.ownBlock,ne_eq,Option.some.injEq];omega
theorem OwnI.nil (w:World) (base:Nat) (e:TypeId) (k:IntKind):OwnI w base e k (.slice none 0 0) []:=World.ownsRow_nil w base e 1
theorem grownBy_trans {a b c:World} {row:Option Nat} (h:a.grownBy b row) (h2:b.grownBy c row):a.grownBy c row:=
 ⟨h2.os.trans h.os,h2.tape.trans h.tape,h2.output.trans h.output,Nat.le_trans h.size h2.size,fun k hk hr=>(h2.block k (Nat.lt_of_lt_of_le hk h.size) hr).trans (h.block k hk hr)⟩
theorem grownBy_refl (a:World) (row:Option Nat):a.grownBy a row:=⟨rfl,rfl,rfl,Nat.le_refl _,fun _ _ _=>rfl⟩
theorem grownBy_of_new {a b c:World} {row r2:Option Nat} (h:a.grownBy b row) (h2:b.grownBy c r2) (hr2:∀k,r2=some k→a.heap.size≤k):a.grownBy c row:=
 ⟨h2.os.trans h.os,h2.tape.trans h.tape,h2.output.trans h.output,Nat.le_trans h.size h2.size,fun k hk hr=>(h2.block k (Nat.lt_of_lt_of_le hk h.size) (fun e=>by have:=hr2 k e.symm; omega)).trans (h.block k hk hr)⟩
theorem grownBy_setCell (w:World) (a:Addr) (u:Value):w.grownBy (w.setCell a u) (some a.block):=
 ⟨rfl,rfl,rfl,by simp,fun k _ hk=>heap_setCell_other w a k u (fun e=>hk (by rw [e]))⟩
theorem OwnI.own_ge {w:World} {base:Nat} {e:TypeId} {k:IntKind} {v:Value} {l:List Int} (h:OwnI w base e k v l):∀j,v.ownBlock=some j→base≤j:=fun j hj=>(World.ownsRow.lt h j hj).1
def OwnB (w:World) (base:Nat) (e:TypeId) (v:Value) (l:List Bool):Prop:=w.ownsRow base e 1 v l.length (l.map Value.bool)
theorem OwnB.cell {w:World} {base:Nat} {e:TypeId} {g n cap:Nat} {l:List Bool} (h:OwnB w base e (.slice (some ⟨g,0,none⟩) n cap) l) (i:Nat) (hi:i<l.length) :
  w.cell? ⟨g,i,none⟩=some (.bool (l.getD i false))∧w.frozen? ⟨g,i,none⟩=false:=by
 have hn:n=l.length:=by
  rcases h.2 with ⟨h1,h2⟩ | ⟨g,cap,cur,h1,_⟩
  ·simp at h1
  ·simp only [Value.slice.injEq] at h1; exact h1.2.1
 subst hn;refine ⟨?_,h.frozenAt i⟩;rw [World.ownsRow.cellAt h i (by omega)];simp [List.getD_eq_getElem?_getD,hi]
theorem OwnB.store {w:World} {base:Nat} {e:TypeId} {g n cap:Nat} {l:List Bool} (h:OwnB w base e (.slice (some ⟨g,0,none⟩) n cap) l) (i:Nat) (x:Bool) (hn:n=l.length) :
  OwnB (w.setCell ⟨g,i,none⟩ (.bool x)) base e (.slice (some ⟨g,0,none⟩) n cap) (l.set i x):=by
 subst hn;have:=(World.ownsRow.stored h i (.bool x)).1;unfold OwnB;rw [List.length_set,List.map_set];exact this
theorem below_then {w a b:World} (h:Below w.heap.size w a) (hb:Below a.heap.size a b):Below w.heap.size w b:=h.trans (hb.mono h.size)
theorem below_new {w a:World} (h:Below w.heap.size w a) (o:Obj):Below w.heap.size w (a.alloc o):=h.alloc h.size o
theorem below_grown {w a b:World} {g:Nat} (h:Below w.heap.size w a) (hb:a.grownBy b (some g)) (hg:w.heap.size≤g):Below w.heap.size w b:=h.grown hb h.size fun k hk=>by cases hk; exact hg
theorem SlI.lit (w:World) (k:IntKind) (e:TypeId) (l:List Int) (hw:∀x∈l,x=k.wrap x) (hl:l.length≤140737488351232) :
  SlI (w.alloc (.cells (l.map (Value.int k)).toArray e)) k (.slice (some ⟨w.heap.size,0,none⟩) l.length l.length) l:=by
 refine ⟨hl,hw,_,_,rfl,Nat.le_refl _,fun t ht=>⟨_,0,rfl,by simp,?_⟩⟩;rw [World.cell?_alloc_at _ _ _ _ rfl,Nat.zero_add];simp [List.getD_eq_getElem?_getD,ht]
def offB (g:Nat) (v:Value):Prop:=∀a n c,v=.slice (some a) n c→n=0∨a.block≠g
theorem offB.nil (g:Nat):offB g (.slice none 0 0):=fun a n c h=>by simp at h
theorem OwnI.off {w:World} {base:Nat} {e:TypeId} {k:IntKind} {v:Value} {l:List Int} (h:OwnI w base e k v l) {g:Nat} (hg:g<base):offB g v:=by
 intro a n c e;subst e;have:=h.own_ge a.block rfl;exact .inr (by omega)
theorem SlI.grown {w w':World} {k:IntKind} {v:Value} {l:List Int} {g:Nat} (h:SlI w k v l) (hg:w.grownBy w' (some g)) (ho:offB g v):SlI w' k v l:=by
 obtain ⟨h1,h2,a,cap,rfl,h4,h5⟩:=h;refine ⟨h1,h2,a,cap,rfl,h4,fun t ht=>?_⟩;obtain ⟨b,off,rfl,hlt,hc⟩:=h5 t ht;have hb:b≠g:=(ho _ _ _ rfl).resolve_left (by omega);exact ⟨b,off,rfl,Nat.lt_of_lt_of_le hlt hg.size,(World.cell?_of_block (a:=⟨b,off+t,none⟩) (hg.block b hlt (by simpa using hb))).trans hc⟩
theorem OwnI.mono_base {w:World} {base b':Nat} {e:TypeId} {k:IntKind} {v:Value} {l:List Int} (h:OwnI w base e k v l) (hb:b'≤base):OwnI w b' e k v l:=by
 refine ⟨h.1,?_⟩;rcases h.2 with h1 | ⟨g,cap,cur,h1,h2,h3⟩
 ·exact .inl h1
 ·exact .inr ⟨g,cap,cur,h1,Nat.le_trans hb h2,h3⟩
theorem ltR {w:World} {b:Nat} {o:Obj} (h:Hid (w.heap[b]?=some o)):b<w.heap.size:=(Array.getElem?_eq_some_iff.1 h.out).1
theorem own:ownKnob Try.prog.godebug=none:=by kernel_rfl
theorem Try.laidOut:laidOutB Try.prog=true:=by kernel_rfl
theorem wrap_of_wf {k:IntKind} {n:Int} (h:(Lit.int k n).wf=true):n=k.wrap n:=by
 cases k <;> simp [Lit.wf,IntKind.min,IntKind.max,IntKind.signed,IntKind.bits] at h <;> simp [IntKind.wrap,IntKind.bits,IntKind.signed] <;> omega
set_option maxRecDepth 100000 in
theorem view_sl {H:Type} {enc:TypeId × Value→H} {W:World} {t e:TypeId} {k:IntKind} {v:Value} {d:DataW H} {p:List MemPlace} (ht:Try.prog.underlying t=some (.slice e)) (he:Try.prog.underlying e=some (.int k)) (hc:Try.prog.cellsOf e=1)
  (hsz:∀elems sp,d=.slice elems sp→(elems.length+sp.length) * Try.prog.bytesOf e≤reachBytes) (hby:1≤Try.prog.bytesOf e)
  (hval:Value.okWide Try.prog W .any 0 t v) (hd:DataW.Trod enc Try.prog W 0 (fun _=>true) true t v d p):∃l,SlI W k v l:=by
 obtain ⟨a0,len,cap,rfl⟩:=okWide_slice ht hval;obtain ⟨fuel,hf⟩:=hd;rcases open_ints ht he hc hf with ⟨hcs,hx⟩ | ⟨a,len',cap',zs,hcs,_,hl,hm,hz,hx,hcell,hwz⟩
 ·simp [Value.cells] at hcs
  obtain ⟨rfl,rfl,rfl⟩:=hcs;exact ⟨[],SlI.nil _ _⟩
 ·simp [Value.cells] at hcs
  obtain ⟨rfl,rfl,rfl⟩:=hcs;simp only [Prod.mk.injEq] at hx;obtain ⟨rfl,rfl⟩:=hx;simp only [if_true] at hz;have hle:len≤140737488351232:=by
   have h1:=hsz _ _ rfl;simp only [lits,List.length_map,List.length_take,List.length_drop,reachBytes] at h1;have h2:(min len zs.length+(zs.length - len)) * 1≤(min len zs.length+(zs.length - len)) * Try.prog.bytesOf e:=Nat.mul_le_mul_left _ hby;omega
  have hlen:(zs.take len).length=len:=by simp; omega
  refine ⟨zs.take len,by omega,fun x hx=>wrap_of_wf (hwz x (List.mem_of_mem_take hx)),some a,cap,by rw [hlen],by omega,fun i hi=>?_⟩;have hi':i<len:=by omega
  have hc:=hcell i (by omega);have h0:=hcell 0 (by omega);obtain ⟨b,off,sp⟩:=a;have hsp:sp=none:=by simpa [Addr.add] using World.cell?_spot h0
  subst hsp;rw [add_plain] at hc;refine ⟨b,off,rfl,by simpa using World.block_lt_of_cell? W _ hc,?_⟩;rw [hc];simp [List.getD_eq_getElem?_getD,hi']
structure CaseM where
 send:Bool
 chan:Int
 val:Int
structure OpM where
 kind:Int
 mode:Int
 chan:Int
 val:Int
 dl:Int
 cases:List CaseM
 draws:List Int
def CaseM.ok (c:CaseM):Prop:=c.chan=IntKind.i64.wrap c.chan∧c.val=IntKind.u64.wrap c.val
def noCase:CaseM:=⟨false,0,0⟩
def CaseAt (w:World) (b o:Nat) (c:CaseM):Prop:=
 w.cell? ⟨b,o,none⟩=some (.bool c.send)∧w.cell? ⟨b,o+1,none⟩=some (.int .i64 c.chan)∧w.cell? ⟨b,o+2,none⟩=some (.int .u64 c.val)
def SlC (w:World) (v:Value) (l:List CaseM):Prop:=
 l.length≤140737488351232∧(∀x∈l,x.ok)∧∃a cap,v=.slice a l.length cap∧l.length≤cap∧
  ∀t,t<l.length→∃b off,a=some ⟨b,off,none⟩∧b<w.heap.size∧CaseAt w b (off+t * 3) (l.getD t noCase)
theorem CaseAt.below {w w':World} {b o B:Nat} {c:CaseM} (h:CaseAt w b o c) (hb:b<B) (hw:Below B w w'):CaseAt w' b o c:=
 ⟨(hw.cell (p:=⟨b,o,none⟩) hb).trans h.1,(hw.cell (p:=⟨b,o+1,none⟩) hb).trans h.2.1,(hw.cell (p:=⟨b,o+2,none⟩) hb).trans h.2.2⟩
theorem SlC.below {w w':World} {v:Value} {l:List CaseM} (h:SlC w v l) (hb:Below w.heap.size w w'):SlC w' v l:=by
 obtain ⟨h1,h2,a,cap,h3,h4,h5⟩:=h;refine ⟨h1,h2,a,cap,h3,h4,fun t ht=>?_⟩;obtain ⟨b,off,e,hlt,hc⟩:=h5 t ht;exact ⟨b,off,e,Nat.lt_of_lt_of_le hlt hb.size,hc.below hlt hb⟩
theorem SlC.drew {w:World} {v:Value} {l:List CaseM} (h:SlC w v l) (n:Nat):SlC (w.drewN n) v l:=h
theorem SlC.len {w:World} {v:Value} {l:List CaseM} (h:SlC w v l):∃a cap,v=.slice a l.length cap:=by
 obtain ⟨_,_,a,cap,rfl,_⟩:=h;exact ⟨a,cap,rfl⟩
theorem SlC.nil (w:World):SlC w (.slice none 0 0) []:=
 ⟨by simp,by simp,none,0,rfl,Nat.le_refl _,fun t ht=>by simp at ht⟩
def OpV (w:World) (v:Value) (op:OpM):Prop:=
 ∃vc vd,v=.agg #[.int .i64 op.kind,.int .i64 op.mode,.int .i64 op.chan,.int .u64 op.val,.int .i64 op.dl,vc,vd]∧SlC w vc op.cases∧SlI w .i64 vd op.draws
theorem OpV.below {w w':World} {v:Value} {op:OpM} (h:OpV w v op) (hb:Below w.heap.size w w'):OpV w' v op:=by
 obtain ⟨vc,vd,e,h1,h2⟩:=h;exact ⟨vc,vd,e,h1.below hb,h2.below hb⟩
theorem OpV.drew {w:World} {v:Value} {op:OpM} (h:OpV w v op) (n:Nat):OpV (w.drewN n) v op:=h
structure ConfM where
 caps:List Int
 starts:List Int
 threads:Int
def ConfV (w:World) (v:Value) (c:ConfM):Prop:=
 ∃vc vs,v=.agg #[vc,vs,.int .i64 c.threads]∧SlI w .i64 vc c.caps∧SlI w .u64 vs c.starts
theorem ConfV.below {w w':World} {v:Value} {c:ConfM} (h:ConfV w v c) (hb:Below w.heap.size w w'):ConfV w' v c:=by
 obtain ⟨vc,vd,e,h1,h2⟩:=h;exact ⟨vc,vd,e,h1.below hb,h2.below hb⟩
theorem ConfV.drew {w:World} {v:Value} {c:ConfM} (h:ConfV w v c) (n:Nat):ConfV (w.drewN n) v c:=h
open Go.RowKit
theorem tmod_bd (x:Int) (i:Nat):- ((i:Int)+1)<x.tmod (i+1)∧x.tmod (i+1)<i+1:=by
 constructor
 ·rcases Int.le_total 0 x with h | h
  ·have:=Int.tmod_nonneg (i+1:Int) h; omega
  ·have:=Int.tmod_nonneg (i+1:Int) (show 0≤-x by omega)
   have h2:=Int.tmod_lt_of_pos (-x) (show (0:Int)<i+1 by omega);rw [Int.neg_tmod] at h2; omega
 ·exact Int.tmod_lt_of_pos x (by omega)
theorem tmod_mod (x:Int) (i:Nat):x % (i+1)=if x.tmod (i+1)<0 then x.tmod (i+1)+(i+1) else x.tmod (i+1):=by
 have hb:=tmod_bd x i;have h:=Int.tmod_add_mul_tdiv x (i+1);have h3:x % (i+1)=(x.tmod (i+1)) % (i+1):=by
  conv=>lhs; rw [← h]
  rw [Int.add_mul_emod_self_left]
 rw [h3];split
 ·rw [← Int.add_emod_right,Int.emod_eq_of_lt (by omega) (by omega)]
 ·exact Int.emod_eq_of_lt (by omega) (by omega)
theorem ext_same (l m:List Int) (hl:l.length=m.length) (h:∀j,j<l.length→l.getD j 0=m.getD j 0):l=m:=by
 apply List.ext_getElem hl;intro i h1 h2;simpa [List.getD_eq_getElem?_getD,h1,h2] using h i h1
def okD:Nat→List Int→Bool
 | _,[]=>true
 | i,x :: t=>decide (0≤x∧x≤i) && okD (i+1) t
open Go.RowKit
def namedB (n:Int):Bool:=decide (-1≤n) && decide (n<8)
def rangesB (op:OpM):Bool:=namedB op.chan && decide (0≤op.dl) && decide (op.dl≤1099511627776) && op.cases.all fun c=>namedB c.chan
def shapeB (op:OpM):Bool:=
 if ((op.kind == 3 || op.kind == 5 || op.kind == 6) && op.mode != 0) || (op.dl != 0 && op.mode != 2) then false
 else if op.kind != 4 then decide (op.cases.length=0) && decide (op.draws.length=0) && (op.kind == 1 || op.val == 0)
 else if op.chan != 0 || op.val != 0 || decide (op.draws.length≠op.cases.length) then false
 else op.cases.all fun c=>c.send || c.val == 0
def kindB (op:OpM):Bool:=decide (1≤op.kind) && decide (op.kind≤6) && decide (0≤op.mode) && decide (op.mode≤2)
def checkE (op:OpM):Int:=
 if kindB op=false then 2 else if rangesB op=false then 2 else if 6<op.cases.length∨6<op.draws.length then 3
 else if okD 0 op.draws=false then 2 else if shapeB op=false then 5 else 0
structure OpM.ok (op:OpM):Prop where
 kind:op.kind=IntKind.i64.wrap op.kind
 mode:op.mode=IntKind.i64.wrap op.mode
 chan:op.chan=IntKind.i64.wrap op.chan
 val:op.val=IntKind.u64.wrap op.val
 dl:op.dl=IntKind.i64.wrap op.dl
structure OpM.good (op:OpM):Prop where
 check:checkE op=0
 ok:op.ok
 cases:op.cases.length≤6
 draws:op.draws.length≤6
 cok:∀c∈op.cases,c.ok
theorem rowc5 {w:World} {g:Nat} {T:TypeId} {v0 v1 v2 v3 v4:Value} (h:w.heap[g]?=some (.cells #[v0,v1,v2,v3,v4] T (0,0))) :
  w.cell? ⟨g,0,none⟩=some v0∧w.cell? ⟨g,1,none⟩=some v1∧w.cell? ⟨g,2,none⟩=some v2∧w.cell? ⟨g,3,none⟩=some v3∧w.cell? ⟨g,4,none⟩=some v4:=
 ⟨cell_of_row _ _ 0 _ _ _ h,cell_of_row _ _ 1 _ _ _ h,cell_of_row _ _ 2 _ _ _ h,cell_of_row _ _ 3 _ _ _ h,cell_of_row _ _ 4 _ _ _ h⟩
theorem row_below {B g:Nat} {a w:World} (h:Below B a w) (hB:B≤g) (cs:Array Value):Below B a (w.setRow g cs):=
 ⟨h.os,h.tape,h.output,by simpa [World.setRow] using h.size,fun k hk=>(setRow_other w g k cs (by omega)).trans (h.block k hk)⟩
theorem grown_below {a b:World} {row:Option Nat} (h:Below a.heap.size a b):a.grownBy b row:=⟨h.os,h.tape,h.output,h.size,fun j hj _=>h.block j hj⟩
structure MemM where
 words:List Int
 lists:List (List Int)
 tick:Int
structure AccM where
 kind:Int
 addr:Int
 old:Int
 new:Int
 til:Int
structure AnsM where
 val:Int
 ok:Bool
 late:Bool
 list:List Int
def ansZ:AnsM:=⟨0,false,false,[]⟩
def hasB (n:Nat) (a:Int):Bool:=decide (0≤a) && decide (a<n)
def comeB (t til:Int):Bool:=decide (0<til) && decide (til - 1≤t)
def grantB (m:MemM) (a:AccM):Bool:=
 if a.kind=4 then !hasB m.words.length a.addr || m.words.getD a.addr.toNat 0 != a.old || comeB m.tick a.til
 else decide (1≤a.kind) && decide (a.kind≤9)
def nextL (k x:Int) (l:List Int):List Int:=if k=8 then (if l.length<1000 then l ++ [x] else l) else l.erase x
def listE (m:MemM) (a:AccM):MemM × AnsM:=
 if hasB m.lists.length a.addr=false then (m,ansZ) else
 if a.kind=7 then (m,⟨0,false,false,m.lists.getD a.addr.toNat []⟩) else
 (⟨m.words,m.lists.set a.addr.toNat (nextL a.kind (IntKind.i64.wrap a.new) (m.lists.getD a.addr.toNat [])),m.tick⟩,⟨(nextL a.kind (IntKind.i64.wrap a.new) (m.lists.getD a.addr.toNat [])).length,false,false,[]⟩)
def wordE (m:MemM) (a:AccM):MemM × AnsM:=
 if hasB m.words.length a.addr=false then (m,ansZ) else
 if a.kind=2∨a.kind=6 then (⟨m.words.set a.addr.toNat a.new,m.lists,m.tick⟩,ansZ) else
 if a.kind=3 then (if m.words.getD a.addr.toNat 0=a.old then (⟨m.words.set a.addr.toNat a.new,m.lists,m.tick⟩,⟨m.words.getD a.addr.toNat 0,true,false,[]⟩) else (m,⟨m.words.getD a.addr.toNat 0,false,false,[]⟩)) else
 if a.kind=4 then (m,⟨m.words.getD a.addr.toNat 0,false,m.words.getD a.addr.toNat 0 == a.old,[]⟩)
 else (m,⟨m.words.getD a.addr.toNat 0,false,false,[]⟩)
def applyE (m:MemM) (a:AccM):MemM × AnsM × Bool:=
 if grantB m a=false then (m,ansZ,false) else
 if 7≤a.kind then ((listE m a).1,(listE m a).2,true) else ((wordE m a).1,(wordE m a).2,true)
structure AccM.ok (a:AccM):Prop where
 kind:a.kind=IntKind.i64.wrap a.kind
 addr:a.addr=IntKind.i64.wrap a.addr
 old:a.old=IntKind.u64.wrap a.old
 new:a.new=IntKind.u64.wrap a.new
 til:a.til=IntKind.i64.wrap a.til
theorem getD_setL {α:Type} (l:List α) (i t:Nat) (x d:α):(l.set i x).getD t d=if i=t∧t<l.length then x else l.getD t d:=by
 simp only [List.getD_eq_getElem?_getD,List.getElem?_set];by_cases h:i=t
 ·subst h
  by_cases h2:i<l.length
  ·simp [h2]
  ·simp [h2]
 ·simp [h]
def SlL (w:World) (v:Value) (us:List Value) (ll:List (List Int)):Prop:=
 ll.length≤140737488351232∧us.length=ll.length∧∃a cap,v=.slice a ll.length cap∧ll.length≤cap∧
  ∀t,t<ll.length→∃b off,a=some ⟨b,off,none⟩∧b<w.heap.size∧w.cell? ⟨b,off+t,none⟩=some (us.getD t (.slice none 0 0))∧SlI w .i64 (us.getD t (.slice none 0 0)) (ll.getD t [])
theorem SlL.below {w w':World} {v:Value} {us:List Value} {ll:List (List Int)} (h:SlL w v us ll) (hb:Below w.heap.size w w'):SlL w' v us ll:=by
 obtain ⟨h1,h2,a,cap,h3,h4,h5⟩:=h;refine ⟨h1,h2,a,cap,h3,h4,fun t ht=>?_⟩;obtain ⟨b,off,e,hlt,hc,hu⟩:=h5 t ht;exact ⟨b,off,e,Nat.lt_of_lt_of_le hlt hb.size,(hb.cell (p:=⟨b,off+t,none⟩) hlt).trans hc,hu.below hb⟩
theorem SlL.drew {w:World} {v:Value} {us:List Value} {ll:List (List Int)} (h:SlL w v us ll) (n:Nat):SlL (w.drewN n) v us ll:=h
theorem SlL.len {w:World} {v:Value} {us:List Value} {ll:List (List Int)} (h:SlL w v us ll):∃a cap,v=.slice a ll.length cap∧ll.length≤cap:=by
 obtain ⟨_,_,a,cap,rfl,h4,_⟩:=h;exact ⟨a,cap,rfl,h4⟩
theorem SlL.nil (w:World):SlL w (.slice none 0 0) [] []:=⟨by simp,rfl,none,0,rfl,Nat.le_refl _,fun t ht=>by simp at ht⟩
theorem SlL.open {w:World} {v:Value} {us:List Value} {ll:List (List Int)} (h:SlL w v us ll) (hne:ll≠[]) :
  ∃b off cap,v=.slice (some ⟨b,off,none⟩) ll.length cap∧ll.length≤cap∧b<w.heap.size∧(∀t,t<ll.length→w.cell? ⟨b,off+t,none⟩=some (us.getD t (.slice none 0 0)))∧∀t,t<ll.length→SlI w .i64 (us.getD t (.slice none 0 0)) (ll.getD t []):=by
 obtain ⟨_,_,a,cap,rfl,h4,h5⟩:=h;obtain ⟨b,off,rfl,hlt,_⟩:=h5 0 (List.length_pos_iff.2 hne);refine ⟨b,off,cap,rfl,h4,hlt,fun t ht=>?_,fun t ht=>?_⟩
 ·obtain ⟨b',off',e,_,hc,hu⟩:=h5 t ht
  simp only [Option.some.injEq,Addr.mk.injEq] at e;obtain ⟨rfl,rfl,_⟩:=e;exact hc
 ·obtain ⟨b',off',e,_,hc,hu⟩:=h5 t ht
  exact hu
def MemV (w:World) (v:Value) (m:MemM):Prop:=
 ∃vw vl us,v=.agg #[vw,vl,.int .i64 m.tick]∧SlI w .u64 vw m.words∧SlL w vl us m.lists
theorem MemV.below {w w':World} {v:Value} {m:MemM} (h:MemV w v m) (hb:Below w.heap.size w w'):MemV w' v m:=by
 obtain ⟨vw,vl,us,e,h1,h2⟩:=h; exact ⟨vw,vl,us,e,h1.below hb,h2.below hb⟩
structure NewPart (w w' w2:World):Prop where
 size:w'.heap.size≤w2.heap.size
 same:∀j,w.heap.size≤j→j<w'.heap.size→w2.heap[j]?=w'.heap[j]?
def Wide (G:World→Prop):Prop:=∀w1 w2,G w1→Below w1.heap.size w1 w2→G w2
def Nx (G:World→Prop) (w w':World):World→Prop:=fun w2=>G w2∧NewPart w w' w2
theorem Nx.at {G:World→Prop} {w w':World} (hG:G w) (h:Wide G) (hb:Below w.heap.size w w'):Nx G w w' w':=
 ⟨h _ _ hG hb,⟨Nat.le_refl _,fun _ _ _=>rfl⟩⟩
def StM (G:World→Prop) (v:Value) (m:MemM):Prop:=
 ∃vw vl us,v=.agg #[vw,vl,.int .i64 m.tick]∧∀w,G w→SlI w .u64 vw m.words∧SlL w vl us m.lists
theorem StM.at {G:World→Prop} {v:Value} {m:MemM} {w:World} (h:StM G v m) (hG:G w):MemV w v m:=by
 obtain ⟨vw,vl,us,e,h1⟩:=h; exact ⟨vw,vl,us,e,h1 w hG⟩
def StI (G:World→Prop) (k:IntKind) (v:Value) (l:List Int):Prop:=∀w,G w→SlI w k v l
def StA (G:World→Prop) (v:Value) (b:AnsM):Prop:=
 ∃vl,v=.agg #[.int .u64 b.val,.bool b.ok,.bool b.late,vl]∧∀w,G w→SlI w .i64 vl b.list
def Over (w0:World):World→Prop:=fun w=>Below w0.heap.size w0 w
theorem MemV.over {w:World} {v:Value} {m:MemM} (h:MemV w v m):StM (Over w) v m:=by
 obtain ⟨vw,vl,us,e,h1,h2⟩:=h; exact ⟨vw,vl,us,e,fun w2 hb=>⟨h1.below hb,h2.below hb⟩⟩
theorem toList_madeCells_one' (z:Value) (n:Nat):(madeCells #[z] n).toList=List.replicate n z:=toList_madeCells_one z n
theorem Try.info_i64:(Try.prog.info? 3).map (fun i=>(i.zero,i.size,i.bytes))=some (some (.int .i64 0),1,8):=by kernel_rfl
theorem wp_make_i64 (w:World) {ops:Array Oper} {rest:List Oper} {o:Oper} {a:Act} {Q:Exit→Act→World→Prop}
  (hg:o.guard=none) (l c:Operand) (hop:o.op=Op.makeSlice 36 l c) (n:Nat) (L C:Int) (hl:a.eval l=.int .i64 L) (hc:a.eval c=.int .i64 C) (hL:L=n) (hC:C=n) (hn:n≤1000000)
  (hK:∀w',OwnI w' w.heap.size 3 .i64 (.slice (some ⟨w.heap.size,0,none⟩) n n) (List.replicate n 0)→Below w.heap.size w w'→wpList Try.prog ops Q rest (a.put o.dst (.slice (some ⟨w.heap.size,0,none⟩) n n)) w') :
  wpList Try.prog ops Q (o :: rest) a w:=by
 obtain ⟨i0,hi,hz0,hz1,hz2⟩:=info_parts Try.info_i64;refine wpList_make_full w hg l c _ hop w.heap.size 3 i0 (.int .i64 0) 1 Try.underlying36 hi hz0 hz1 _ _ _ _ n hl hc hL hC (by rw [hz2]; omega) (by unfold maxLen; omega) (Nat.le_refl _) fun w' h1 h2=>?_;refine hK w' ?_ ((Below.refl _ _).grown h2 (Nat.le_refl _) (fun k hk=>by cases hk));unfold OwnI;rw [show (Value.int .i64 0).cells=#[.int .i64 0] from rfl,toList_madeCells_one'] at h1;simpa using h1
theorem wp_append_i64 (w:World) {ops:Array Oper} {rest:List Oper} {o:Oper} {a:Act} {Q:Exit→Act→World→Prop}
  (hg:o.guard=none) (s x:Operand) (hop:o.op=Op.call { callee:=Callee.builtin Builtin.append,args:=#[s,x],argTypes:=#[36,36] })
  (base:Nat) (v:Value) (l:List Int) (hs:a.eval s=v) (hown:OwnI w base 3 .i64 v l) (y:Int) (g:Nat)
  (hx:a.eval x=.slice (some ⟨g,0,none⟩) 1 1) (hcell:w.cell? ⟨g,0,none⟩=some (.int .i64 y)) (hl:l.length≤1000000) (hb:base≤w.heap.size)
  (hK:∀v' w',OwnI w' base 3 .i64 v' (l ++ [y])→w.grownBy w' v.ownBlock→wpList Try.prog ops Q rest (a.put o.dst v') w') :
  wpList Try.prog ops Q (o :: rest) a w:=by
 obtain ⟨i0,hi,hz0,hz1,hz2⟩:=info_parts Try.info_i64;refine wpList_append_own w hg s x _ hop base _ i0 (.int .i64 0) 1 _ (by kernel_rfl) hi hz0 hz1 rfl rfl (by decide) v l.length _ hs hown ⟨g,0,none⟩ 1 1 [.int .i64 y] hx rfl ?_ ?_ (by unfold maxLen; omega) (by rw [hz2]; omega) hb fun v' w' h1 h2 h3=>hK v' w' ?_ h2
 ·intro j u hj
  match j,hj with
  | 0,hj=>simp at hj; subst hj; simpa [Addr.add] using hcell
 ·intro u hu; simp at hu; subst hu; rfl
 ·unfold OwnI
  rw [List.length_append,List.map_append];exact h1
theorem wp_copy_i64 (w:World) {ops:Array Oper} {rest:List Oper} {o:Oper} {a:Act} {Q:Exit→Act→World→Prop}
  (hg:o.guard=none) (s x:Operand) (hop:o.op=Op.call { callee:=Callee.builtin Builtin.append,args:=#[s,x],argTypes:=#[36,36] })
  (xv:Value) (l:List Int) (hs:a.eval s=.slice none 0 0) (hx:a.eval x=xv) (hS:SlI w .i64 xv l) (hne:l≠[]) (hl:l.length≤1000000)
  (hK:∀g cap w',OwnI w' w.heap.size 3 .i64 (.slice (some ⟨g,0,none⟩) l.length cap) l→Below w.heap.size w w'→w.heap.size≤g→wpList Try.prog ops Q rest (a.put o.dst (.slice (some ⟨g,0,none⟩) l.length cap)) w') :
  wpList Try.prog ops Q (o :: rest) a w:=by
 obtain ⟨i0,hi,hz0,hz1,hz2⟩:=info_parts Try.info_i64;obtain ⟨b,off,cap,rfl,hcap,hb,hc⟩:=hS.open hne;refine wpList_append_own w hg s x _ hop w.heap.size _ i0 (.int .i64 0) 1 _ (by kernel_rfl) hi hz0 hz1 rfl rfl (by decide) (.slice none 0 0) 0 [] hs (World.ownsRow_nil _ _ _ _) ⟨b,off,none⟩ l.length cap (l.map (Value.int .i64)) hx (by simp) ?_ ?_ (by unfold maxLen; omega) (by rw [hz2]; omega) (Nat.le_refl _) fun v' w' h1 h2 _=>?_
 ·intro j u hj
  rw [add_plain];simp only [List.getElem?_map,Option.map_eq_some_iff] at hj;obtain ⟨y,hy,rfl⟩:=hj;have hjl:j<l.length:=(List.getElem?_eq_some_iff.1 hy).1;rw [hc j hjl,List.getD_eq_getElem?_getD,hy]; rfl
 ·intro u hu; simp only [List.mem_map] at hu; obtain ⟨y,_,rfl⟩:=hu; rfl
 ·have ho:OwnI w' w.heap.size 3 .i64 v' l:=by unfold OwnI; simpa using h1
  rcases ho.shape with ⟨_,h⟩ | ⟨g,cap',rfl,hg1,_⟩
  ·exact absurd h hne
  ·exact hK g cap' w' ho ((Below.refl _ _).grown h2 (Nat.le_refl _) (fun j hj=>by cases hj)) hg1
theorem Try.info_u64:(Try.prog.info? 26).map (fun i=>(i.zero,i.size,i.bytes))=some (some (.int .u64 0),1,8):=by kernel_rfl
theorem wp_make_u64 (w:World) {ops:Array Oper} {rest:List Oper} {o:Oper} {a:Act} {Q:Exit→Act→World→Prop}
  (hg:o.guard=none) (l c:Operand) (hop:o.op=Op.makeSlice 70 l c) (n:Nat) (L C:Int) (hl:a.eval l=.int .i64 L) (hc:a.eval c=.int .i64 C) (hL:L=n) (hC:C=n) (hn:n≤1000000)
  (hK:∀w',OwnI w' w.heap.size 26 .u64 (.slice (some ⟨w.heap.size,0,none⟩) n n) (List.replicate n 0)→Below w.heap.size w w'→wpList Try.prog ops Q rest (a.put o.dst (.slice (some ⟨w.heap.size,0,none⟩) n n)) w') :
  wpList Try.prog ops Q (o :: rest) a w:=by
 obtain ⟨i0,hi,hz0,hz1,hz2⟩:=info_parts Try.info_u64;refine wpList_make_full w hg l c _ hop w.heap.size 26 i0 (.int .u64 0) 1 Try.underlying70 hi hz0 hz1 _ _ _ _ n hl hc hL hC (by rw [hz2]; omega) (by unfold maxLen; omega) (Nat.le_refl _) fun w' h1 h2=>?_;refine hK w' ?_ ((Below.refl _ _).grown h2 (Nat.le_refl _) (fun k hk=>by cases hk));unfold OwnI;rw [show (Value.int .u64 0).cells=#[.int .u64 0] from rfl,toList_madeCells_one'] at h1;simpa using h1
theorem run_append_zero {w:World} {T ty e:TypeId} {i:TypeInfo} (ht:Try.prog.underlying T=some (.slice e)) (hi:Try.prog.info? e=some i) (A B:Option Addr) (n c c':Nat) (hn:n≤c) :
  (Builtin.append_ #[T,T] ty #[.slice A n c,.slice B 0 c']).run Try.prog w=.ok (.slice A n c) w:=by
 cases A <;> cases B <;> simp [Builtin.append_,run_underlying ht,sizeOf,typeInfo,hi,Builtin.lenOf,Builtin.firstCells,storeCells,loadCells,loadCellsFrom,Result.andThen,hn]
theorem Try.info_li:(Try.prog.info? 36).map (fun i=>(i.zero,i.size,i.bytes))=some (some (.slice none 0 0),1,24):=by kernel_rfl
theorem SlI.one {w:World} {k:IntKind} {v:Value} {l:List Int} (h:SlI w k v l):v.oneCell'=true:=by
 obtain ⟨_,_,a,cap,rfl,_⟩:=h; rfl
theorem SlL.each {w:World} {v:Value} {us:List Value} {ll:List (List Int)} (h:SlL w v us ll):∀t,t<ll.length→SlI w .i64 (us.getD t (.slice none 0 0)) (ll.getD t []):=by
 obtain ⟨_,_,_,_,_,_,h5⟩:=h;intro t ht;obtain ⟨_,_,_,_,_,h⟩:=h5 t ht;exact h
structure FstL (l:List Int) (x:Int) (i:Nat):Prop where
 lt:i<l.length
 hit:l.getD i 0=x
 miss:∀j,j<i→l.getD j 0≠x
theorem FstL.erase {l:List Int} {x:Int} {i:Nat} (h:FstL l x i):l.erase x=l.take i ++ l.drop (i+1):=by
 induction l generalizing i with
 | nil=>exact absurd h.lt (by simp)
 | cons y l ih=>
  cases i with
  | zero=>
   have e:y=x:=by simpa using h.hit
   subst e;simp
  | succ i=>
   have e:y≠x:=by simpa using h.miss 0 (Nat.succ_pos _)
   have hi:FstL l x i:=⟨by simpa using h.lt,by simpa using h.hit,fun j hj=>by simpa using h.miss (j+1) (by omega)⟩;rw [List.erase_cons_tail (by simpa using e),ih hi];simp
structure Ext (W:World) where
 wd:World
 below:Below W.heap.size W wd
instance (W:World):Nonempty (Ext W):=⟨⟨W,Below.refl _ _⟩⟩
theorem wp_region_ext {P:Program} {id:Nat} {Q:Exit→Act→World→Prop} {a:Act} {w:World} {l:List Oper} (W:World) (hm:P.follows .mixedOrders=true) (hB:Region.lexB .any l.toArray=true) (hW:Below W.heap.size W w)
  (h:wpQuiet P l.toArray (fun w'=>∃n:Ext W,w'=n.wd) (fun a'=>∀w',(∃n:Ext W,w'=n.wd)→Q .normal a' w') l a):(Code.region id l.toArray true).wp P Q a w:=
 wp_region_quiet (C:=fun w'=>∃n:Ext W,w'=n.wd) hm hB ⟨⟨_,below_drewN hW 1⟩,rfl⟩ (by simpa using h)
theorem calls_ext {P:Program} {f:FuncId} {args:Array Value} {W:World} {n:Ext W} {v:Value}
  (h:Calls P f args n.wd fun e w'=>e=.returned v∧Below n.wd.heap.size n.wd w'):Calls P f args n.wd fun e w''=>e=.returned v∧∃m:Ext W,w''=m.wd:=
 h.mono fun _ w' ⟨he,hm⟩=>⟨he,⟨w',below_then n.below hm⟩,rfl⟩
theorem ext_cell {W:World} (b o:Nat) (h:b<W.heap.size) (v:Value) (hc:W.cell? ⟨b,o,none⟩=some v) (n:Ext W):n.wd.cell? ⟨b,o,none⟩=some v:=(n.below.cell (p:=⟨b,o,none⟩) h).trans hc
theorem ne_beq {x c:Int} (h:x≠c):(x == c)=false:=by simpa using h
theorem StM.open {G:World→Prop} {v:Value} {m:MemM} (h:StM G v m) (w:World) (hG:G w):∃a cap a2 cap2,v=.agg #[.slice a m.words.length cap,.slice a2 m.lists.length cap2,.int .i64 m.tick]:=by
 obtain ⟨vw,vl,us,rfl,hall⟩:=h;obtain ⟨h1,h2⟩:=hall w hG;obtain ⟨a,cap,rfl,-⟩:=h1.len;obtain ⟨a2,cap2,rfl,-⟩:=h2.len;exact ⟨_,_,_,_,rfl⟩
theorem StM.words {G:World→Prop} {a a2:Option Addr} {n cap n2 cap2:Nat} {t:Int} {m:MemM} (h:StM G (.agg #[.slice a n cap,.slice a2 n2 cap2,.int .i64 t]) m) (w:World) (hG:G w):SlI w .u64 (.slice a n cap) m.words:=by
 obtain ⟨vw,vl,us,e,hall⟩:=h;obtain ⟨h1,h2⟩:=hall w hG;simp only [Value.agg.injEq,Array.mk.injEq,List.cons.injEq,and_true] at e;rw [e.1]; exact h1
def atomicB (k:Int):Bool:=decide (1≤k) && decide (k≤4)
def writesB (k:Int):Bool:=k == 2 || k == 3 || k == 6 || k == 8 || k == 9
theorem atomic_any (k:Int) (w:World):Calls Try.prog 36 #[.int .i64 k] w fun e w'=>e=.returned (.bool (atomicB k))∧w=w':=by
 rcases (show k=1∨k=2∨k=3∨k=4∨(k≠1∧k≠2∧k≠3∧k≠4) by omega) with rfl | rfl | rfl | rfl | h
 ·go_enter Try.func36,Try.ntmps36
  go_wp2;go_ret;exact ⟨rfl,rfl⟩
 ·go_enter Try.func36,Try.ntmps36
  go_wp2;go_ret;exact ⟨rfl,rfl⟩
 ·go_enter Try.func36,Try.ntmps36
  go_wp2;go_ret;exact ⟨rfl,rfl⟩
 ·go_enter Try.func36,Try.ntmps36
  go_wp2;go_ret;exact ⟨rfl,rfl⟩
 ·have hv:atomicB k=false:=by simp [atomicB]; omega
  have k1:=ne_beq (show k≠1 by omega);have k2:=ne_beq (show k≠2 by omega);have k3:=ne_beq (show k≠3 by omega);have k4:=ne_beq (show k≠4 by omega);rw [hv];clear h hv;go_enter Try.func36,Try.ntmps36;go_wp2;go_ret;exact ⟨rfl,rfl⟩
theorem writes_any (k:Int) (w:World):Calls Try.prog 48 #[.int .i64 k] w fun e w'=>e=.returned (.bool (writesB k))∧w=w':=by
 rcases (show k=2∨k=3∨k=6∨k=8∨k=9∨(k≠2∧k≠3∧k≠6∧k≠8∧k≠9) by omega) with rfl | rfl | rfl | rfl | rfl | h
 ·go_enter Try.func48,Try.ntmps48
  go_wp2;go_ret;exact ⟨rfl,rfl⟩
 ·go_enter Try.func48,Try.ntmps48
  go_wp2;go_ret;exact ⟨rfl,rfl⟩
 ·go_enter Try.func48,Try.ntmps48
  go_wp2;go_ret;exact ⟨rfl,rfl⟩
 ·go_enter Try.func48,Try.ntmps48
  go_wp2;go_ret;exact ⟨rfl,rfl⟩
 ·go_enter Try.func48,Try.ntmps48
  go_wp2;go_ret;exact ⟨rfl,rfl⟩
 ·have hv:writesB k=false:=by simp [writesB]; omega
  have k2:=ne_beq (show k≠2 by omega);have k3:=ne_beq (show k≠3 by omega);have k6:=ne_beq (show k≠6 by omega);have k8:=ne_beq (show k≠8 by omega);have k9:=ne_beq (show k≠9 by omega);rw [hv];clear h hv;go_enter Try.func48,Try.ntmps48;go_wp2;go_ret;exact ⟨rfl,rfl⟩
structure ItemM where
 thr:Int
 acc:AccM
 val:Int
 ok:Bool
def noItem:ItemM:=⟨0,⟨0,0,0,0,0⟩,0,false⟩
structure ItemM.good (x:ItemM):Prop where
 thr:x.thr=IntKind.i64.wrap x.thr
 acc:x.acc.ok
 val:x.val=IntKind.u64.wrap x.val
def itemCells (x:ItemM):List Value:=[.int .i64 x.thr,.int .i64 x.acc.kind,.int .i64 x.acc.addr,.int .u64 x.acc.old,.int .u64 x.acc.new,.int .i64 x.acc.til,.int .u64 x.val,.bool x.ok]
def itemV (x:ItemM):Value:=.agg #[.int .i64 x.thr,.int .i64 x.acc.kind,.int .i64 x.acc.addr,.int .u64 x.acc.old,.int .u64 x.acc.new,.int .i64 x.acc.til,.int .u64 x.val,.bool x.ok]
theorem rowc8 {w:World} {g:Nat} {T:TypeId} {v0 v1 v2 v3 v4 v5 v6 v7:Value} (h:w.heap[g]?=some (.cells #[v0,v1,v2,v3,v4,v5,v6,v7] T (0,0))) :
  w.cell? ⟨g,0,none⟩=some v0∧w.cell? ⟨g,1,none⟩=some v1∧w.cell? ⟨g,2,none⟩=some v2∧w.cell? ⟨g,3,none⟩=some v3∧w.cell? ⟨g,4,none⟩=some v4∧w.cell? ⟨g,5,none⟩=some v5∧w.cell? ⟨g,6,none⟩=some v6∧w.cell? ⟨g,7,none⟩=some v7:=
 ⟨cell_of_row _ _ 0 _ _ _ h,cell_of_row _ _ 1 _ _ _ h,cell_of_row _ _ 2 _ _ _ h,cell_of_row _ _ 3 _ _ _ h,cell_of_row _ _ 4 _ _ _ h,cell_of_row _ _ 5 _ _ _ h,cell_of_row _ _ 6 _ _ _ h,cell_of_row _ _ 7 _ _ _ h⟩
def placeE (x:ItemM):Int:=
 if x.acc.addr<0 then 1099511627776 else if 1≤x.acc.kind∧x.acc.kind≤6 then x.acc.addr else if 7≤x.acc.kind∧x.acc.kind≤9 then -1 - x.acc.addr else 1099511627776
def readsE (x:ItemM):Bool:=x.acc.kind == 1 || x.acc.kind == 3 || x.acc.kind == 4 || x.acc.kind == 5 || x.acc.kind == 7 || x.acc.kind == 8 || x.acc.kind == 9
def changesE (x:ItemM):Bool:=writesB x.acc.kind && (!(x.acc.kind == 3) || x.ok)
def plainB (k:Int):Bool:=decide (5≤k) && decide (k≤9)
def conflictE (x y:ItemM):Bool:=plainB x.acc.kind && plainB y.acc.kind && !(x.thr == y.thr) && (placeE x == placeE y) && (changesE x || changesE y)
theorem neg_wrap {x:Int} (h0:¬x<0) (h1:x=IntKind.i64.wrap x):IntKind.i64.wrap (-1 - x)=-1 - x:=by rw [IntKind.wrap_i64] at *; omega
set_option maxHeartbeats 4000000 in
theorem place_any (x:ItemM) (w:World) (hx:x.good):Calls Try.prog 38 #[itemV x] w fun e w'=>e=.returned (.int .i64 (placeE x))∧Below w.heap.size w w':=by
 have hw:=hx.acc.addr;obtain ⟨th,⟨k,ad,o,nw,ti⟩,vl,ok⟩:=x;unfold itemV;dsimp only at hw ⊢;by_cases hn:ad<0
 ·have hv:placeE ⟨th,⟨k,ad,o,nw,ti⟩,vl,ok⟩=1099511627776:=by simp [placeE,hn]
  rw [hv];clear hv hw hx;go_enter Try.func38,Try.ntmps38;go_wp2;go_ret;exact ⟨rfl,below_new (Below.refl _ _) _⟩
 ·have hnw:=neg_wrap hn hw
  clear hw hx;rcases (show k=1∨k=2∨k=3∨k=4∨k=5∨k=6∨k=7∨k=8∨k=9∨(k≠1∧k≠2∧k≠3∧k≠4∧k≠5∧k≠6∧k≠7∧k≠8∧k≠9) by omega) with rfl | rfl | rfl | rfl | rfl | rfl | rfl | rfl | rfl | h
  ·have hv:placeE ⟨th,⟨1,ad,o,nw,ti⟩,vl,ok⟩=ad:=by simp [placeE,hn]
   rw [hv];clear hv;go_enter Try.func38,Try.ntmps38;go_wp2;go_ret;exact ⟨rfl,below_new (Below.refl _ _) _⟩
  ·have hv:placeE ⟨th,⟨2,ad,o,nw,ti⟩,vl,ok⟩=ad:=by simp [placeE,hn]
   rw [hv];clear hv;go_enter Try.func38,Try.ntmps38;go_wp2;go_ret;exact ⟨rfl,below_new (Below.refl _ _) _⟩
  ·have hv:placeE ⟨th,⟨3,ad,o,nw,ti⟩,vl,ok⟩=ad:=by simp [placeE,hn]
   rw [hv];clear hv;go_enter Try.func38,Try.ntmps38;go_wp2;go_ret;exact ⟨rfl,below_new (Below.refl _ _) _⟩
  ·have hv:placeE ⟨th,⟨4,ad,o,nw,ti⟩,vl,ok⟩=ad:=by simp [placeE,hn]
   rw [hv];clear hv;go_enter Try.func38,Try.ntmps38;go_wp2;go_ret;exact ⟨rfl,below_new (Below.refl _ _) _⟩
  ·have hv:placeE ⟨th,⟨5,ad,o,nw,ti⟩,vl,ok⟩=ad:=by simp [placeE,hn]
   rw [hv];clear hv;go_enter Try.func38,Try.ntmps38;go_wp2;go_ret;exact ⟨rfl,below_new (Below.refl _ _) _⟩
  ·have hv:placeE ⟨th,⟨6,ad,o,nw,ti⟩,vl,ok⟩=ad:=by simp [placeE,hn]
   rw [hv];clear hv;go_enter Try.func38,Try.ntmps38;go_wp2;go_ret;exact ⟨rfl,below_new (Below.refl _ _) _⟩
  ·have hv:placeE ⟨th,⟨7,ad,o,nw,ti⟩,vl,ok⟩=-1 - ad:=by simp [placeE,hn]
   rw [hv];clear hv;go_enter Try.func38,Try.ntmps38;go_wp2;go_ret;exact ⟨rfl,below_new (Below.refl _ _) _⟩
  ·have hv:placeE ⟨th,⟨8,ad,o,nw,ti⟩,vl,ok⟩=-1 - ad:=by simp [placeE,hn]
   rw [hv];clear hv;go_enter Try.func38,Try.ntmps38;go_wp2;go_ret;exact ⟨rfl,below_new (Below.refl _ _) _⟩
  ·have hv:placeE ⟨th,⟨9,ad,o,nw,ti⟩,vl,ok⟩=-1 - ad:=by simp [placeE,hn]
   rw [hv];clear hv;go_enter Try.func38,Try.ntmps38;go_wp2;go_ret;exact ⟨rfl,below_new (Below.refl _ _) _⟩
  ·have hv:placeE ⟨th,⟨k,ad,o,nw,ti⟩,vl,ok⟩=1099511627776:=by
    unfold placeE;rw [if_neg hn,if_neg (by dsimp only; omega),if_neg (by dsimp only; omega)]
   rw [hv];clear hv hnw;have k1:=ne_beq (show k≠1 by omega);have k2:=ne_beq (show k≠2 by omega);have k3:=ne_beq (show k≠3 by omega);have k4:=ne_beq (show k≠4 by omega);have k5:=ne_beq (show k≠5 by omega);have k6:=ne_beq (show k≠6 by omega);have k7:=ne_beq (show k≠7 by omega);have k8:=ne_beq (show k≠8 by omega);have k9:=ne_beq (show k≠9 by omega);go_enter Try.func38,Try.ntmps38;go_wp2;go_ret;exact ⟨rfl,below_new (Below.refl _ _) _⟩
set_option maxHeartbeats 4000000 in
theorem reads_any (x:ItemM) (w:World):Calls Try.prog 46 #[itemV x] w fun e w'=>e=.returned (.bool (readsE x))∧Below w.heap.size w w':=by
 obtain ⟨th,⟨k,ad,o,nw,ti⟩,vl,ok⟩:=x;unfold itemV;dsimp only;rcases (show k=1∨k=2∨k=3∨k=4∨k=5∨k=6∨k=7∨k=8∨k=9∨(k≠1∧k≠2∧k≠3∧k≠4∧k≠5∧k≠6∧k≠7∧k≠8∧k≠9) by omega) with rfl | rfl | rfl | rfl | rfl | rfl | rfl | rfl | rfl | h
 ·go_enter Try.func46,Try.ntmps46
  go_wp2;go_ret;exact ⟨rfl,below_new (Below.refl _ _) _⟩
 ·go_enter Try.func46,Try.ntmps46
  go_wp2;go_ret;exact ⟨rfl,below_new (Below.refl _ _) _⟩
 ·go_enter Try.func46,Try.ntmps46
  go_wp2;go_ret;exact ⟨rfl,below_new (Below.refl _ _) _⟩
 ·go_enter Try.func46,Try.ntmps46
  go_wp2;go_ret;exact ⟨rfl,below_new (Below.refl _ _) _⟩
 ·go_enter Try.func46,Try.ntmps46
  go_wp2;go_ret;exact ⟨rfl,below_new (Below.refl _ _) _⟩
 ·go_enter Try.func46,Try.ntmps46
  go_wp2;go_ret;exact ⟨rfl,below_new (Below.refl _ _) _⟩
 ·go_enter Try.func46,Try.ntmps46
  go_wp2;go_ret;exact ⟨rfl,below_new (Below.refl _ _) _⟩
 ·go_enter Try.func46,Try.ntmps46
  go_wp2;go_ret;exact ⟨rfl,below_new (Below.refl _ _) _⟩
 ·go_enter Try.func46,Try.ntmps46
  go_wp2;go_ret;exact ⟨rfl,below_new (Below.refl _ _) _⟩
 ·have k1:=ne_beq (show k≠1 by omega)
  have k2:=ne_beq (show k≠2 by omega);have k3:=ne_beq (show k≠3 by omega);have k4:=ne_beq (show k≠4 by omega);have k5:=ne_beq (show k≠5 by omega);have k6:=ne_beq (show k≠6 by omega);have k7:=ne_beq (show k≠7 by omega);have k8:=ne_beq (show k≠8 by omega);have k9:=ne_beq (show k≠9 by omega);have hv:(readsE ⟨th,⟨k,ad,o,nw,ti⟩,vl,ok⟩)=false:=by simp [readsE,plainB]; try omega
  go_enter Try.func46,Try.ntmps46;go_wp2;go_ret;exact ⟨ret_bool hv.symm,below_new (Below.refl _ _) _⟩
set_option maxHeartbeats 4000000 in
theorem plain_any (x:ItemM) (w:World):Calls Try.prog 51 #[itemV x] w fun e w'=>e=.returned (.bool (plainB x.acc.kind))∧Below w.heap.size w w':=by
 obtain ⟨th,⟨k,ad,o,nw,ti⟩,vl,ok⟩:=x;unfold itemV;dsimp only;rcases (show k=1∨k=2∨k=3∨k=4∨k=5∨k=6∨k=7∨k=8∨k=9∨(k≠1∧k≠2∧k≠3∧k≠4∧k≠5∧k≠6∧k≠7∧k≠8∧k≠9) by omega) with rfl | rfl | rfl | rfl | rfl | rfl | rfl | rfl | rfl | h
 ·go_enter Try.func51,Try.ntmps51
  go_wp2;go_ret;exact ⟨rfl,below_new (Below.refl _ _) _⟩
 ·go_enter Try.func51,Try.ntmps51
  go_wp2;go_ret;exact ⟨rfl,below_new (Below.refl _ _) _⟩
 ·go_enter Try.func51,Try.ntmps51
  go_wp2;go_ret;exact ⟨rfl,below_new (Below.refl _ _) _⟩
 ·go_enter Try.func51,Try.ntmps51
  go_wp2;go_ret;exact ⟨rfl,below_new (Below.refl _ _) _⟩
 ·go_enter Try.func51,Try.ntmps51
  go_wp2;go_ret;exact ⟨rfl,below_new (Below.refl _ _) _⟩
 ·go_enter Try.func51,Try.ntmps51
  go_wp2;go_ret;exact ⟨rfl,below_new (Below.refl _ _) _⟩
 ·go_enter Try.func51,Try.ntmps51
  go_wp2;go_ret;exact ⟨rfl,below_new (Below.refl _ _) _⟩
 ·go_enter Try.func51,Try.ntmps51
  go_wp2;go_ret;exact ⟨rfl,below_new (Below.refl _ _) _⟩
 ·go_enter Try.func51,Try.ntmps51
  go_wp2;go_ret;exact ⟨rfl,below_new (Below.refl _ _) _⟩
 ·have k1:=ne_beq (show k≠1 by omega)
  have k2:=ne_beq (show k≠2 by omega);have k3:=ne_beq (show k≠3 by omega);have k4:=ne_beq (show k≠4 by omega);have k5:=ne_beq (show k≠5 by omega);have k6:=ne_beq (show k≠6 by omega);have k7:=ne_beq (show k≠7 by omega);have k8:=ne_beq (show k≠8 by omega);have k9:=ne_beq (show k≠9 by omega);have hv:(plainB k)=false:=by simp [plainB,plainB]; try omega
  go_enter Try.func51,Try.ntmps51;go_wp2;go_ret;exact ⟨ret_bool hv.symm,below_new (Below.refl _ _) _⟩
set_option maxHeartbeats 4000000 in
theorem changes_any (x:ItemM) (w:World):Calls Try.prog 39 #[itemV x] w fun e w'=>e=.returned (.bool (changesE x))∧Below w.heap.size w w':=by
 obtain ⟨th,⟨k,ad,o,nw,ti⟩,vl,ok⟩:=x;unfold itemV;dsimp only;have TW:=Lib.hid fun w'=>writes_any k w';have HV:Hid (changesE ⟨th,⟨k,ad,o,nw,ti⟩,vl,ok⟩=(writesB k && (!(k == 3) || ok))):=rfl;generalize writesB k=wb at *;obtain ⟨W,hW⟩:∃W,w.alloc (.cells #[.int .i64 th,.int .i64 k,.int .i64 ad,.int .u64 o,.int .u64 nw,.int .i64 ti,.int .u64 vl,.bool ok] 30)=W:=⟨_,rfl⟩;have HB:Hid (Below w.heap.size w W):=hW▸below_new (Below.refl w.heap.size w) _;have R1:Hid (W.heap[w.heap.size]?=some (.cells #[.int .i64 th,.int .i64 k,.int .i64 ad,.int .u64 o,.int .u64 nw,.int .i64 ti,.int .u64 vl,.bool ok] 30 (0,0))):=hW▸heap_alloc_new _ _;have HW:=Lib.hid hW;clear hW;go_enter Try.func39,Try.ntmps39;go_upto_region 1 with fail
 rw [HW.out];clear HW;obtain ⟨y0,y1,y2,y3,y4,y5,y6,y7⟩:=rowc8 R1.out;by_cases hk:k=3
 ·subst hk
  cases ok <;> cases wb
  all_goals
   go_wp2_with (go_at_call 48; refine (TW.out _).mono ?_; rintro e w2 ⟨rfl,rfl⟩);go_ret;exact ⟨ret_bool (by rw [HV.out]; rfl),HB.out⟩
 ·have k3:=ne_beq hk
  have k3n:(k != 3)=true:=by simpa using hk
  have HK:=Lib.hid k3;cases ok <;> cases wb
  all_goals
   go_wp2_with (go_at_call 48; refine (TW.out _).mono ?_; rintro e w2 ⟨rfl,rfl⟩);go_ret;exact ⟨ret_bool (by rw [HV.out,HK.out]; rfl),HB.out⟩
def CodesAt (w:World) (g:Nat) (r:List Int) (val:Int):Prop:=
 ∃v l,∃k:Nat,w.heap[g]?=some (.cells #[v,.int .i64 k,.int .u64 val] 69 (0,0))∧SlI w .u8 v l∧k≤l.length∧r=l.drop k∧(l≠[]→∀a n c,v=.slice a n c→∀b,a=some b→b.block<g)
theorem CodesAt.drew {w:World} {g:Nat} {r:List Int} {val:Int} (h:CodesAt w g r val) (n:Nat):CodesAt (w.drewN n) g r val:=h
theorem CodesAt.lt {w:World} {g:Nat} {r:List Int} {val:Int} (h:CodesAt w g r val):g<w.heap.size:=by
 obtain ⟨v,l,k,hg,_⟩:=h;exact (Array.getElem?_eq_some_iff.1 hg).1
theorem CodesAt.kept {w w':World} {g B:Nat} {r:List Int} {val:Int} (h:CodesAt w g r val) (hB:g<B) (hb:Below B w w'):CodesAt w' g r val:=by
 obtain ⟨v,l,k,hg,⟨m1,m2,a,cap,rfl,hcap,h5⟩,hk,hr,h4⟩:=h;refine ⟨_,l,k,(hb.block g hB).trans hg,⟨m1,m2,a,cap,rfl,hcap,fun t ht=>?_⟩,hk,hr,h4⟩;obtain ⟨b,off,e,hlt,hc⟩:=h5 t ht;have hbg:=h4 (by rintro rfl; simp at ht) _ _ _ rfl _ e;exact ⟨b,off,e,Nat.lt_of_lt_of_le hlt hb.size,(hb.cell (p:=⟨b,off+t,none⟩) (by simp at hbg ⊢; omega)).trans hc⟩
def nxt (r:List Int) (n:Int):Int:=match r with | []=>0 | c :: _=>c % n
theorem nxt_bd (r:List Int) (n:Int) (h:1≤n):0≤nxt r n∧nxt r n<n:=by
 unfold nxt;split
 ·omega
 ·exact ⟨Int.emod_nonneg _ (by omega),Int.emod_lt_of_pos _ (by omega)⟩
theorem left_any (g:Nat) (r:List Int) (val:Int) (w:World) (h:CodesAt w g r val) :
  Calls Try.prog 21 #[.pointer (some ⟨g,0,none⟩)] w fun e w'=>∃n,e=.returned (.bool (!r.isEmpty))∧w.drewN n=w':=by
 obtain ⟨v,l,k,hg,hl,hk,rfl,_⟩:=h;have hmx:=hl.1;obtain ⟨a,cap,rfl,_⟩:=hl.len;have c0:=cell_of_row w g 0 _ _ _ hg;have c1:=cell_of_row w g 1 _ _ _ hg;simp at c0 c1;clear hg hl;have hr:((l.drop k).isEmpty)=decide (l.length≤k):=by
  rw [Bool.eq_iff_iff]; simp
 have HR:=Lib.hid hr;clear hr;go_enter Try.func21,Try.ntmps21;go_wp2;go_quiet (fail);go_wp2;go_ret;exact ⟨nq,ret_bool (by rw [HR.out]; by_cases e:k<l.length <;> simp [e] <;> omega),rfl⟩
theorem codes_step {w:World} {g:Nat} {val:Int} {b off n cap k:Nat} {l:List Int}
  (hg:w.heap[g]?=some (.cells #[.slice (some ⟨b,off,none⟩) n cap,.int .i64 k,.int .u64 val] 69 (0,0)))
  (hl:SlI w .u8 (.slice (some ⟨b,off,none⟩) n cap) l) (hlt:k<l.length) (hbg0:b<g) (m:Nat) :
  (CodesAt (w.setCell ⟨g,1,none⟩ (.int .i64 ((k:Int)+1))) g (l.drop k).tail val)∧
  w.grownBy ((w.setCell ⟨g,1,none⟩ (.int .i64 ((k:Int)+1))).drewN m) (some g)∧
  (w.setCell ⟨g,1,none⟩ (.int .i64 ((k:Int)+1))).cell? ⟨g,0,none⟩=some (.slice (some ⟨b,off,none⟩) n cap)∧
  (w.setCell ⟨g,1,none⟩ (.int .i64 ((k:Int)+1))).cell? ⟨g,1,none⟩=some (.int .i64 ((k:Int)+1))∧
  (w.setCell ⟨g,1,none⟩ (.int .i64 ((k:Int)+1))).cell? ⟨b,off+k,none⟩=some (.int .u8 (l.getD k 0)):=by
 have hbg:b≠g:=by omega
 have hs:=heap_setCell_same w g 1 _ _ (.int .i64 ((k:Int)+1)) hg;have ho:∀j,j≠g→(w.setCell ⟨g,1,none⟩ (.int .i64 ((k:Int)+1))).heap[j]?=w.heap[j]?:=fun j hj=>heap_setCell_other w ⟨g,1,none⟩ j _ hj;have e0:=cell_of_row _ g 0 _ _ _ hs;have e1:=cell_of_row _ g 1 _ _ _ hs;have hcell:∀j,(w.setCell ⟨g,1,none⟩ (.int .i64 ((k:Int)+1))).cell? ⟨b,j,none⟩=w.cell? ⟨b,j,none⟩:=fun j=>World.cell?_of_block (ho b hbg);obtain ⟨m1,m2,a',cap',e,hle,h5⟩:=hl;simp only [Value.slice.injEq] at e;obtain ⟨rfl,rfl,rfl⟩:=e;have hsz:(w.setCell ⟨g,1,none⟩ (.int .i64 ((k:Int)+1))).heap.size=w.heap.size:=by simp
 refine ⟨⟨_,l,k+1,by simpa using hs,⟨m1,m2,_,_,rfl,hle,fun t ht=>?_⟩,hlt,by rw [List.tail_drop],?_⟩,⟨rfl,rfl,rfl,by simp,fun j _ hj=>ho j (fun e=>hj (by rw [e]))⟩,by simpa using e0,by simpa using e1,?_⟩
 ·obtain ⟨b1,o1,e2,h6,h7⟩:=h5 t ht
  simp only [Option.some.injEq,Addr.mk.injEq,and_true] at e2;obtain ⟨rfl,rfl⟩:=e2;exact ⟨_,_,rfl,by rw [hsz]; exact h6,(hcell _).trans h7⟩
 ·intro _ a n c e bb e2
  simp only [Value.slice.injEq] at e;rw [← e.1] at e2;cases e2;exact hbg0
 ·obtain ⟨b1,o1,e2,h6,h7⟩:=h5 k hlt
  simp only [Option.some.injEq,Addr.mk.injEq,and_true] at e2;obtain ⟨rfl,rfl⟩:=e2;exact (hcell _).trans h7
theorem next_any (g:Nat) (r:List Int) (val n:Int) (w:World) (h:CodesAt w g r val) (h1:1≤n) (h2:n≤256) :
  Calls Try.prog 22 #[.pointer (some ⟨g,0,none⟩),.int .i64 n] w fun e w'=>e=.returned (.int .i64 (nxt r n))∧CodesAt w' g r.tail val∧w.grownBy w' (some g):=by
 have h0:=h;obtain ⟨v,l,k,hg,hl,hk,hr,hv⟩:=h;have hmx:=hl.1;by_cases hlt:k<l.length
 ·obtain ⟨b,off,cap,rfl,hcap,hb,hc⟩:=hl.open (by rintro rfl; simp at hlt)
  have c0:=cell_of_row w g 0 _ _ _ hg;have c1:=cell_of_row w g 1 _ _ _ hg;have f1:=frozen_of_row w g 1 _ _ hg;simp at c0 c1;have hu:=hl.2.1 (l.getD k 0) (by simp [List.getD_eq_getElem?_getD,hlt]);have ST:=Lib.hid fun m q=>codes_step (w:=w.drewN m) hg (hl.drew m) hlt (hv (by rintro rfl; simp at hlt) _ _ _ rfl _ rfl) q;have hre:r.isEmpty=false:=by rw [hr]; simp; omega
  have hn:=Lib.hid (show nxt r n=l.getD k 0 % n by rw [hr,List.drop_eq_getElem_cons hlt]; simp [nxt,List.getD_eq_getElem?_getD,hlt]);have L:=Lib.hid fun w'=>left_any g r val w';have H0:=Lib.hid h0;have HR:=Lib.hid hr;have hkx:k≤140737488351232:=by omega
  generalize l.getD k 0=x at *;have hx:0≤x∧x<256:=by rw [hu,IntKind.wrap_u8]; omega
  obtain ⟨hx0,hx1⟩:=hx;have e1:=Int.tmod_eq_emod_of_nonneg (b:=n) hx0;have e2:=Int.emod_nonneg x (show n≠0 by omega);have e3:=Int.emod_lt_of_pos x (show 0<n by omega);have hltI:(k:Int)<l.length:=by omega
  clear hg hl hc hv hr h0 hu;have EX:=Lib.hid e1;clear e1;go_enter Try.func22,Try.ntmps22;go_wp2_with (go_at_call 21; refine (L.out _ H0.out).mono ?_; rintro e w' ⟨m,rfl,rfl⟩);obtain ⟨s1,s5,s2,s3,s4⟩:=ST.out m 0;have SS:=Lib.hid (And.intro s1 s5);clear s1 s5 c0 c1 f1;generalize (w.drewN m).setCell _ _=W1 at *;go_quiet (fail);go_wp2;go_ret;exact ⟨ret_i64 (hn.out.symm),by rw [HR.out]; exact SS.out.1,⟨SS.out.2.os,SS.out.2.tape,SS.out.2.output,SS.out.2.size,SS.out.2.block⟩⟩
 ·have hr0:r=[]:=by rw [hr]; simp; omega
  subst hr0;have L:=Lib.hid fun w'=>left_any g [] val w';have H0:=Lib.hid h0;clear hg hl hv hr h0;go_enter Try.func22,Try.ntmps22;go_wp2_with (go_at_call 21; refine (L.out _ H0.out).mono ?_; rintro e w' ⟨m,rfl,rfl⟩);go_ret;exact ⟨rfl,H0.out,⟨rfl,rfl,rfl,Nat.le_refl _,fun _ _ _=>rfl⟩⟩
theorem new_any (v:Value) (l:List Int) (m:Nat) (w:World) (hl:SlI w .u8 v l) (hm:m≤1000) :
  Calls Try.prog 20 #[v,.int .i64 m] w fun e w'=>e=.returned (.pointer (some ⟨w.heap.size,0,none⟩))∧CodesAt w' w.heap.size (l.take m) 0∧Below w.heap.size w w':=by
 have h0:=hl;obtain ⟨m1,m2,a,cap,rfl,hcap,h5⟩:=hl;by_cases hlt:m<l.length
 ·obtain ⟨b,off,rfl,hb,-⟩:=h5 m hlt
  have hlen:(l.take m).length=m:=by simp; omega
  have hfin:SlI (w.alloc (.cells #[.slice (some ⟨b,off,none⟩) m cap,.int .i64 0,.int .u64 0] 69)) .u8 (.slice (some ⟨b,off,none⟩) m cap) (l.take m):=by
   refine ⟨by omega,fun x hx=>m2 x (List.mem_of_mem_take hx),_,cap,by rw [hlen],by omega,fun t ht=>?_⟩;have ht':t<m:=by simp at ht; omega
   obtain ⟨b',off',e,hb',hc⟩:=h5 t (by omega);simp only [Option.some.injEq,Addr.mk.injEq,and_true] at e;obtain ⟨rfl,rfl⟩:=e;refine ⟨b,off,rfl,by simp; omega,?_⟩;rw [World.cell?_alloc_past _ _ _ hb',hc];simp [List.getD_eq_getElem?_getD,ht']
  have HF:=Lib.hid hfin;clear hfin h5;have hmc:(m:Int)≤cap:=by omega
  have hb':b<w.heap.size:=hb;clear hlen h0 m2;go_enter Try.func20,Try.ntmps20;go_wp2;go_ret;exact ⟨rfl,⟨_,l.take m,0,heap_alloc_new w _,HF.out,Nat.zero_le _,rfl,fun _ a n c e b2 e2=>by
   simp only [Value.slice.injEq] at e;rw [← e.1] at e2;cases e2;exact hb'⟩,(Below.refl _ _).alloc (Nat.le_refl _) _⟩
 ·have e:l.take m=l:=List.take_of_length_le (by omega)
  rw [e];have hfin:SlI (w.alloc (.cells #[.slice a l.length cap,.int .i64 0,.int .u64 0] 69)) .u8 (.slice a l.length cap) l:=h0.below ((Below.refl _ _).alloc (Nat.le_refl _) _);have HF:=Lib.hid hfin;have H5:=Lib.hid h5;clear hfin h5 e h0 m2;go_enter Try.func20,Try.ntmps20;go_wp2;go_ret;refine ⟨rfl,⟨_,l,0,heap_alloc_new w _,HF.out,Nat.zero_le _,rfl,fun hne a n c e b2 e2=>?_⟩,(Below.refl _ _).alloc (Nat.le_refl _) _⟩;simp only [Value.slice.injEq] at e;obtain ⟨b,off,e3,hb,_⟩:=H5.out 0 (List.length_pos_iff.2 hne);rw [← e.1,e3] at e2;cases e2;exact hb
def ItemAt (w:World) (g off:Nat) (x:ItemM):Prop:=
 w.cell? ⟨g,off+0,none⟩=some (.int .i64 x.thr)∧w.cell? ⟨g,off+1,none⟩=some (.int .i64 x.acc.kind)∧w.cell? ⟨g,off+2,none⟩=some (.int .i64 x.acc.addr)∧w.cell? ⟨g,off+3,none⟩=some (.int .u64 x.acc.old)∧w.cell? ⟨g,off+4,none⟩=some (.int .u64 x.acc.new)∧w.cell? ⟨g,off+5,none⟩=some (.int .i64 x.acc.til)∧w.cell? ⟨g,off+6,none⟩=some (.int .u64 x.val)∧w.cell? ⟨g,off+7,none⟩=some (.bool x.ok)
def SlT (w:World) (v:Value) (l:List ItemM):Prop:=
 l.length≤140737488351232∧(∀x∈l,x.good)∧∃a cap,v=.slice a l.length cap∧l.length≤cap∧∀t,t<l.length→∃b off,a=some ⟨b,off,none⟩∧b<w.heap.size∧ItemAt w b (off+t * 8) (l.getD t noItem)
theorem SlT.below {w w':World} {v:Value} {l:List ItemM} (h:SlT w v l) (hb:Below w.heap.size w w'):SlT w' v l:=by
 obtain ⟨h1,h2,a,cap,h3,h4,h5⟩:=h;refine ⟨h1,h2,a,cap,h3,h4,fun t ht=>?_⟩;obtain ⟨b,off,e,hlt,c0,c1,c2,c3,c4,c5,c6,c7⟩:=h5 t ht;have hc:∀j,w'.cell? ⟨b,j,none⟩=w.cell? ⟨b,j,none⟩:=fun j=>hb.cell (p:=⟨b,j,none⟩) hlt;exact ⟨b,off,e,Nat.lt_of_lt_of_le hlt hb.size,(hc _).trans c0,(hc _).trans c1,(hc _).trans c2,(hc _).trans c3,(hc _).trans c4,(hc _).trans c5,(hc _).trans c6,(hc _).trans c7⟩
theorem SlT.len {w:World} {v:Value} {l:List ItemM} (h:SlT w v l):∃a cap,v=.slice a l.length cap∧l.length≤cap:=by
 obtain ⟨_,_,a,cap,rfl,h4,_⟩:=h;exact ⟨a,cap,rfl,h4⟩
theorem SlT.nil (w:World):SlT w (.slice none 0 0) []:=⟨by simp,by simp,none,0,rfl,Nat.le_refl _,fun t ht=>by simp at ht⟩
theorem SlT.open {w:World} {v:Value} {l:List ItemM} (h:SlT w v l) (hne:l≠[]) :
  ∃b off cap,v=.slice (some ⟨b,off,none⟩) l.length cap∧l.length≤cap∧b<w.heap.size∧∀t,t<l.length→ItemAt w b (off+t * 8) (l.getD t noItem):=by
 obtain ⟨_,_,a,cap,rfl,h4,h5⟩:=h;obtain ⟨b,off,rfl,hlt,_⟩:=h5 0 (List.length_pos_iff.2 hne);refine ⟨b,off,cap,rfl,h4,hlt,fun t ht=>?_⟩;obtain ⟨b',off',e,_,hc⟩:=h5 t ht;simp only [Option.some.injEq,Addr.mk.injEq] at e;obtain ⟨rfl,rfl,_⟩:=e;exact hc
def OwnT (w:World) (base:Nat) (v:Value) (l:List ItemM):Prop:=
 w.ownsRow base 30 8 v l.length (l.flatMap itemCells)
theorem flatT_length (l:List ItemM):(l.flatMap itemCells).length=l.length * 8:=by
 induction l with
 | nil=>rfl
 | cons x l ih=>rw [List.flatMap_cons,List.length_append,ih,List.length_cons]; simp [itemCells]; omega
theorem flatT_get (l:List ItemM) (t j:Nat) (ht:t<l.length) (hj:j<8):(l.flatMap itemCells)[t * 8+j]?=(itemCells (l.getD t noItem))[j]?:=by
 induction l generalizing t with
 | nil=>simp at ht
 | cons x l ih=>
  rw [List.flatMap_cons];have hx:(itemCells x).length=8:=rfl;cases t with
  | zero=>rw [List.getElem?_append_left (by rw [hx]; omega)]; simp
  | succ t=>
   rw [List.getElem?_append_right (by rw [hx]; omega),hx,show (t+1) * 8+j - 8=t * 8+j by omega,ih t (by simpa using ht)];simp
theorem OwnT.nil (w:World) (base:Nat):OwnT w base (.slice none 0 0) []:=World.ownsRow_nil w base _ 8
theorem OwnT.shape {w:World} {base:Nat} {v:Value} {l:List ItemM} (h:OwnT w base v l) :
  (v=.slice none 0 0∧l=[])∨∃g cap,v=.slice (some ⟨g,0,none⟩) l.length cap∧base≤g∧g<w.heap.size∧l.length≤cap:=by
 rcases h.2 with ⟨rfl,h2⟩ | ⟨g,cap,cur,rfl,h3,h4,h5,h6,_,_⟩
 ·exact .inl ⟨rfl,List.length_eq_zero_iff.1 h2⟩
 ·exact .inr ⟨g,cap,rfl,h3,(Array.getElem?_eq_some_iff.1 h4).1,h5⟩
theorem OwnT.len {w:World} {base:Nat} {v:Value} {l:List ItemM} (h:OwnT w base v l):∃a cap,v=.slice a l.length cap:=by
 rcases h.shape with ⟨rfl,rfl⟩ | ⟨g,cap,rfl,_⟩
 ·exact ⟨_,_,rfl⟩
 ·exact ⟨_,_,rfl⟩
theorem OwnT.read {w:World} {base:Nat} {v:Value} {l:List ItemM} (h:OwnT w base v l) (hl:l.length≤140737488351232) (hw:∀x∈l,x.good):SlT w v l:=by
 have h0:=h;rcases h.shape with ⟨rfl,rfl⟩ | ⟨g,cap,rfl,h1,h2,h3⟩
 ·exact SlT.nil w
 ·refine ⟨hl,hw,some ⟨g,0,none⟩,cap,rfl,h3,fun t ht=>⟨g,0,rfl,h2,?_⟩⟩
  have hc:∀j,j<8→w.cell? ⟨g,t * 8+j,none⟩=(itemCells (l.getD t noItem))[j]?:=fun j hj=>by
   rw [World.ownsRow.cellAt h0 (t * 8+j) (by omega),flatT_get l t j ht hj]
  have c0:=hc 0 (by omega);have c1:=hc 1 (by omega);have c2:=hc 2 (by omega);have c3:=hc 3 (by omega);have c4:=hc 4 (by omega);have c5:=hc 5 (by omega);have c6:=hc 6 (by omega);have c7:=hc 7 (by omega);rw [Nat.zero_add];exact ⟨by simpa [itemCells] using c0,by simpa [itemCells] using c1,by simpa [itemCells] using c2,by simpa [itemCells] using c3,by simpa [itemCells] using c4,by simpa [itemCells] using c5,by simpa [itemCells] using c6,by simpa [itemCells] using c7⟩
theorem OwnT.kept {w w':World} {base:Nat} {v:Value} {l:List ItemM} {row:Option Nat} (h:OwnT w base v l) (hg:w.grownBy w' row) (hne:v.ownBlock=none∨v.ownBlock≠row):OwnT w' base v l:=World.ownsRow.kept h hg hne
theorem OwnT.alloc {w:World} {base:Nat} {v:Value} {l:List ItemM} (h:OwnT w base v l) (o:Obj):OwnT (w.alloc o) base v l:=World.ownsRow.alloc h o
theorem OwnT.own_ge {w:World} {base:Nat} {v:Value} {l:List ItemM} (h:OwnT w base v l):∀j,v.ownBlock=some j→base≤j:=fun j hj=>(World.ownsRow.lt h j hj).1
theorem OwnT.ne {w:World} {base:Nat} {v:Value} {l:List ItemM} (h:OwnT w base v l) {g:Nat} (hg:g<base):v.ownBlock=none∨v.ownBlock≠some g:=by
 cases hv:v.ownBlock with
 | none=>exact .inl rfl
 | some b=>exact .inr fun e=>by have:=h.own_ge b hv; cases e; omega
theorem OwnT.below {w w':World} {base:Nat} {v:Value} {l:List ItemM} (h:OwnT w base v l) (hb:Below w.heap.size w w'):OwnT w' base v l:=by
 refine h.kept (row:=none) ⟨hb.os,hb.tape,hb.output,hb.size,fun j hj _=>hb.block j hj⟩ ?_;cases hv:v.ownBlock with
 | none=>exact .inl rfl
 | some x=>exact .inr (by simp)
theorem OwnT.mono_base {w:World} {base b':Nat} {v:Value} {l:List ItemM} (h:OwnT w base v l) (hb:b'≤base):OwnT w b' v l:=by
 refine ⟨h.1,?_⟩;rcases h.2 with h1 | ⟨g,cap,cur,h1,h2,h3⟩
 ·exact .inl h1
 ·exact .inr ⟨g,cap,cur,h1,Nat.le_trans hb h2,h3⟩
theorem Try.info_item:(Try.prog.info? 30).map (fun i=>(i.zero,i.size,i.bytes))=some (some (.agg #[.int .i64 0,.int .i64 0,.int .i64 0,.int .u64 0,.int .u64 0,.int .i64 0,.int .u64 0,.bool false]),8,64):=by kernel_rfl
section
variable (w:World) {ops:Array Oper} {rest:List Oper} {o:Oper} {a:Act} {Q:Exit→Act→World→Prop}
theorem wp_append_item (hg:o.guard=none) (s x:Operand) (hop:o.op=Op.call { callee:=Callee.builtin Builtin.append,args:=#[s,x],argTypes:=#[23,23] })
  (base:Nat) (v:Value) (l:List ItemM) (hs:a.eval s=v) (hown:OwnT w base v l) (y:ItemM) (g:Nat)
  (hx:a.eval x=.slice (some ⟨g,0,none⟩) 1 1) (hcell:ItemAt w g 0 y) (hl:l.length≤1000000) (hb:base≤w.heap.size)
  (hK:∀v' w',OwnT w' base v' (l ++ [y])→w.grownBy w' v.ownBlock→wpList Try.prog ops Q rest (a.put o.dst v') w') :
  wpList Try.prog ops Q (o :: rest) a w:=by
 obtain ⟨i0,hi,hz0,hz1,hz2⟩:=info_parts Try.info_item;refine wpList_append_own w hg s x _ hop base _ i0 _ 8 _ (by kernel_rfl) hi hz0 hz1 rfl rfl (by decide) v l.length _ hs hown ⟨g,0,none⟩ 1 1 (itemCells y) hx rfl ?_ ?_ (by unfold maxLen; omega) (by rw [hz2]; omega) hb fun v' w' h1 h2 h3=>hK v' w' ?_ h2
 ·obtain ⟨c0,c1,c2,c3,c4,c5,c6,c7⟩:=hcell
  intro j u hj;match j,hj with
  | 0,hj=>simp [itemCells] at hj; subst hj; simpa [Addr.add] using c0
  | 1,hj=>simp [itemCells] at hj; subst hj; simpa [Addr.add] using c1
  | 2,hj=>simp [itemCells] at hj; subst hj; simpa [Addr.add] using c2
  | 3,hj=>simp [itemCells] at hj; subst hj; simpa [Addr.add] using c3
  | 4,hj=>simp [itemCells] at hj; subst hj; simpa [Addr.add] using c4
  | 5,hj=>simp [itemCells] at hj; subst hj; simpa [Addr.add] using c5
  | 6,hj=>simp [itemCells] at hj; subst hj; simpa [Addr.add] using c6
  | 7,hj=>simp [itemCells] at hj; subst hj; simpa [Addr.add] using c7
 ·intro u hu
  simp only [itemCells,List.mem_cons,List.not_mem_nil,or_false] at hu;rcases hu with rfl | rfl | rfl | rfl | rfl | rfl | rfl | rfl <;> rfl
 ·unfold OwnT
  rw [List.length_append,List.flatMap_append,List.flatMap_cons,List.flatMap_nil,List.append_nil];exact h1
end
def zeroItem:Array Value:=#[.int .i64 0,.int .i64 0,.int .i64 0,.int .u64 0,.int .u64 0,.int .i64 0,.int .u64 0,.bool false]
open Go.ChangeShapes Go.WideShapes Go.ChangeAt Go.RowKit Go.Deep
section
variable {H:Type} {enc:TypeId × Value→H} {W:World}
theorem open5 {t:TypeId} {f0 f1 f2 f3 f4:Field} {q0 q1 q2 q3 q4:Value} {fuel:Nat} {x:DataW H × List MemPlace} (hs:Try.prog.underlying t=some (.struct #[f0,f1,f2,f3,f4])) (hone:oneCellFields Try.prog #[f0,f1,f2,f3,f4]=true)
  (h:DataW.trod enc Try.prog W 0 (fun _=>true) true fuel t [q0,q1,q2,q3,q4]=some x) :
  ∃(y0 y1 y2 y3 y4:DataW H × List MemPlace) (n:Nat),x.1=.agg [y0.1,y1.1,y2.1,y3.1,y4.1]∧DataW.trod enc Try.prog W 0 (fun _=>true) true n f0.type [q0]=some y0∧DataW.trod enc Try.prog W 0 (fun _=>true) true n f1.type [q1]=some y1∧DataW.trod enc Try.prog W 0 (fun _=>true) true n f2.type [q2]=some y2∧DataW.trod enc Try.prog W 0 (fun _=>true) true n f3.type [q3]=some y3∧DataW.trod enc Try.prog W 0 (fun _=>true) true n f4.type [q4]=some y4:=by
 obtain ⟨xs,n,_,hx,_,hlen,hg⟩:=DataW.trod_struct hs h;obtain ⟨o0,k0⟩:=hone_of hone 0 f0 rfl;obtain ⟨o1,k1⟩:=hone_of hone 1 f1 rfl;obtain ⟨o2,k2⟩:=hone_of hone 2 f2 rfl;obtain ⟨o3,k3⟩:=hone_of hone 3 f3 rfl;obtain ⟨o4,k4⟩:=hone_of hone 4 f4 rfl;match xs,hlen with
 | [y0,y1,y2,y3,y4],_=>
  subst hx;exact ⟨y0,y1,y2,y3,y4,n,rfl,by simpa [o0,k0] using hg 0 f0 rfl,by simpa [o1,k1] using hg 1 f1 rfl,by simpa [o2,k2] using hg 2 f2 rfl,by simpa [o3,k3] using hg 3 f3 rfl,by simpa [o4,k4] using hg 4 f4 rfl⟩
theorem cells_acc {n:Nat} {q0 q1 q2 q3 q4:Value} {x:DataW H × List MemPlace} (hf:DataW.trod enc Try.prog W 0 (fun _=>true) true n 28 [q0,q1,q2,q3,q4]=some x) :
  ∃a:AccM,a.ok∧q0=.int .i64 a.kind∧q1=.int .i64 a.addr∧q2=.int .u64 a.old∧q3=.int .u64 a.new∧q4=.int .i64 a.til:=by
 obtain ⟨y0,y1,y2,y3,y4,n,-,g0,g1,g2,g3,g4⟩:=open5 Try.underlying28 (by kernel_rfl) hf;obtain ⟨z0,e0,-,w0⟩:=DataW.trod_int Try.underlying3 g0;obtain ⟨z1,e1,-,w1⟩:=DataW.trod_int Try.underlying3 g1;obtain ⟨z2,e2,-,w2⟩:=DataW.trod_int Try.underlying26 g2;obtain ⟨z3,e3,-,w3⟩:=DataW.trod_int Try.underlying26 g3;obtain ⟨z4,e4,-,w4⟩:=DataW.trod_int Try.underlying3 g4;simp at e0 e1 e2 e3 e4;exact ⟨⟨z0,z1,z2,z3,z4⟩,⟨wrap_of_wf w0,wrap_of_wf w1,wrap_of_wf w2,wrap_of_wf w3,wrap_of_wf w4⟩,e0,e1,e2,e3,e4⟩
end
open Go.ChangeShapes Go.WideShapes Go.ChangeAt Go.RowKit Go.Deep
section
variable {H:Type} {enc:TypeId × Value→H} {W:World}
theorem view_itemC {cs:List Value} {fuel:Nat} {x:DataW H × List MemPlace} (hc:cs.length=8) (h:DataW.trod enc Try.prog W 0 (fun _=>true) true fuel 30 cs=some x):∃e:ItemM,cs=itemCells e∧e.good:=by
 match cs,hc with
 | [q0,q1,q2,q3,q4,q5,q6,q7],_=>
  obtain ⟨xs,n,_,hx,_,hlen,hg⟩:=DataW.trod_struct Try.underlying30 h;have c3:Try.prog.cellsOf 3=1:=by kernel_rfl
  have c28:Try.prog.cellsOf 28=5:=by kernel_rfl
  have c26:Try.prog.cellsOf 26=1:=by kernel_rfl
  have c4:Try.prog.cellsOf 4=1:=by kernel_rfl
  match xs,hlen with
  | [y0,y1,y2,y3],_=>
   have g0:DataW.trod enc Try.prog W 0 (fun _=>true) true n 3 [q0]=some y0:=by simpa [c3] using hg 0 _ rfl
   have g1:DataW.trod enc Try.prog W 0 (fun _=>true) true n 28 [q1,q2,q3,q4,q5]=some y1:=by simpa [c28] using hg 1 _ rfl
   have g2:DataW.trod enc Try.prog W 0 (fun _=>true) true n 26 [q6]=some y2:=by simpa [c26] using hg 2 _ rfl
   have g3:DataW.trod enc Try.prog W 0 (fun _=>true) true n 4 [q7]=some y3:=by simpa [c4] using hg 3 _ rfl
   obtain ⟨z0,e0,-,w0⟩:=DataW.trod_int Try.underlying3 g0;obtain ⟨a,ha,a0,a1,a2,a3,a4⟩:=cells_acc g1;obtain ⟨z2,e2,-,w2⟩:=DataW.trod_int Try.underlying26 g2;obtain ⟨b3,e3,-⟩:=DataW.trod_bool Try.underlying4 g3;simp at e0 e2 e3;subst e0 e2 e3 a0 a1 a2 a3 a4;exact ⟨⟨z0,a,z2,b3⟩,rfl,wrap_of_wf w0,ha,wrap_of_wf w2⟩
theorem view_items {v:Value} {d:DataW H} {p:List MemPlace} (hsz:∀elems sp,d=.slice elems sp→(elems.length+sp.length) * Try.prog.bytesOf 30≤reachBytes)
  (hval:Value.okWide Try.prog W .any 0 23 v) (hd:DataW.Trod enc Try.prog W 0 (fun _=>true) true 23 v d p):∃l,SlT W v l:=by
 obtain ⟨a0,len0,cap0,rfl⟩:=okWide_slice Try.underlying23 hval;obtain ⟨fuel,hf⟩:=hd;have hC:Try.prog.cellsOf 30=8:=by kernel_rfl
 rcases open_slice Try.underlying23 hf with ⟨hcs,hx⟩ | ⟨a,len,cap,m,n',D,Pl,hcs,_,hl,hm,hmm,hx,hi⟩
 ·simp [Value.cells] at hcs
  obtain ⟨rfl,rfl,rfl⟩:=hcs;exact ⟨[],SlT.nil _⟩
 ·simp [Value.cells] at hcs
  obtain ⟨rfl,rfl,rfl⟩:=hcs;simp only [Prod.mk.injEq] at hx;obtain ⟨rfl,rfl⟩:=hx;simp only [if_true] at hmm;subst hmm;have hle:len0≤140737488351232:=by
   have h1:=hsz _ _ rfl;have hb:Try.prog.bytesOf 30=64:=by kernel_rfl
   rw [hb] at h1;simp only [List.length_map,List.length_range,reachBytes] at h1;omega
  have each:∀i,i<m→∃e:ItemM,e.good∧∀j u,(itemCells e)[j]?=some u→W.cell? (a.add (i * 8+j))=some u:=by
   intro i him;obtain ⟨cs',hc',ht'⟩:=hi i him;rw [hC] at hc';obtain ⟨_,hcl,hat⟩:=World.cells?_some hc';obtain ⟨e,rfl,h64⟩:=view_itemC hcl ht';have aa:∀j,(a.add (i * 8)).add j=a.add (i * 8+j):=fun j=>by
    unfold Addr.add;by_cases hi0:i * 8=0 <;> by_cases hj:j=0 <;> simp [hi0,hj,Nat.add_assoc]
   refine ⟨e,h64,fun j u hj=>?_⟩;have hj8:j<8:=(List.getElem?_eq_some_iff.1 hj).1;have h4:=hat j hj8;rw [aa] at h4;rw [h4,hj]
  have each':∀i,∃e:ItemM,i<m→e.good∧∀j u,(itemCells e)[j]?=some u→W.cell? (a.add (i * 8+j))=some u:=fun i=>by
   by_cases him:i<m
   ·obtain ⟨c,hc⟩:=each i him; exact ⟨c,fun _=>hc⟩
   ·exact ⟨noItem,fun h=>absurd h him⟩
  have hlen:((List.range len0).map fun i=>(each' i).choose).length=len0:=by simp
  refine ⟨(List.range len0).map fun i=>(each' i).choose,by rw [hlen]; exact hle,?_,some a,m,by rw [hlen],by rw [hlen]; exact hl,fun i hi'=>?_⟩
  ·intro e he
   obtain ⟨i,hir,rfl⟩:=List.mem_map.1 he;exact ((each' i).choose_spec (by have:=List.mem_range.1 hir; omega)).1
  ·rw [hlen] at hi'
   have hg:((List.range len0).map fun i=>(each' i).choose).getD i noItem=(each' i).choose:=by
    simp [List.getD_eq_getElem?_getD,hi']
   rw [hg];generalize hch:(each' i).choose=ch;have hsp:=(each' i).choose_spec (by omega);rw [hch] at hsp;have d0:=((each' 0).choose_spec (by omega)).2 0 _ rfl;clear hg hch;obtain ⟨b,off,sp⟩:=a;have hsp2:sp=none:=by simpa [Addr.add] using World.cell?_spot d0
   subst hsp2;rw [add_plain] at d0;have h6:∀j u,(itemCells ch)[j]?=some u→W.cell? ⟨b,off+i * 8+j,none⟩=some u:=fun j u hj=>by
    have h7:=hsp.2 j u hj;rw [add_plain] at h7;rw [Nat.add_assoc];exact h7
   exact ⟨b,off,rfl,by simpa using World.block_lt_of_cell? W _ d0,h6 0 _ rfl,h6 1 _ rfl,h6 2 _ rfl,h6 3 _ rfl,h6 4 _ rfl,h6 5 _ rfl,h6 6 _ rfl,h6 7 _ rfl⟩
end
abbrev Clk:=Nat→Int
def clkL (c:Clk):List Value:=[.int .i64 (c 0),.int .i64 (c 1),.int .i64 (c 2),.int .i64 (c 3),.int .i64 (c 4),.int .i64 (c 5),.int .i64 (c 6),.int .i64 (c 7)]
def clkV (c:Clk):Value:=.agg #[.int .i64 (c 0),.int .i64 (c 1),.int .i64 (c 2),.int .i64 (c 3),.int .i64 (c 4),.int .i64 (c 5),.int .i64 (c 6),.int .i64 (c 7)]
structure HbS where
 own:Nat→Clk
 words:Int→Clk
def hb0:HbS:=⟨fun _ _=>0,fun _ _=>0⟩
def incC (c:Clk) (t:Nat):Clk:=fun i=>if i=t then c i+1 else c i
def maxC (a b:Clk):Clk:=fun i=>max (a i) (b i)
def updN (f:Nat→Clk) (t:Nat) (c:Clk):Nat→Clk:=fun i=>if i=t then c else f i
def updI (f:Int→Clk) (a:Int) (c:Clk):Int→Clk:=fun i=>if i=a then c else f i
def rdB (x:ItemM):Bool:=x.acc.kind == 1 || x.acc.kind == 3 || x.acc.kind == 4
def wrB (x:ItemM):Bool:=x.acc.kind == 2 || (x.acc.kind == 3 && x.ok)
def nowE (s:HbS) (x:ItemM):Clk:=if rdB x then maxC (incC (s.own x.thr.toNat) x.thr.toNat) (s.words x.acc.addr) else incC (s.own x.thr.toNat) x.thr.toNat
def hbStep (s:HbS) (x:ItemM):HbS:=⟨updN s.own x.thr.toNat (nowE s x),if wrB x then updI s.words x.acc.addr (nowE s x) else s.words⟩
def hbAll (l:List ItemM):HbS:=l.foldl hbStep hb0
def clkAt (l:List ItemM) (i:Nat):Clk:=nowE (hbAll (l.take i)) (l.getD i noItem)
theorem atomic_rd {x:ItemM} (h:atomicB x.acc.kind=true):readsE x=rdB x∧changesE x=wrB x:=by
 have hk:x.acc.kind=1∨x.acc.kind=2∨x.acc.kind=3∨x.acc.kind=4:=by
  unfold atomicB at h;simp only [Bool.or_eq_true,Bool.and_eq_true,beq_iff_eq,decide_eq_true_eq] at h;omega
 unfold readsE rdB changesE wrB writesB;rcases hk with h | h | h | h <;> rw [h] <;> simp
theorem atomic_no {x:ItemM} (h:atomicB x.acc.kind=false):rdB x=false∧wrB x=false:=by
 have hk:x.acc.kind≠1∧x.acc.kind≠2∧x.acc.kind≠3∧x.acc.kind≠4:=by
  refine ⟨?_,?_,?_,?_⟩ <;> (intro e; rw [e] at h; revert h; decide)
 unfold rdB wrB;simp [hk.1,hk.2.1,hk.2.2.1,hk.2.2.2]
theorem hbAll_snoc (l:List ItemM) (x:ItemM):hbAll (l ++ [x])=hbStep (hbAll l) x:=by unfold hbAll; rw [List.foldl_append]; rfl
theorem hbAll_succ {l:List ItemM} {i:Nat} (hi:i<l.length):hbAll (l.take (i+1))=hbStep (hbAll (l.take i)) (l.getD i noItem):=by
 rw [← hbAll_snoc,List.take_add_one];congr 2;rw [List.getD_eq_getElem?_getD,List.getElem?_eq_getElem hi];rfl
def hbOk (s:HbS) (n:Int):Prop:=(∀t i,0≤s.own t i∧s.own t i≤n)∧∀a i,0≤s.words a i∧s.words a i≤n
theorem nowE_ok {s:HbS} {n:Int} (h:hbOk s n) (x:ItemM) (i:Nat):0≤nowE s x i∧nowE s x i≤n+1:=by
 have h1:=h.1 x.thr.toNat i;have h2:=h.2 x.acc.addr i;unfold nowE;split
 ·unfold maxC incC
  split <;> omega
 ·unfold incC
  split <;> omega
theorem hbStep_ok {s:HbS} {n:Int} (h:hbOk s n) (x:ItemM):hbOk (hbStep s x) (n+1):=by
 refine ⟨fun t i=>?_,fun a i=>?_⟩
 ·show 0≤updN s.own x.thr.toNat (nowE s x) t i∧updN s.own x.thr.toNat (nowE s x) t i≤n+1
  unfold updN;split
  ·exact nowE_ok h x i
  ·have:=h.1 t i; omega
 ·have e:(hbStep s x).words=if wrB x then updI s.words x.acc.addr (nowE s x) else s.words:=rfl
  rw [e];have:=h.2 a i;split
  ·unfold updI
   split
   ·exact nowE_ok h x i
   ·omega
  ·omega
theorem hbAll_ok (l:List ItemM):hbOk (hbAll l) l.length:=by
 have:∀(k:Nat),k≤l.length→hbOk (hbAll (l.take k)) k:=fun k=>by
  induction k with
  | zero=>intro _; exact ⟨fun _ _=>⟨Int.le_refl _,Int.le_refl _⟩,fun _ _=>⟨Int.le_refl _,Int.le_refl _⟩⟩
  | succ k ih=>
   intro hk;rw [hbAll_succ (by omega)];have:=hbStep_ok (ih (by omega)) (l.getD k noItem);exact_mod_cast this
 have h:=this l.length (Nat.le_refl _);rwa [List.take_length] at h
theorem row_below3k {a b:World} {j:Nat} {ob:Obj} (hb:Below a.heap.size a b) (h:a.heap[j]?=some ob):b.heap[j]?=some ob:=(hb.block j (Array.getElem?_eq_some_iff.1 h).1).trans h
theorem three_newk (w:World) (a b c:Obj):∃W,((w.alloc a).alloc b).alloc c=W∧Hid (Below w.heap.size w W)∧Hid (W.heap[w.heap.size]?=some a)∧Hid (W.heap[w.heap.size+1]?=some b)∧Hid (W.heap[w.heap.size+2]?=some c)∧w.heap.size+3=W.heap.size:=by
 refine ⟨_,rfl,below_new (below_new (below_new (Below.refl w.heap.size w) _) _) _,Lib.hid ?_,Lib.hid ?_,Lib.hid ?_,by simp⟩
 ·rw [heap_alloc_old _ _ (by simp <;> omega),heap_alloc_old _ _ (by simp <;> omega),heap_alloc_new]
 ·rw [heap_alloc_old _ _ (by simp <;> omega)]
  have:=heap_alloc_new (w.alloc a) b;simpa using this
 ·have:=heap_alloc_new ((w.alloc a).alloc b) c
  simpa using this
def jnC (c d:Clk) (k:Nat):Clk:=fun i=>if i<k then max (c i) (d i) else c i
theorem rowc8k {w:World} {g:Nat} {T:TypeId} {c:Clk} (h:w.heap[g]?=some (.cells (clkL c).toArray T (0,0))):w.cell? ⟨g,0,none⟩=some (.int .i64 (c 0))∧w.cell? ⟨g,1,none⟩=some (.int .i64 (c 1))∧w.cell? ⟨g,2,none⟩=some (.int .i64 (c 2))∧w.cell? ⟨g,3,none⟩=some (.int .i64 (c 3))∧w.cell? ⟨g,4,none⟩=some (.int .i64 (c 4))∧w.cell? ⟨g,5,none⟩=some (.int .i64 (c 5))∧w.cell? ⟨g,6,none⟩=some (.int .i64 (c 6))∧w.cell? ⟨g,7,none⟩=some (.int .i64 (c 7)):=
 ⟨cell_of_row _ _ 0 _ _ _ h,cell_of_row _ _ 1 _ _ _ h,cell_of_row _ _ 2 _ _ _ h,cell_of_row _ _ 3 _ _ _ h,cell_of_row _ _ 4 _ _ _ h,cell_of_row _ _ 5 _ _ _ h,cell_of_row _ _ 6 _ _ _ h,cell_of_row _ _ 7 _ _ _ h⟩
theorem mx_eq (a b:Int):(if a<b then b else a)=max a b:=by split <;> omega
theorem ix_clk0 (d:Clk) (w:World):(Instr.index 54 (.agg #[.int .i64 (d 0),.int .i64 (d 1),.int .i64 (d 2),.int .i64 (d 3),.int .i64 (d 4),.int .i64 (d 5),.int .i64 (d 6),.int .i64 (d 7)]) (.int .i64 0)).run Try.prog w=.ok (.int .i64 (d 0)) w:=by kernel_rfl
theorem ix_clk1 (d:Clk) (w:World):(Instr.index 54 (.agg #[.int .i64 (d 0),.int .i64 (d 1),.int .i64 (d 2),.int .i64 (d 3),.int .i64 (d 4),.int .i64 (d 5),.int .i64 (d 6),.int .i64 (d 7)]) (.int .i64 1)).run Try.prog w=.ok (.int .i64 (d 1)) w:=by kernel_rfl
theorem ix_clk2 (d:Clk) (w:World):(Instr.index 54 (.agg #[.int .i64 (d 0),.int .i64 (d 1),.int .i64 (d 2),.int .i64 (d 3),.int .i64 (d 4),.int .i64 (d 5),.int .i64 (d 6),.int .i64 (d 7)]) (.int .i64 2)).run Try.prog w=.ok (.int .i64 (d 2)) w:=by kernel_rfl
theorem ix_clk3 (d:Clk) (w:World):(Instr.index 54 (.agg #[.int .i64 (d 0),.int .i64 (d 1),.int .i64 (d 2),.int .i64 (d 3),.int .i64 (d 4),.int .i64 (d 5),.int .i64 (d 6),.int .i64 (d 7)]) (.int .i64 3)).run Try.prog w=.ok (.int .i64 (d 3)) w:=by kernel_rfl
theorem ix_clk4 (d:Clk) (w:World):(Instr.index 54 (.agg #[.int .i64 (d 0),.int .i64 (d 1),.int .i64 (d 2),.int .i64 (d 3),.int .i64 (d 4),.int .i64 (d 5),.int .i64 (d 6),.int .i64 (d 7)]) (.int .i64 4)).run Try.prog w=.ok (.int .i64 (d 4)) w:=by kernel_rfl
theorem ix_clk5 (d:Clk) (w:World):(Instr.index 54 (.agg #[.int .i64 (d 0),.int .i64 (d 1),.int .i64 (d 2),.int .i64 (d 3),.int .i64 (d 4),.int .i64 (d 5),.int .i64 (d 6),.int .i64 (d 7)]) (.int .i64 5)).run Try.prog w=.ok (.int .i64 (d 5)) w:=by kernel_rfl
theorem ix_clk6 (d:Clk) (w:World):(Instr.index 54 (.agg #[.int .i64 (d 0),.int .i64 (d 1),.int .i64 (d 2),.int .i64 (d 3),.int .i64 (d 4),.int .i64 (d 5),.int .i64 (d 6),.int .i64 (d 7)]) (.int .i64 6)).run Try.prog w=.ok (.int .i64 (d 6)) w:=by kernel_rfl
theorem ix_clk7 (d:Clk) (w:World):(Instr.index 54 (.agg #[.int .i64 (d 0),.int .i64 (d 1),.int .i64 (d 2),.int .i64 (d 3),.int .i64 (d 4),.int .i64 (d 5),.int .i64 (d 6),.int .i64 (d 7)]) (.int .i64 7)).run Try.prog w=.ok (.int .i64 (d 7)) w:=by kernel_rfl
set_option maxRecDepth 100000 in
set_option maxHeartbeats 16000000 in
theorem join_any (c d:Clk) (w:World):Calls Try.prog 47 #[clkV c,clkV d] w fun e w'=>e=.returned (clkV (maxC c d))∧Below w.heap.size w w':=by
 obtain ⟨W,hW,HB,R0,R1,R2,hz⟩:=three_newk w (.cells #[.int .i64 (c 0),.int .i64 (c 1),.int .i64 (c 2),.int .i64 (c 3),.int .i64 (c 4),.int .i64 (c 5),.int .i64 (c 6),.int .i64 (c 7)] 54) (.cells #[.int .i64 (d 0),.int .i64 (d 1),.int .i64 (d 2),.int .i64 (d 3),.int .i64 (d 4),.int .i64 (d 5),.int .i64 (d 6),.int .i64 (d 7)] 54) (.cells #[.int .i64 0,.int .i64 0,.int .i64 0,.int .i64 0,.int .i64 0,.int .i64 0,.int .i64 0,.int .i64 0] 54);have HW:=Lib.hid hW;clear hW;unfold clkV;go_enter Try.func47,Try.ntmps47;go_upto_region 1 with fail
 rw [HW.out];clear HW;obtain ⟨y0,y1,y2,y3,y4,y5,y6,y7⟩:=rowc8k (c:=d) R1.out;go_wp2_with fail;clear y0 y1 y2 y3 y4 y5 y6 y7;have hwz:w.heap.size<W.heap.size:=by omega
 go_loopw [8] (fun u8 wr=>∃k:Nat,u8=.int .i64 (k:Int)∧k≤8∧Hid (Below w.heap.size w wr)∧Hid (wr.heap[w.heap.size]?=some (.cells (clkL (jnC c d k)).toArray 54 (0,0)))∧Hid (wr.heap[w.heap.size+2]?=some (.cells #[.int .i64 0,.int .i64 0,.int .i64 0,.int .i64 0,.int .i64 0,.int .i64 0,.int .i64 0,.int .i64 0] 54 (0,0)))) (fun u8 _=>8 - (intOf u8).toNat)
 case atStart=>exact ⟨0,rfl,by omega,HB,by
  have e:jnC c d 0=c:=by funext i; unfold jnC; simp
  show _=_;rw [e];exact R0.out,R2⟩
 case round=>
  clear HB R0 R1 R2;obtain ⟨k,rfl,hk,HBk,Rk,R2⟩:=hrel;obtain ⟨wo,rfl⟩:∃wo:World,wo=wr:=⟨_,rfl⟩;have fz:=fun j=>frozen_of_row wo w.heap.size j _ _ Rk.out;by_cases hlt:k<8
  ·obtain ⟨y0,y1,y2,y3,y4,y5,y6,y7⟩:=rowc8k Rk.out
   rcases (show k=0∨k=1∨k=2∨k=3∨k=4∨k=5∨k=6∨k=7 by omega) with rfl | rfl | rfl | rfl | rfl | rfl | rfl | rfl
   ·have hix:=fun w=>ix_clk0 d w
    have e:=heap_setCell_same wo w.heap.size 0 _ _ (.int .i64 (if jnC c d 0 0<d 0 then d 0 else jnC c d 0 0)) Rk.out;have RK:Hid ((wo.setCell ⟨w.heap.size,0,none⟩ (.int .i64 (if jnC c d 0 0<d 0 then d 0 else jnC c d 0 0))).heap[w.heap.size]?=some (.cells (clkL (jnC c d 1)).toArray 54 (0,0))):=by
     show _=_;rw [e,mx_eq];simp [clkL,jnC]
    have R3:=Lib.hid ((heap_setCell_other wo ⟨w.heap.size,0,none⟩ (w.heap.size+2) (.int .i64 (if jnC c d 0 0<d 0 then d 0 else jnC c d 0 0)) (by show w.heap.size+2≠w.heap.size; omega)).trans R2.out);have HB2:=Lib.hid (HBk.out.setCell (p:=⟨w.heap.size,0,none⟩) (Nat.le_refl _) (.int .i64 (if jnC c d 0 0<d 0 then d 0 else jnC c d 0 0)));clear e;go_wp2_with fail;go_roundw
    case rel=>exact ⟨1,rfl,by omega,HB2,RK,R3⟩
    case measure=>simp [intOf]
   ·have hix:=fun w=>ix_clk1 d w
    have e:=heap_setCell_same wo w.heap.size 1 _ _ (.int .i64 (if jnC c d 1 1<d 1 then d 1 else jnC c d 1 1)) Rk.out;have RK:Hid ((wo.setCell ⟨w.heap.size,1,none⟩ (.int .i64 (if jnC c d 1 1<d 1 then d 1 else jnC c d 1 1))).heap[w.heap.size]?=some (.cells (clkL (jnC c d 2)).toArray 54 (0,0))):=by
     show _=_;rw [e,mx_eq];simp [clkL,jnC]
    have R3:=Lib.hid ((heap_setCell_other wo ⟨w.heap.size,1,none⟩ (w.heap.size+2) (.int .i64 (if jnC c d 1 1<d 1 then d 1 else jnC c d 1 1)) (by show w.heap.size+2≠w.heap.size; omega)).trans R2.out);have HB2:=Lib.hid (HBk.out.setCell (p:=⟨w.heap.size,1,none⟩) (Nat.le_refl _) (.int .i64 (if jnC c d 1 1<d 1 then d 1 else jnC c d 1 1)));clear e;go_wp2_with fail;go_roundw
    case rel=>exact ⟨2,rfl,by omega,HB2,RK,R3⟩
    case measure=>simp [intOf]
   ·have hix:=fun w=>ix_clk2 d w
    have e:=heap_setCell_same wo w.heap.size 2 _ _ (.int .i64 (if jnC c d 2 2<d 2 then d 2 else jnC c d 2 2)) Rk.out;have RK:Hid ((wo.setCell ⟨w.heap.size,2,none⟩ (.int .i64 (if jnC c d 2 2<d 2 then d 2 else jnC c d 2 2))).heap[w.heap.size]?=some (.cells (clkL (jnC c d 3)).toArray 54 (0,0))):=by
     show _=_;rw [e,mx_eq];simp [clkL,jnC]
    have R3:=Lib.hid ((heap_setCell_other wo ⟨w.heap.size,2,none⟩ (w.heap.size+2) (.int .i64 (if jnC c d 2 2<d 2 then d 2 else jnC c d 2 2)) (by show w.heap.size+2≠w.heap.size; omega)).trans R2.out);have HB2:=Lib.hid (HBk.out.setCell (p:=⟨w.heap.size,2,none⟩) (Nat.le_refl _) (.int .i64 (if jnC c d 2 2<d 2 then d 2 else jnC c d 2 2)));clear e;go_wp2_with fail;go_roundw
    case rel=>exact ⟨3,rfl,by omega,HB2,RK,R3⟩
    case measure=>simp [intOf]
   ·have hix:=fun w=>ix_clk3 d w
    have e:=heap_setCell_same wo w.heap.size 3 _ _ (.int .i64 (if jnC c d 3 3<d 3 then d 3 else jnC c d 3 3)) Rk.out;have RK:Hid ((wo.setCell ⟨w.heap.size,3,none⟩ (.int .i64 (if jnC c d 3 3<d 3 then d 3 else jnC c d 3 3))).heap[w.heap.size]?=some (.cells (clkL (jnC c d 4)).toArray 54 (0,0))):=by
     show _=_;rw [e,mx_eq];simp [clkL,jnC]
    have R3:=Lib.hid ((heap_setCell_other wo ⟨w.heap.size,3,none⟩ (w.heap.size+2) (.int .i64 (if jnC c d 3 3<d 3 then d 3 else jnC c d 3 3)) (by show w.heap.size+2≠w.heap.size; omega)).trans R2.out);have HB2:=Lib.hid (HBk.out.setCell (p:=⟨w.heap.size,3,none⟩) (Nat.le_refl _) (.int .i64 (if jnC c d 3 3<d 3 then d 3 else jnC c d 3 3)));clear e;go_wp2_with fail;go_roundw
    case rel=>exact ⟨4,rfl,by omega,HB2,RK,R3⟩
    case measure=>simp [intOf]
   ·have hix:=fun w=>ix_clk4 d w
    have e:=heap_setCell_same wo w.heap.size 4 _ _ (.int .i64 (if jnC c d 4 4<d 4 then d 4 else jnC c d 4 4)) Rk.out;have RK:Hid ((wo.setCell ⟨w.heap.size,4,none⟩ (.int .i64 (if jnC c d 4 4<d 4 then d 4 else jnC c d 4 4))).heap[w.heap.size]?=some (.cells (clkL (jnC c d 5)).toArray 54 (0,0))):=by
     show _=_;rw [e,mx_eq];simp [clkL,jnC]
    have R3:=Lib.hid ((heap_setCell_other wo ⟨w.heap.size,4,none⟩ (w.heap.size+2) (.int .i64 (if jnC c d 4 4<d 4 then d 4 else jnC c d 4 4)) (by show w.heap.size+2≠w.heap.size; omega)).trans R2.out);have HB2:=Lib.hid (HBk.out.setCell (p:=⟨w.heap.size,4,none⟩) (Nat.le_refl _) (.int .i64 (if jnC c d 4 4<d 4 then d 4 else jnC c d 4 4)));clear e;go_wp2_with fail;go_roundw
    case rel=>exact ⟨5,rfl,by omega,HB2,RK,R3⟩
    case measure=>simp [intOf]
   ·have hix:=fun w=>ix_clk5 d w
    have e:=heap_setCell_same wo w.heap.size 5 _ _ (.int .i64 (if jnC c d 5 5<d 5 then d 5 else jnC c d 5 5)) Rk.out;have RK:Hid ((wo.setCell ⟨w.heap.size,5,none⟩ (.int .i64 (if jnC c d 5 5<d 5 then d 5 else jnC c d 5 5))).heap[w.heap.size]?=some (.cells (clkL (jnC c d 6)).toArray 54 (0,0))):=by
     show _=_;rw [e,mx_eq];simp [clkL,jnC]
    have R3:=Lib.hid ((heap_setCell_other wo ⟨w.heap.size,5,none⟩ (w.heap.size+2) (.int .i64 (if jnC c d 5 5<d 5 then d 5 else jnC c d 5 5)) (by show w.heap.size+2≠w.heap.size; omega)).trans R2.out);have HB2:=Lib.hid (HBk.out.setCell (p:=⟨w.heap.size,5,none⟩) (Nat.le_refl _) (.int .i64 (if jnC c d 5 5<d 5 then d 5 else jnC c d 5 5)));clear e;go_wp2_with fail;go_roundw
    case rel=>exact ⟨6,rfl,by omega,HB2,RK,R3⟩
    case measure=>simp [intOf]
   ·have hix:=fun w=>ix_clk6 d w
    have e:=heap_setCell_same wo w.heap.size 6 _ _ (.int .i64 (if jnC c d 6 6<d 6 then d 6 else jnC c d 6 6)) Rk.out;have RK:Hid ((wo.setCell ⟨w.heap.size,6,none⟩ (.int .i64 (if jnC c d 6 6<d 6 then d 6 else jnC c d 6 6))).heap[w.heap.size]?=some (.cells (clkL (jnC c d 7)).toArray 54 (0,0))):=by
     show _=_;rw [e,mx_eq];simp [clkL,jnC]
    have R3:=Lib.hid ((heap_setCell_other wo ⟨w.heap.size,6,none⟩ (w.heap.size+2) (.int .i64 (if jnC c d 6 6<d 6 then d 6 else jnC c d 6 6)) (by show w.heap.size+2≠w.heap.size; omega)).trans R2.out);have HB2:=Lib.hid (HBk.out.setCell (p:=⟨w.heap.size,6,none⟩) (Nat.le_refl _) (.int .i64 (if jnC c d 6 6<d 6 then d 6 else jnC c d 6 6)));clear e;go_wp2_with fail;go_roundw
    case rel=>exact ⟨7,rfl,by omega,HB2,RK,R3⟩
    case measure=>simp [intOf]
   ·have hix:=fun w=>ix_clk7 d w
    have e:=heap_setCell_same wo w.heap.size 7 _ _ (.int .i64 (if jnC c d 7 7<d 7 then d 7 else jnC c d 7 7)) Rk.out;have RK:Hid ((wo.setCell ⟨w.heap.size,7,none⟩ (.int .i64 (if jnC c d 7 7<d 7 then d 7 else jnC c d 7 7))).heap[w.heap.size]?=some (.cells (clkL (jnC c d 8)).toArray 54 (0,0))):=by
     show _=_;rw [e,mx_eq];simp [clkL,jnC]
    have R3:=Lib.hid ((heap_setCell_other wo ⟨w.heap.size,7,none⟩ (w.heap.size+2) (.int .i64 (if jnC c d 7 7<d 7 then d 7 else jnC c d 7 7)) (by show w.heap.size+2≠w.heap.size; omega)).trans R2.out);have HB2:=Lib.hid (HBk.out.setCell (p:=⟨w.heap.size,7,none⟩) (Nat.le_refl _) (.int .i64 (if jnC c d 7 7<d 7 then d 7 else jnC c d 7 7)));clear e;go_wp2_with fail;go_roundw
    case rel=>exact ⟨8,rfl,by omega,HB2,RK,R3⟩
    case measure=>simp [intOf]
  ·have h8:k=8:=by omega
   subst h8;have hge:¬((8:Nat):Int)<8:=by omega
   have e:clkL (jnC c d 8)=clkL (maxC c d):=by simp [clkL,jnC,maxC]
   rw [e] at Rk;obtain ⟨y0,y1,y2,y3,y4,y5,y6,y7⟩:=rowc8k Rk.out;go_wp2_with (refine wpList_store_row rfl 54 _ _ rfl (w.heap.size+2) _ rfl rfl 54 _ R2.out (by kernel_rfl) rfl (by simp [Value.oneCell']) ?_);refine bodyPost_ret (v:=.agg #[.int .i64 (maxC c d 0),.int .i64 (maxC c d 1),.int .i64 (maxC c d 2),.int .i64 (maxC c d 3),.int .i64 (maxC c d 4),.int .i64 (maxC c d 5),.int .i64 (maxC c d 6),.int .i64 (maxC c d 7)]) (results_cell_row Try.results47 _ _ (w.heap.size+2) 54 _ (0,0) _ rfl (setRow_heap _ _ _ _ 54 (0,0) R2.out) Try.underlying54 rfl (by kernel_rfl)) rfl ?_;exact ⟨rfl,row_below HBk.out (by omega) _⟩
end Go.Proofs.Ytfbdehcibgdagaa
