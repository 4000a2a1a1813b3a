import Derived.WalkKit
import Derived.WalkLawsBesides
import Derived.WalkSpells
import Derived.ProofKit
import Derived.Lib.Hide
import Derived.LoopTactic
import Derived.Test.YtefnjhnlegjojaaRows
import Derived.SizedLaws
import Derived.OpenShut
import Derived.RowKit
import Derived.Deep.QuietTactic
import Derived.BigQuiet
import Derived.RegionTactic
import Derived.BigRegion
set_option linter.unusedVariables false
set_option linter.unusedSimpArgs false
namespace Go.Proofs.Ytefnjhnlegjojaa
open Go.ChangeShapes Go.WideShapes Go.ChangeAt Go.RowKit
set_option maxRecDepth 100000
theorem ret_i64 {a b:Int} (h:a=b):Ending.returned (.int .i64 a)=.returned (.int .i64 b):=by rw [h]
theorem ret_bool {a b:Bool} (h:a=b):Ending.returned (.bool a)=.returned (.bool b):=by rw [h]
def SlI (w:World) (k:IntKind) (v:Value) (l:List Int):Prop:=
 l.length≤140737488351232∧(∀x∈l,x=k.wrap x)∧∃a cap,v=.slice a l.length cap∧l.length≤cap∧
  ∀t,t<l.length→∃b off,a=some ⟨b,off,none⟩∧b<w.heap.size∧w.cell? ⟨b,off+t,none⟩=some (.int k (l.getD t 0))
theorem SlI.below {w w':World} {k:IntKind} {v:Value} {l:List Int} (h:SlI w k v l) (hb:Below w.heap.size w w'):SlI w' k v l:=by
 obtain ⟨h1,h2,a,cap,h3,h4,h5⟩:=h;refine ⟨h1,h2,a,cap,h3,h4,fun t ht=>?_⟩;obtain ⟨b,off,e,hlt,hc⟩:=h5 t ht;exact ⟨b,off,e,Nat.lt_of_lt_of_le hlt hb.size,(hb.cell (p:=⟨b,off+t,none⟩) hlt).trans hc⟩
theorem SlI.drew {w:World} {k:IntKind} {v:Value} {l:List Int} (h:SlI w k v l) (n:Nat):SlI (w.drewN n) k v l:=h
theorem SlI.open {w:World} {k:IntKind} {v:Value} {l:List Int} (h:SlI w k v l) (hne:l≠[]) :
  ∃b off cap,v=.slice (some ⟨b,off,none⟩) l.length cap∧l.length≤cap∧b<w.heap.size∧∀t,t<l.length→w.cell? ⟨b,off+t,none⟩=some (.int k (l.getD t 0)):=by
 obtain ⟨_,_,a,cap,rfl,h4,h5⟩:=h;obtain ⟨b,off,rfl,hlt,_⟩:=h5 0 (List.length_pos_iff.2 hne);refine ⟨b,off,cap,rfl,h4,hlt,fun t ht=>?_⟩;obtain ⟨b',off',e,_,hc⟩:=h5 t ht;simp only [Option.some.injEq,Addr.mk.injEq] at e;obtain ⟨rfl,rfl,_⟩:=e;exact hc
theorem SlI.len {w:World} {k:IntKind} {v:Value} {l:List Int} (h:SlI w k v l):∃a cap,v=.slice a l.length cap∧l.length≤cap:=by
 obtain ⟨_,_,a,cap,rfl,h4,h5⟩:=h;exact ⟨a,cap,rfl,h4⟩
theorem SlI.nil (w:World) (k:IntKind):SlI w k (.slice none 0 0) []:=
 ⟨by simp,by simp,none,0,rfl,Nat.le_refl _,fun t ht=>by simp at ht⟩
def OwnI (w:World) (base:Nat) (e:TypeId) (k:IntKind) (v:Value) (l:List Int):Prop:=
 w.ownsRow base e 1 v l.length (l.map (.int k))
theorem OwnI.shape {w:World} {base:Nat} {e:TypeId} {k:IntKind} {v:Value} {l:List Int} (h:OwnI w base e k v l) :
  (v=.slice none 0 0∧l=[])∨∃g cap,v=.slice (some ⟨g,0,none⟩) l.length cap∧base≤g∧g<w.heap.size∧l.length≤cap∧l.length≤maxLen:=by
 rcases h.2 with ⟨rfl,h2⟩ | ⟨g,cap,cur,rfl,h3,h4,h5,h6,_,_⟩
 ·exact .inl ⟨rfl,List.length_eq_zero_iff.1 h2⟩
 ·refine .inr ⟨g,cap,rfl,h3,?_,h5,by omega⟩
  exact (Array.getElem?_eq_some_iff.1 h4).1
theorem OwnI.cell {w:World} {base:Nat} {e:TypeId} {k:IntKind} {g n cap:Nat} {l:List Int} (h:OwnI w base e k (.slice (some ⟨g,0,none⟩) n cap) l) (i:Nat) (hi:i<l.length) :
  w.cell? ⟨g,i,none⟩=some (.int k (l.getD i 0))∧w.frozen? ⟨g,i,none⟩=false:=by
 have hn:n=l.length:=by
  rcases h.2 with ⟨h1,h2⟩ | ⟨g,cap,cur,h1,_⟩
  ·simp at h1
  ·simp only [Value.slice.injEq] at h1; exact h1.2.1
 subst hn;refine ⟨?_,h.frozenAt i⟩;rw [World.ownsRow.cellAt h i (by omega)];simp [List.getD_eq_getElem?_getD,hi]
theorem OwnI.store {w:World} {base:Nat} {e:TypeId} {k:IntKind} {g n cap:Nat} {l:List Int} (h:OwnI w base e k (.slice (some ⟨g,0,none⟩) n cap) l) (i:Nat) (x:Int) (hn:n=l.length) :
  OwnI (w.setCell ⟨g,i,none⟩ (.int k x)) base e k (.slice (some ⟨g,0,none⟩) n cap) (l.set i x):=by
 subst hn;have:=(World.ownsRow.stored h i (.int k x)).1;unfold OwnI;rw [List.length_set,List.map_set];exact this
theorem OwnI.drew {w:World} {base:Nat} {e:TypeId} {k:IntKind} {v:Value} {l:List Int} (h:OwnI w base e k v l) (n:Nat):OwnI (w.drewN n) base e k v l:=h
theorem OwnI.read {w:World} {base:Nat} {e:TypeId} {k:IntKind} {v:Value} {l:List Int} (h:OwnI w base e k v l) (hl:l.length≤140737488351232) (hw:∀x∈l,x=k.wrap x):SlI w k v l:=by
 rcases h.shape with ⟨rfl,rfl⟩ | ⟨g,cap,rfl,h1,h2,h3,h4⟩
 ·exact SlI.nil w k
 ·refine ⟨hl,hw,some ⟨g,0,none⟩,cap,rfl,h3,fun t ht=>⟨g,0,rfl,h2,?_⟩⟩
  rw [Nat.zero_add]; exact (h.cell t ht).1
theorem OwnI.kept {w w':World} {base:Nat} {e:TypeId} {k:IntKind} {v:Value} {l:List Int} {row:Option Nat} (h:OwnI w base e k v l) (hg:w.grownBy w' row) (hne:v.ownBlock=none∨v.ownBlock≠row):OwnI w' base e k v l:=World.ownsRow.kept h hg hne
theorem OwnI.below {w w':World} {base:Nat} {e:TypeId} {k:IntKind} {v:Value} {l:List Int} (h:OwnI w base e k v l) (hb:Below w.heap.size w w'):OwnI w' base e k v l:=by
 refine h.kept (row:=none) ⟨hb.os,hb.tape,hb.output,hb.size,fun j hj _=>hb.block j hj⟩ ?_;cases hv:v.ownBlock with
 | none=>exact .inl rfl
 | some x=>exact .inr (by simp)
theorem OwnI.alloc {w:World} {base:Nat} {e:TypeId} {k:IntKind} {v:Value} {l:List Int} (h:OwnI w base e k v l) (o:Obj):OwnI (w.alloc o) base e k v l:=World.ownsRow.alloc h o
theorem OwnI.ne {w:World} {base:Nat} {e:TypeId} {k:IntKind} {v:Value} {l:List Int} (h:OwnI w base e k v l) {g:Nat} (hg:g<base):v.ownBlock=none∨v.ownBlock≠some g:=by
 rcases h.shape with ⟨rfl,_⟩ | ⟨g',cap,rfl,h1,_⟩
 ·exact .inl rfl
 ·refine .inr ?_
  simp only [Value.ownBlock,ne_eq,Option.some.injEq];omega
theorem OwnI.nil (w:World) (base:Nat) (e:TypeId) (k:IntKind):OwnI w base e k (.slice none 0 0) []:=World.ownsRow_nil w base e 1
theorem grownBy_refl (a:World) (row:Option Nat):a.grownBy a row:=⟨rfl,rfl,rfl,Nat.le_refl _,fun _ _ _=>rfl⟩
theorem OwnI.own_ge {w:World} {base:Nat} {e:TypeId} {k:IntKind} {v:Value} {l:List Int} (h:OwnI w base e k v l):∀j,v.ownBlock=some j→base≤j:=fun j hj=>(World.ownsRow.lt h j hj).1
def OwnB (w:World) (base:Nat) (e:TypeId) (v:Value) (l:List Bool):Prop:=w.ownsRow base e 1 v l.length (l.map Value.bool)
theorem OwnB.cell {w:World} {base:Nat} {e:TypeId} {g n cap:Nat} {l:List Bool} (h:OwnB w base e (.slice (some ⟨g,0,none⟩) n cap) l) (i:Nat) (hi:i<l.length) :
  w.cell? ⟨g,i,none⟩=some (.bool (l.getD i false))∧w.frozen? ⟨g,i,none⟩=false:=by
 have hn:n=l.length:=by
  rcases h.2 with ⟨h1,h2⟩ | ⟨g,cap,cur,h1,_⟩
  ·simp at h1
  ·simp only [Value.slice.injEq] at h1; exact h1.2.1
 subst hn;refine ⟨?_,h.frozenAt i⟩;rw [World.ownsRow.cellAt h i (by omega)];simp [List.getD_eq_getElem?_getD,hi]
theorem OwnB.store {w:World} {base:Nat} {e:TypeId} {g n cap:Nat} {l:List Bool} (h:OwnB w base e (.slice (some ⟨g,0,none⟩) n cap) l) (i:Nat) (x:Bool) (hn:n=l.length) :
  OwnB (w.setCell ⟨g,i,none⟩ (.bool x)) base e (.slice (some ⟨g,0,none⟩) n cap) (l.set i x):=by
 subst hn;have:=(World.ownsRow.stored h i (.bool x)).1;unfold OwnB;rw [List.length_set,List.map_set];exact this
theorem below_then {w a b:World} (h:Below w.heap.size w a) (hb:Below a.heap.size a b):Below w.heap.size w b:=h.trans (hb.mono h.size)
theorem below_new {w a:World} (h:Below w.heap.size w a) (o:Obj):Below w.heap.size w (a.alloc o):=h.alloc h.size o
theorem SlI.lit (w:World) (k:IntKind) (e:TypeId) (l:List Int) (hw:∀x∈l,x=k.wrap x) (hl:l.length≤140737488351232) :
  SlI (w.alloc (.cells (l.map (Value.int k)).toArray e)) k (.slice (some ⟨w.heap.size,0,none⟩) l.length l.length) l:=by
 refine ⟨hl,hw,_,_,rfl,Nat.le_refl _,fun t ht=>⟨_,0,rfl,by simp,?_⟩⟩;rw [World.cell?_alloc_at _ _ _ _ rfl,Nat.zero_add];simp [List.getD_eq_getElem?_getD,ht]
def offB (g:Nat) (v:Value):Prop:=∀a n c,v=.slice (some a) n c→n=0∨a.block≠g
theorem offB.nil (g:Nat):offB g (.slice none 0 0):=fun a n c h=>by simp at h
theorem OwnI.off {w:World} {base:Nat} {e:TypeId} {k:IntKind} {v:Value} {l:List Int} (h:OwnI w base e k v l) {g:Nat} (hg:g<base):offB g v:=by
 intro a n c e;subst e;have:=h.own_ge a.block rfl;exact .inr (by omega)
theorem SlI.grown {w w':World} {k:IntKind} {v:Value} {l:List Int} {g:Nat} (h:SlI w k v l) (hg:w.grownBy w' (some g)) (ho:offB g v):SlI w' k v l:=by
 obtain ⟨h1,h2,a,cap,rfl,h4,h5⟩:=h;refine ⟨h1,h2,a,cap,rfl,h4,fun t ht=>?_⟩;obtain ⟨b,off,rfl,hlt,hc⟩:=h5 t ht;have hb:b≠g:=(ho _ _ _ rfl).resolve_left (by omega);exact ⟨b,off,rfl,Nat.lt_of_lt_of_le hlt hg.size,(World.cell?_of_block (a:=⟨b,off+t,none⟩) (hg.block b hlt (by simpa using hb))).trans hc⟩
theorem OwnI.mono_base {w:World} {base b':Nat} {e:TypeId} {k:IntKind} {v:Value} {l:List Int} (h:OwnI w base e k v l) (hb:b'≤base):OwnI w b' e k v l:=by
 refine ⟨h.1,?_⟩;rcases h.2 with h1 | ⟨g,cap,cur,h1,h2,h3⟩
 ·exact .inl h1
 ·exact .inr ⟨g,cap,cur,h1,Nat.le_trans hb h2,h3⟩
theorem i64_ok (x:Int) (h0:-9223372036854775808≤x) (h1:x≤9223372036854775807):x=IntKind.i64.wrap x:=by
 rw [IntKind.wrap_i64]; omega
theorem own:ownKnob Try.prog.godebug=none:=by kernel_rfl
theorem Try.laidOut:laidOutB Try.prog=true:=by kernel_rfl
theorem wrap_of_wf {k:IntKind} {n:Int} (h:(Lit.int k n).wf=true):n=k.wrap n:=by
 cases k <;> simp [Lit.wf,IntKind.min,IntKind.max,IntKind.signed,IntKind.bits] at h <;> simp [IntKind.wrap,IntKind.bits,IntKind.signed] <;> omega
set_option maxRecDepth 100000 in
theorem view_sl {H:Type} {enc:TypeId × Value→H} {W:World} {t e:TypeId} {k:IntKind} {v:Value} {d:DataW H} {p:List MemPlace} (ht:Try.prog.underlying t=some (.slice e)) (he:Try.prog.underlying e=some (.int k)) (hc:Try.prog.cellsOf e=1)
  (hsz:∀elems sp,d=.slice elems sp→(elems.length+sp.length) * Try.prog.bytesOf e≤reachBytes) (hby:1≤Try.prog.bytesOf e)
  (hval:Value.okWide Try.prog W .any 0 t v) (hd:DataW.Trod enc Try.prog W 0 (fun _=>true) true t v d p):∃l,SlI W k v l:=by
 obtain ⟨a0,len,cap,rfl⟩:=okWide_slice ht hval;obtain ⟨fuel,hf⟩:=hd;rcases open_ints ht he hc hf with ⟨hcs,hx⟩ | ⟨a,len',cap',zs,hcs,_,hl,hm,hz,hx,hcell,hwz⟩
 ·simp [Value.cells] at hcs
  obtain ⟨rfl,rfl,rfl⟩:=hcs;exact ⟨[],SlI.nil _ _⟩
 ·simp [Value.cells] at hcs
  obtain ⟨rfl,rfl,rfl⟩:=hcs;simp only [Prod.mk.injEq] at hx;obtain ⟨rfl,rfl⟩:=hx;simp only [if_true] at hz;have hle:len≤140737488351232:=by
   have h1:=hsz _ _ rfl;simp only [lits,List.length_map,List.length_take,List.length_drop,reachBytes] at h1;have h2:(min len zs.length+(zs.length - len)) * 1≤(min len zs.length+(zs.length - len)) * Try.prog.bytesOf e:=Nat.mul_le_mul_left _ hby;omega
  have hlen:(zs.take len).length=len:=by simp; omega
  refine ⟨zs.take len,by omega,fun x hx=>wrap_of_wf (hwz x (List.mem_of_mem_take hx)),some a,cap,by rw [hlen],by omega,fun i hi=>?_⟩;have hi':i<len:=by omega
  have hc:=hcell i (by omega);have h0:=hcell 0 (by omega);obtain ⟨b,off,sp⟩:=a;have hsp:sp=none:=by simpa [Addr.add] using World.cell?_spot h0
  subst hsp;rw [add_plain] at hc;refine ⟨b,off,rfl,by simpa using World.block_lt_of_cell? W _ hc,?_⟩;rw [hc];simp [List.getD_eq_getElem?_getD,hi']
open Go.RowKit
theorem tmod_bd (x:Int) (i:Nat):- ((i:Int)+1)<x.tmod (i+1)∧x.tmod (i+1)<i+1:=by
 constructor
 ·rcases Int.le_total 0 x with h | h
  ·have:=Int.tmod_nonneg (i+1:Int) h; omega
  ·have:=Int.tmod_nonneg (i+1:Int) (show 0≤-x by omega)
   have h2:=Int.tmod_lt_of_pos (-x) (show (0:Int)<i+1 by omega);rw [Int.neg_tmod] at h2; omega
 ·exact Int.tmod_lt_of_pos x (by omega)
theorem tmod_mod (x:Int) (i:Nat):x % (i+1)=if x.tmod (i+1)<0 then x.tmod (i+1)+(i+1) else x.tmod (i+1):=by
 have hb:=tmod_bd x i;have h:=Int.tmod_add_mul_tdiv x (i+1);have h3:x % (i+1)=(x.tmod (i+1)) % (i+1):=by
  conv=>lhs; rw [← h]
  rw [Int.add_mul_emod_self_left]
 rw [h3];split
 ·rw [← Int.add_emod_right,Int.emod_eq_of_lt (by omega) (by omega)]
 ·exact Int.emod_eq_of_lt (by omega) (by omega)
def drawI (l:List Int) (i:Nat):Nat:=((l.getD i 0) % (i+1)).toNat
theorem drawI_le (l:List Int) (i:Nat):drawI l i≤i:=by
 unfold drawI;have h1:=Int.emod_nonneg (l.getD i 0) (show ((i:Int)+1)≠0 by omega);have h2:=Int.emod_lt_of_pos (l.getD i 0) (show (0:Int)<(i:Int)+1 by omega);omega
theorem drawI_out (l:List Int) (i:Nat) (h:l.length≤i):drawI l i=0:=by
 unfold drawI; rw [List.getD_eq_getElem?_getD,List.getElem?_eq_none h]; simp
theorem drawI_neg (l:List Int) (i:Nat) (h:(l.getD i 0).tmod (i+1)<0):((l.getD i 0).tmod (i+1)+(i+1))=(drawI l i:Int):=by
 have e:=tmod_mod (l.getD i 0) i;rw [if_pos h] at e;have h1:=Int.emod_nonneg (l.getD i 0) (show ((i:Int)+1)≠0 by omega);unfold drawI; omega
theorem drawI_pos (l:List Int) (i:Nat) (h:0≤(l.getD i 0).tmod (i+1)):(l.getD i 0).tmod (i+1)=(drawI l i:Int):=by
 have e:=tmod_mod (l.getD i 0) i;rw [if_neg (by omega)] at e;unfold drawI; omega
def fd (x:Int):List Int→Nat
 | []=>0
 | y :: t=>if y=x then 0 else fd x t+1
theorem ext_same (l m:List Int) (hl:l.length=m.length) (h:∀j,j<l.length→l.getD j 0=m.getD j 0):l=m:=by
 apply List.ext_getElem hl;intro i h1 h2;simpa [List.getD_eq_getElem?_getD,h1,h2] using h i h1
def asc (n:Nat):List Int:=(List.range n).map fun (i:Nat)=>(i:Int)
theorem asc_length (n:Nat):(asc n).length=n:=by simp [asc]
theorem asc_mem (n:Nat) (x:Int) (h:x∈asc n):0≤x∧x<n:=by
 simp [asc] at h; obtain ⟨i,hi,rfl⟩:=h; omega
def fill (n k:Nat):List Int:=asc k ++ List.replicate (n - k) 0
theorem fill_zero (n:Nat):fill n 0=List.replicate n 0:=by simp [fill,asc]
theorem fill_full (n:Nat):fill n n=asc n:=by simp [fill]
theorem fill_length (n k:Nat) (h:k≤n):(fill n k).length=n:=by simp [fill,asc_length]; omega
theorem fill_step (n k:Nat) (h:k<n):(fill n k).set k (k:Int)=fill n (k+1):=by
 unfold fill;rw [List.set_append_right _ _ (by simp [asc_length])];obtain ⟨m,hm⟩:∃m,n - k=m+1:=⟨n - k - 1,by omega⟩;rw [hm,show n - (k+1)=m by omega];simp [List.replicate_succ,asc,List.range_succ]
def swp (l:List Int) (i k:Nat):List Int:=(l.set i (l.getD k 0)).set k (l.getD i 0)
theorem swp_length (l:List Int) (i k:Nat):(swp l i k).length=l.length:=by simp [swp]
theorem swp_mem (l:List Int) (i k:Nat) (hi:i<l.length) (hk:k<l.length) (x:Int) (h:x∈swp l i k):x∈l:=by
 unfold swp at h;rcases List.mem_or_eq_of_mem_set h with h | rfl
 ·rcases List.mem_or_eq_of_mem_set h with h | rfl
  ·exact h
  ·simp [List.getD_eq_getElem?_getD,hk]
 ·simp [List.getD_eq_getElem?_getD,hi]
def shuf (d:List Int):Nat→List Int→List Int
 | 0,l=>l
 | i+1,l=>shuf d i (swp l (i+1) (drawI d (i+1)))
theorem shuf_length (d:List Int) (i:Nat) (l:List Int):(shuf d i l).length=l.length:=by
 induction i generalizing l with
 | zero=>rfl
 | succ i ih=>unfold shuf; rw [ih,swp_length]
theorem shuf_mem (d:List Int) (i:Nat) (l:List Int) (hi:i<l.length) (x:Int) (h:x∈shuf d i l):x∈l:=by
 induction i generalizing l with
 | zero=>exact h
 | succ i ih=>
  unfold shuf at h;have:=drawI_le d (i+1);exact swp_mem l (i+1) _ hi (by omega) x (ih _ (by rw [swp_length]; omega) h)
theorem shuf_round (d l:List Int) (k j:Nat) (hk:0<k) (hj:drawI d k=j):shuf d k l=shuf d (k - 1) (swp l k j):=by
 obtain ⟨i,rfl⟩:∃i,k=i+1:=⟨k - 1,by omega⟩;subst hj;rfl
def fact:Nat→Nat
 | 0=>1
 | n+1=>(n+1) * fact n
theorem fact_pos (n:Nat):1≤fact n:=by
 induction n with
 | zero=>simp [fact]
 | succ n ih=>unfold fact; exact Nat.le_trans ih (Nat.le_mul_of_pos_left _ (by omega))
theorem fact_le (m n:Nat) (h:m≤n):fact m≤fact n:=by
 induction n with
 | zero=>
  obtain rfl:m=0:=by omega
  exact Nat.le_refl _
 | succ n ih=>
  by_cases e:m=n+1
  ·subst e; exact Nat.le_refl _
  ·refine Nat.le_trans (ih (by omega)) ?_
   rw [fact]; exact Nat.le_mul_of_pos_left _ (by omega)
theorem fact_20 (n:Nat) (h:n≤20):fact n≤2432902008176640000:=Nat.le_trans (fact_le n 20 h) (by decide)
theorem wrap_small (x:Nat) (h:x≤2432902008176640000):wrap64 (x:Int)=x:=by unfold wrap64; omega
theorem fact_down (n c i:Nat) (hn:n≤20) (h:c * fact i=fact n) (hi:1<i):wrap64 ((c:Int) * i)=((c * i:Nat):Int)∧(c * i) * fact (i - 1)=fact n:=by
 obtain ⟨j,rfl⟩:∃j,i=j+1:=⟨i - 1,by omega⟩;have e:(c * (j+1)) * fact (j+1 - 1)=fact n:=by rw [← h,fact,Nat.mul_assoc]; simp
 refine ⟨?_,e⟩;rw [← Int.natCast_mul];refine wrap_small _ (Nat.le_trans ?_ (fact_20 n hn));rw [← e];exact Nat.le_mul_of_pos_right _ (fact_pos _)
theorem fact_up (n c i:Nat) (hn:n≤20) (h:c=fact (i - 1)) (hi:1≤i) (hin:i≤n):wrap64 ((c:Int) * i)=((c * i:Nat):Int)∧c * i=fact i:=by
 obtain ⟨j,rfl⟩:∃j,i=j+1:=⟨i - 1,by omega⟩;have e:c * (j+1)=fact (j+1):=by rw [h,fact,Nat.mul_comm]; simp
 refine ⟨?_,e⟩;rw [← Int.natCast_mul,e];exact wrap_small _ (fact_20 _ (by omega))
def cntI (n:Int):Int:=if 0≤n∧n≤20 then (fact n.toNat:Int) else 0
theorem cntI_in (m:Nat) (h:m≤20):cntI m=fact m:=by unfold cntI; rw [if_pos (by omega)]; simp
theorem cntI_out (n:Int) (h:¬(0≤n∧n≤20)):cntI n=0:=by unfold cntI; rw [if_neg h]
def nthR:Nat→Nat→List Int
 | 0,_=>[]
 | i+1,k=>nthR i (k / (i+1)) ++ [((k % (i+1):Nat):Int)]
theorem nthR_length (n k:Nat):(nthR n k).length=n:=by
 induction n generalizing k with
 | zero=>rfl
 | succ n ih=>simp [nthR,ih]
theorem nthR_mem (n k:Nat) (x:Int) (h:x∈nthR n k):0≤x∧x<n:=by
 induction n generalizing k with
 | zero=>simp [nthR] at h
 | succ n ih=>
  rw [nthR,List.mem_append,List.mem_singleton] at h;rcases h with h | h
  ·have:=ih _ h; omega
  ·have:=Nat.mod_lt k (show 0<n+1 by omega); omega
theorem set_drop (l:List Int) (i:Nat) (x:Int) (h:i<l.length):(l.set i x).drop i=x :: l.drop (i+1):=by
 rw [List.drop_eq_getElem_cons (by simpa using h)];simp [List.drop_set]
theorem nthR_step (n k0 i k:Nat) (l:List Int) (hl:i<l.length) (h:nthR (i+1) k ++ l.drop (i+1)=nthR n k0) :
  nthR i (k / (i+1)) ++ (l.set i ((k % (i+1):Nat):Int)).drop i=nthR n k0:=by
 rw [set_drop _ _ _ hl,← h,nthR,List.append_assoc]; rfl
def nthB (n k:Int):Bool:=decide (0≤k∧k<cntI n)
def nthL (n k:Int):List Int:=if 0≤k∧k<cntI n then nthR n.toNat k.toNat else []
theorem nth_yes (n k:Int) (h:0≤k∧k<cntI n):0≤n∧n≤20∧nthB n k=true∧nthL n k=nthR n.toNat k.toNat:=by
 refine ⟨?_,?_,by unfold nthB; simpa using h,by unfold nthL; rw [if_pos h]⟩
 ·refine Classical.byContradiction fun hc=>?_
  have:=cntI_out n (by omega); omega
 ·refine Classical.byContradiction fun hc=>?_
  have:=cntI_out n (by omega); omega
theorem nth_no (n k:Int) (h:¬(0≤k∧k<cntI n)):nthB n k=false∧nthL n k=[]:=
 ⟨by unfold nthB; exact decide_eq_false h,by unfold nthL; rw [if_neg h]⟩
def idxR:Nat→Nat→List Int→Nat
 | _,a,[]=>a
 | i,a,x :: t=>idxR (i+1) (a * (i+1)+x.toNat) t
def okD:Nat→List Int→Bool
 | _,[]=>true
 | i,x :: t=>decide (0≤x∧x≤i) && okD (i+1) t
open Go.RowKit
theorem fd_get (x:Int) (l:List Int) (h:fd x l<l.length):l.getD (fd x l) 0=x:=by
 induction l with
 | nil=>simp at h
 | cons y t ih=>
  unfold fd at h ⊢;by_cases e:y=x
  ·rw [if_pos e]; simpa using e
  ·rw [if_neg e] at h ⊢
   simpa using ih (by simpa using h)
theorem fd_mem (x:Int) (l:List Int):x∈l↔fd x l<l.length:=by
 induction l with
 | nil=>simp
 | cons y t ih=>
  unfold fd;by_cases e:y=x
  ·simp [e]
  ·rw [if_neg e]
   simp only [List.mem_cons,List.length_cons];rw [ih];constructor
   ·rintro (h | h)
    ·exact absurd h.symm e
    ·omega
   ·intro h; right; omega
def Full (n:Nat) (l:List Int):Prop:=l.length=n∧∀i:Nat,i<n→(i:Int)∈l
theorem full_asc (n:Nat):Full n (asc n):=⟨asc_length n,fun i hi=>by simp [asc]; exact ⟨i,hi,rfl⟩⟩
theorem asc_succ (n:Nat):asc (n+1)=asc n ++ [(n:Int)]:=by simp [asc,List.range_succ]
theorem Full.perm {n:Nat} {l:List Int} (h:Full n l):l.Perm (asc n):=by
 induction n generalizing l with
 | zero=>obtain rfl:=List.length_eq_zero_iff.1 h.1; exact List.Perm.refl _
 | succ n ih=>
  have hm:=h.2 n (by omega);have p1:=List.perm_cons_erase hm;have hf:Full n (l.erase (n:Int)):=by
   refine ⟨by rw [List.length_erase_of_mem hm,h.1]; rfl,fun i hi=>?_⟩;exact (List.mem_erase_of_ne (by omega)).2 (h.2 i (by omega))
  refine p1.trans (((ih hf).cons _).trans ?_);rw [asc_succ];exact (List.perm_append_singleton _ _).symm
theorem asc_nodup (n:Nat):(asc n).Nodup:=by
 induction n with
 | zero=>simp [asc]
 | succ n ih=>
  rw [asc_succ,List.nodup_append];refine ⟨ih,by simp,fun x hx y hy=>?_⟩;simp at hy;have:=asc_mem n x hx;omega
theorem Full.nodup {n:Nat} {l:List Int} (h:Full n l):l.Nodup:=h.perm.symm.nodup (asc_nodup n)
theorem Full.range {n:Nat} {l:List Int} (h:Full n l) (x:Int) (hx:x∈l):0≤x∧x<n:=asc_mem n x (h.perm.mem_iff.1 hx)
theorem getD_set (l:List Int) (i j:Nat) (x:Int) (hi:i<l.length):(l.set i x).getD j 0=if i=j then x else l.getD j 0:=by
 simp only [List.getD_eq_getElem?_getD,List.getElem?_set];by_cases e:i=j
 ·subst e; simp [hi]
 ·simp [e]
theorem swp_get (l:List Int) (i k j:Nat) (hi:i<l.length) (hk:k<l.length) :
  (swp l i k).getD j 0=if j=k then l.getD i 0 else if j=i then l.getD k 0 else l.getD j 0:=by
 unfold swp;rw [getD_set _ _ _ _ (by simpa using hk),getD_set _ _ _ _ hi];by_cases e1:j=k
 ·subst e1; simp
 ·have e1':¬k=j:=fun h=>e1 h.symm
  by_cases e2:j=i
  ·subst e2; simp [e1,e1']
  ·have e2':¬i=j:=fun h=>e2 h.symm
   simp [e1,e1',e2,e2']
theorem mem_of_getD (l:List Int) (j:Nat) (hj:j<l.length):l.getD j 0∈l:=by simp [List.getD_eq_getElem?_getD,hj]
theorem getD_of_mem {l:List Int} {x:Int} (h:x∈l):∃j,j<l.length∧l.getD j 0=x:=
 ⟨fd x l,(fd_mem x l).1 h,fd_get x l ((fd_mem x l).1 h)⟩
theorem mem_swp (l:List Int) (i k:Nat) (hi:i<l.length) (hk:k<l.length) (x:Int) (h:x∈l):x∈swp l i k:=by
 obtain ⟨j,hj,rfl⟩:=getD_of_mem h;by_cases e1:j=i
 ·have:=mem_of_getD (swp l i k) k (by rw [swp_length]; exact hk)
  rw [swp_get l i k k hi hk,if_pos rfl] at this;rw [e1]; exact this
 ·by_cases e2:j=k
  ·have:=mem_of_getD (swp l i k) i (by rw [swp_length]; exact hi)
   rw [swp_get l i k i hi hk] at this;by_cases e3:i=k
   ·omega
   ·rw [if_neg e3,if_pos rfl] at this
    rw [e2]; exact this
  ·have:=mem_of_getD (swp l i k) j (by rw [swp_length]; exact hj)
   rw [swp_get l i k j hi hk,if_neg e2,if_neg e1] at this;exact this
theorem Full.swp {n:Nat} {l:List Int} (h:Full n l) (i k:Nat) (hi:i<n) (hk:k<n):Full n (swp l i k):=
 ⟨by rw [swp_length]; exact h.1,fun j hj=>mem_swp l i k (by rw [h.1]; exact hi) (by rw [h.1]; exact hk) _ (h.2 j hj)⟩
theorem Full.inj {n:Nat} {l:List Int} (h:Full n l) (i j:Nat) (hi:i<n) (hj:j<n) (e:l.getD i 0=l.getD j 0):i=j:=by
 have hn:=h.nodup;have hl:=h.1;have:=(List.getElem_inj (i:=i) (j:=j) hn (h₀:=by omega) (h₁:=by omega)).1;apply this;simpa [List.getD_eq_getElem?_getD,show i<l.length by omega,show j<l.length by omega] using e
def un (o:List Int):Nat→List Int→List Int
 | 0,_=>[]
 | i+1,rest=>un o i (swp rest i (fd (o.getD i 0) rest)) ++ [((fd (o.getD i 0) rest:Nat):Int)]
theorem shuf_full (d:List Int) (n i:Nat) (l:List Int) (h:Full n l) (hi:i<n):Full n (shuf d i l):=by
 induction i generalizing l with
 | zero=>exact h
 | succ i ih=>
  unfold shuf;have:=drawI_le d (i+1);exact ih _ (h.swp _ _ hi (by omega)) (by omega)
theorem shuf_get (d:List Int) (i j:Nat) (l:List Int) (hj:j<l.length) (hij:i<j):(shuf d i l).getD j 0=l.getD j 0:=by
 induction i generalizing l with
 | zero=>rfl
 | succ i ih=>
  unfold shuf;have:=drawI_le d (i+1);rw [ih _ (by rw [swp_length]; exact hj) (by omega),swp_get _ _ _ _ (by omega) (by omega),if_neg (by omega),if_neg (by omega)]
theorem fd_full {n:Nat} {l:List Int} (h:Full n l) (k:Nat) (hk:k<n):fd (l.getD k 0) l=k:=by
 have hm:=(fd_mem _ _).1 (mem_of_getD l k (by rw [h.1]; exact hk));exact (h.inj k _ hk (by rw [← h.1]; exact hm) (fd_get _ _ hm).symm).symm
def OkDraws (d:List Int):Prop:=∀i:Nat,i<d.length→0≤d.getD i 0∧d.getD i 0≤i
theorem drawI_ok (d:List Int) (h:OkDraws d) (i:Nat) (hi:i<d.length):(drawI d i:Int)=d.getD i 0:=by
 have:=h i hi;unfold drawI;rw [Int.emod_eq_of_lt (by omega) (by omega)];omega
theorem take_snoc (l:List Int) (i:Nat) (h:i<l.length):l.take (i+1)=l.take i ++ [l.getD i 0]:=by
 rw [List.take_succ_eq_append_getElem h]; simp [List.getD_eq_getElem?_getD,h]
theorem un_shuf (d:List Int) (n i:Nat) (rest:List Int) (hd:OkDraws d) (hdl:d.length=n) (h:Full n rest) (hi:i<n) :
  un (shuf d i rest) (i+1) rest=d.take (i+1):=by
 induction i generalizing rest with
 | zero=>
  have h0:=hd 0 (by omega);have e0:d.getD 0 0=0:=by omega
  rw [un,un,shuf,fd_full h 0 hi,take_snoc _ _ (by omega),e0];rfl
 | succ i ih=>
  have hk:=drawI_le d (i+1);have hl:=h.1;have e:(shuf d (i+1) rest).getD (i+1) 0=rest.getD (drawI d (i+1)) 0:=by
   rw [shuf,shuf_get _ _ _ _ (by rw [swp_length]; omega) (by omega),swp_get _ _ _ _ (by omega) (by omega)];by_cases e:i+1=drawI d (i+1)
   ·rw [if_pos e,← e]
   ·rw [if_neg e,if_pos rfl]
  rw [un,e,fd_full h _ (by omega),shuf,ih _ (h.swp _ _ hi (by omega)) (by omega),drawI_ok d hd _ (by omega),← take_snoc _ _ (by omega)]
theorem un_back (d:List Int) (n:Nat) (hn:1≤n) (hd:OkDraws d) (hdl:d.length=n):un (shuf d (n - 1) (asc n)) n (asc n)=d:=by
 have:=un_shuf d n (n - 1) (asc n) hd hdl (full_asc n) (by omega);rw [show n - 1+1=n by omega] at this;rw [this,← hdl,List.take_length]
def seenL (n:Nat) (o:List Int) (k:Nat):List Bool:=(List.range n).map fun (i:Nat)=>decide ((i:Int)∈o.take k)
theorem seenL_length (n:Nat) (o:List Int) (k:Nat):(seenL n o k).length=n:=by simp [seenL]
theorem seenL_zero (n:Nat) (o:List Int):seenL n o 0=List.replicate n false:=by
 apply List.ext_getElem (by simp [seenL]);intro i h1 h2;simp [seenL]
theorem seenL_get (n:Nat) (o:List Int) (k i:Nat) (hi:i<n):(seenL n o k).getD i false=decide ((i:Int)∈o.take k):=by
 simp [seenL,List.getD_eq_getElem?_getD,hi]
theorem seenL_step (n:Nat) (o:List Int) (k i:Nat) (hk:k<o.length) (hi:o.getD k 0=i) (hin:i<n):(seenL n o k).set i true=seenL n o (k+1):=by
 apply List.ext_getElem (by simp [seenL]);intro j h1 h2;have e:=take_snoc o k hk;have hj:j<n:=by simpa [seenL] using h2
 rw [List.getElem_set];simp only [seenL,List.getElem_map,List.getElem_range,e,List.mem_append,List.mem_singleton,hi];by_cases c:i=j
 ·simp [c]
 ·rw [if_neg c]
  have:¬(j:Int)=(i:Int):=by omega
  simp [this]
theorem seen_no (n:Nat) (o:List Int) (h:Full n o) (k:Nat) (hk:k<n):o.getD k 0 ∉ o.take k:=by
 intro hm;obtain ⟨j,hj,e⟩:=List.getElem_of_mem hm;have hj':j<k:=by simp at hj; omega
 have:k=j:=by
  refine h.inj k j hk (by omega) ?_;rw [← e];have h1:=h.1;simp [List.getD_eq_getElem?_getD,show j<o.length by omega]
 omega
theorem okD_snoc (l:List Int) (i:Nat) (x:Int):okD i (l ++ [x])=(okD i l && decide (0≤x∧x≤(i+l.length:Nat))):=by
 induction l generalizing i with
 | nil=>simp [okD]
 | cons y t ih=>
  rw [List.cons_append,okD,ih,okD,Bool.and_assoc,List.length_cons,show i+1+t.length=i+(t.length+1) by omega]
theorem idxR_snoc (l:List Int) (i a:Nat) (x:Int):idxR i a (l ++ [x])=idxR i a l * (i+l.length+1)+x.toNat:=by
 induction l generalizing i a with
 | nil=>simp [idxR]
 | cons y t ih=>
  rw [List.cons_append,idxR,ih,idxR];simp only [List.length_cons];rw [show i+1+t.length+1=i+(t.length+1)+1 by omega]
theorem idx_nth (n k:Nat) (h:k<fact n):okD 0 (nthR n k)=true∧idxR 0 0 (nthR n k)=k:=by
 induction n generalizing k with
 | zero=>simp [fact] at h; subst h; exact ⟨rfl,rfl⟩
 | succ n ih=>
  have hm:=Nat.mod_lt k (show 0<n+1 by omega);have hd:k / (n+1)<fact n:=by
   rw [Nat.div_lt_iff_lt_mul (by omega),Nat.mul_comm];exact h
  obtain ⟨h1,h2⟩:=ih _ hd;have hl:=nthR_length n (k / (n+1));refine ⟨?_,?_⟩
  ·rw [nthR,okD_snoc,h1,hl,decide_eq_true (by omega)]; rfl
  ·rw [nthR,idxR_snoc,h2,hl,Int.toNat_natCast,Nat.zero_add]
   have:=Nat.div_add_mod k (n+1);rw [Nat.mul_comm] at this;exact this
open Go.RowKit
def perm (n k:Nat):List Int:=shuf (nthR n k) (n - 1) (asc n)
theorem perm_full (n k:Nat) (hn:1≤n):Full n (perm n k):=shuf_full _ n (n - 1) _ (full_asc n) (by omega)
theorem nthR_ok (n k:Nat):OkDraws (nthR n k):=by
 induction n generalizing k with
 | zero=>intro i hi; simp [nthR] at hi
 | succ n ih=>
  intro i hi;rw [nthR_length] at hi;have hl:=nthR_length n (k / (n+1));rw [nthR];by_cases h:i<n
  ·have e:(nthR n (k / (n+1)) ++ [((k % (n+1):Nat):Int)]).getD i 0=(nthR n (k / (n+1))).getD i 0:=by
    simp [List.getD_eq_getElem?_getD,List.getElem?_append,hl,h]
   rw [e];exact ih _ i (by omega)
  ·have hin:i=n:=by omega
   subst hin;have e:(nthR i (k / (i+1)) ++ [((k % (i+1):Nat):Int)]).getD i 0=((k % (i+1):Nat):Int):=by
    simp [List.getD_eq_getElem?_getD,hl]
   rw [e];have:=Nat.mod_lt k (show 0<i+1 by omega);omega
theorem perm_inj (n i k:Nat) (hn:1≤n) (hi:i<fact n) (hk:k<fact n) (h:perm n i=perm n k):i=k:=by
 have e1:=un_back (nthR n i) n hn (nthR_ok n i) (nthR_length n i);have e2:=un_back (nthR n k) n hn (nthR_ok n k) (nthR_length n k);unfold perm at h;rw [h,e2] at e1;have e3:=(idx_nth n i hi).2;rw [← e1,(idx_nth n k hk).2] at e3;exact e3.symm
open Go.RowKit
def roundP (t k:Int):List Int:=if 1≤t∧t≤8 then perm t.toNat (k % (fact t.toNat:Int)).toNat else []
theorem roundP_in (t:Nat) (k:Int) (h1:1≤t) (h8:t≤8):roundP t k=perm t (k % (fact t:Int)).toNat:=by
 unfold roundP; rw [if_pos (by omega),Int.toNat_natCast]
theorem roundP_out (t k:Int) (h:¬(1≤t∧t≤8)):roundP t k=[]:=by unfold roundP; rw [if_neg h]
theorem roundP_full (t:Nat) (k:Int) (h1:1≤t) (h8:t≤8):Full t (roundP t k):=by rw [roundP_in t k h1 h8]; exact perm_full _ _ h1
theorem roundP_mem (t k x:Int) (h:x∈roundP t k):0≤x∧x<8:=by
 by_cases ht:1≤t∧t≤8
 ·obtain ⟨n,rfl⟩:∃n:Nat,t=n:=⟨t.toNat,by omega⟩
  have:=(roundP_full n k (by omega) (by omega)).range x h;omega
 ·rw [roundP_out t k ht] at h; simp at h
theorem roundP_len (t k:Int):(roundP t k).length≤8:=by
 by_cases ht:1≤t∧t≤8
 ·obtain ⟨n,rfl⟩:∃n:Nat,t=n:=⟨t.toNat,by omega⟩
  have:=(roundP_full n k (by omega) (by omega)).1;omega
 ·rw [roundP_out t k ht]; simp
def roundsP (t:Int) (ks:List Int):List Int:=ks.flatMap (roundP t)
theorem roundsP_snoc (t:Int) (ks:List Int) (k:Nat) (h:k<ks.length):roundsP t (ks.take (k+1))=roundsP t (ks.take k) ++ roundP t (ks.getD k 0):=by
 unfold roundsP;rw [take_snoc ks k h,List.flatMap_append];simp
theorem roundsP_len (t:Int) (ks:List Int):(roundsP t ks).length≤8 * ks.length:=by
 induction ks with
 | nil=>simp [roundsP]
 | cons x ks ih=>
  have:=roundP_len t x;unfold roundsP at ih ⊢;rw [List.flatMap_cons,List.length_append,List.length_cons];omega
theorem roundsP_mem (t:Int) (ks:List Int) (x:Int) (h:x∈roundsP t ks):0≤x∧x<8:=by
 unfold roundsP at h;obtain ⟨k,-,hk⟩:=List.mem_flatMap.1 h;exact roundP_mem t k x hk
theorem roundsP_out (t:Int) (ks:List Int) (h:¬(1≤t∧t≤8)):roundsP t ks=[]:=by
 unfold roundsP;induction ks with
 | nil=>rfl
 | cons x ks ih=>rw [List.flatMap_cons,ih,roundP_out t x h]; rfl
def none8:List Bool:=List.replicate 8 false
def all8 (t:Nat):List Bool:=(List.range 8).map fun i=>decide (i<t)
def stepM (t:Nat) (s:List Bool × Nat) (x:Int):List Bool × Nat:=
 if 0≤x∧x<t then (if s.1.set x.toNat true=all8 t then (none8,s.2+1) else (s.1.set x.toNat true,s.2)) else s
def runM (t:Nat) (s:List Bool × Nat) (xs:List Int):List Bool × Nat:=xs.foldl (stepM t) s
def measP (t:Int) (xs:List Int):Nat:=if 1≤t∧t≤8 then (runM t.toNat (none8,0) xs).2 else 0
theorem measP_in (t:Nat) (xs:List Int) (h1:1≤t) (h8:t≤8):measP t xs=(runM t (none8,0) xs).2:=by
 unfold measP; rw [if_pos (by omega),Int.toNat_natCast]
theorem measP_out (t:Int) (xs:List Int) (h:¬(1≤t∧t≤8)):measP t xs=0:=by unfold measP; rw [if_neg h]
theorem runM_snoc (t:Nat) (s:List Bool × Nat) (xs:List Int) (k:Nat) (h:k<xs.length):runM t s (xs.take (k+1))=stepM t (runM t s (xs.take k)) (xs.getD k 0):=by
 unfold runM;rw [take_snoc xs k h,List.foldl_append];rfl
def GoodM (t:Nat) (s:List Bool):Prop:=s.length=8∧(∀i,s.getD i false=true→i<t)∧s≠all8 t
theorem all8_get (t i:Nat) (hi:i<8):(all8 t).getD i false=decide (i<t):=by
 simp [all8,List.getD_eq_getElem?_getD,hi]
theorem none8_get (i:Nat):none8.getD i false=false:=by
 unfold none8;rw [List.getD_eq_getElem?_getD,List.getElem?_replicate];split <;> rfl
theorem goodM_none (t:Nat) (h:1≤t):GoodM t none8:=by
 refine ⟨by simp [none8],fun i hi=>?_,fun e=>?_⟩
 ·rw [none8_get] at hi; cases hi
 ·have h0:=all8_get t 0 (by omega)
  rw [← e,none8_get] at h0;have:decide (0<t)=true:=by simp; omega
  rw [this] at h0; cases h0
theorem getD_setB (l:List Bool) (i j:Nat) (x:Bool) (hi:i<l.length):(l.set i x).getD j false=if i=j then x else l.getD j false:=by
 rw [List.getD_eq_getElem?_getD,List.getD_eq_getElem?_getD,List.getElem?_set];by_cases e:i=j
 ·subst e; simp [hi]
 ·simp [e]
theorem extB (l m:List Bool) (h:l.length=m.length) (he:∀i,i<l.length→l.getD i false=m.getD i false):l=m:=by
 refine List.ext_getElem h fun i g1 g2=>?_;have:=he i g1;rw [List.getD_eq_getElem?_getD,List.getD_eq_getElem?_getD,List.getElem?_eq_getElem g1,List.getElem?_eq_getElem g2] at this;exact this
theorem goodM_step (t:Nat) (h1:1≤t) (h8:t≤8) (s:List Bool × Nat) (x:Int) (h:GoodM t s.1):GoodM t (stepM t s x).1:=by
 unfold stepM;split
 ·rename_i hx
  split
  ·exact goodM_none t h1
  ·rename_i hne
   refine ⟨by simpa using h.1,fun i hi=>?_,hne⟩;rw [getD_setB _ _ _ _ (by rw [h.1]; omega)] at hi;split at hi
   ·omega
   ·exact h.2.1 i hi
 ·exact h
theorem goodM_run (t:Nat) (h1:1≤t) (h8:t≤8) (xs:List Int) (s:List Bool × Nat) (h:GoodM t s.1):GoodM t (runM t s xs).1:=by
 unfold runM;induction xs generalizing s with
 | nil=>exact h
 | cons x xs ih=>exact ih _ (goodM_step t h1 h8 s x h)
theorem stepM_le (t:Nat) (s:List Bool × Nat) (x:Int):s.2≤(stepM t s x).2∧(stepM t s x).2≤s.2+1:=by
 unfold stepM;split
 ·split <;> simp
 ·simp
theorem runM_le (t:Nat) (xs:List Int) (s:List Bool × Nat):s.2≤(runM t s xs).2∧(runM t s xs).2≤s.2+xs.length:=by
 induction xs generalizing s with
 | nil=>simp [runM]
 | cons x xs ih=>
  have h1:=stepM_le t s x;have h2:=ih (stepM t s x);have e:runM t s (x :: xs)=runM t (stepM t s x) xs:=rfl;rw [e,List.length_cons];omega
def cntM (s:List Bool):Nat:=s.count true
theorem cnt_all:∀t:Fin 9,∀b0 b1 b2 b3 b4 b5 b6 b7:Bool,(∀i:Fin 8,[b0,b1,b2,b3,b4,b5,b6,b7].getD i.1 false=true→i.1<t.1)→
  (cntM [b0,b1,b2,b3,b4,b5,b6,b7]=t.1↔[b0,b1,b2,b3,b4,b5,b6,b7]=all8 t.1):=by decide +kernel
theorem cntM_all (t:Nat) (h8:t≤8) (s:List Bool) (hl:s.length=8) (h:∀i,s.getD i false=true→i<t):cntM s=t↔s=all8 t:=by
 match s,hl with
 | [b0,b1,b2,b3,b4,b5,b6,b7],_=>exact cnt_all ⟨t,by omega⟩ b0 b1 b2 b3 b4 b5 b6 b7 fun i hi=>h i.1 hi
theorem cnt_set (s:List Bool) (i:Nat) (hi:i<s.length) (h:s.getD i false=false):cntM (s.set i true)=cntM s+1:=by
 induction s generalizing i with
 | nil=>simp at hi
 | cons b s ih=>
  cases i with
  | zero=>simp at h; subst h; simp [cntM]
  | succ i=>
   have:=ih i (by simpa using hi) (by simpa using h);unfold cntM at this ⊢;rw [List.set_cons_succ,List.count_cons,List.count_cons,this];omega
theorem cntM_le (s:List Bool):cntM s≤s.length:=List.count_le_length
theorem stepM_out (t:Nat) (s:List Bool × Nat) (x:Int) (h:¬(0≤x∧x<t)):stepM t s x=s:=by unfold stepM; rw [if_neg h]
theorem stepM_old (t:Nat) (s:List Bool × Nat) (x:Nat) (hg:GoodM t s.1) (h:x<t) (hx:s.1.getD x false=true):stepM t s x=s:=by
 unfold stepM;have e:s.1.set (x:Int).toNat true=s.1:=by
  rw [Int.toNat_natCast];refine List.ext_getElem (by simp) fun i h1 h2=>?_;rw [List.getElem_set];split
  ·rename_i e; subst e
   rw [List.getD_eq_getElem?_getD,List.getElem?_eq_getElem h2] at hx;exact hx.symm
  ·rfl
 rw [if_pos (by omega),e,if_neg hg.2.2]
theorem stepM_last (t:Nat) (h8:t≤8) (s:List Bool × Nat) (x:Nat) (hg:GoodM t s.1) (h:x<t) (hx:s.1.getD x false=false) (hc:cntM s.1+1=t):stepM t s x=(none8,s.2+1):=by
 unfold stepM;rw [if_pos (by omega),Int.toNat_natCast,if_pos];have hl:=hg.1;refine (cntM_all t h8 _ (by simpa using hl) fun i hi=>?_).1 (by rw [cnt_set _ _ (by omega) hx]; exact hc);rw [getD_setB _ _ _ _ (by omega)] at hi;split at hi
 ·omega
 ·exact hg.2.1 i hi
theorem stepM_more (t:Nat) (h8:t≤8) (s:List Bool × Nat) (x:Nat) (hg:GoodM t s.1) (h:x<t) (hx:s.1.getD x false=false) (hc:cntM s.1+1≠t):stepM t s x=(s.1.set x true,s.2):=by
 unfold stepM;rw [if_pos (by omega),Int.toNat_natCast,if_neg];have hl:=hg.1;intro e;refine hc ?_;rw [← cnt_set _ _ (by omega) hx];refine (cntM_all t h8 _ (by simpa using hl) fun i hi=>?_).2 e;rw [getD_setB _ _ _ _ (by omega)] at hi;split at hi
 ·omega
 ·exact hg.2.1 i hi
def LeM (s r:List Bool × Nat):Prop:=s.2<r.2∨s.2=r.2∧∀i,s.1.getD i false=true→r.1.getD i false=true
theorem leM_step (t:Nat) (h1:1≤t) (h8:t≤8) (s r:List Bool × Nat) (x:Int) (hs:GoodM t s.1) (hr:GoodM t r.1) (h:LeM s r):LeM (stepM t s x) (stepM t r x):=by
 have hsl:=hs.1;have hrl:=hr.1;unfold stepM;by_cases hx:0≤x∧x<t
 ·rw [if_pos hx,if_pos hx]
  by_cases c1:s.1.set x.toNat true=all8 t
  ·rw [if_pos c1]
   by_cases c2:r.1.set x.toNat true=all8 t
   ·rw [if_pos c2]
    rcases h with h | ⟨h,-⟩
    ·exact .inl (by simp; omega)
    ·exact .inr ⟨by simp; omega,fun i hi=>hi⟩
   ·rw [if_neg c2]
    rcases h with h | ⟨h,hi⟩
    ·by_cases e:s.2+1=r.2
     ·exact .inr ⟨e,fun i hi=>by rw [none8_get] at hi; cases hi⟩
     ·exact .inl (by simp; omega)
    ·exfalso
     refine c2 ?_;refine extB _ _ (by simp [all8,hrl]) fun i g1=>?_;have gi:i<8:=by simpa [hrl] using g1
     have e1:=all8_get t i gi;rw [← c1,getD_setB _ _ _ _ (by omega)] at e1;rw [all8_get t i gi,getD_setB _ _ _ _ (by omega)];split
     ·rename_i e; rw [if_pos e] at e1; exact e1
     ·rename_i e
      rw [if_neg e] at e1;cases hb:r.1.getD i false with
      | true=>have:=hr.2.1 i hb; simp; exact this
      | false=>
       cases hc:s.1.getD i false with
       | true=>rw [hi i hc] at hb; cases hb
       | false=>rw [hc] at e1; exact e1
  ·rw [if_neg c1]
   by_cases c2:r.1.set x.toNat true=all8 t
   ·rw [if_pos c2]
    rcases h with h | ⟨h,-⟩ <;> exact .inl (by simp; omega)
   ·rw [if_neg c2]
    rcases h with h | ⟨h,hi⟩
    ·exact .inl h
    ·refine .inr ⟨h,fun i hh=>?_⟩
     rw [getD_setB _ _ _ _ (by omega)] at hh ⊢;split at hh
     ·rename_i e; rw [if_pos e]
     ·rename_i e; rw [if_neg e]; exact hi i hh
 ·rw [if_neg hx,if_neg hx]; exact h
theorem leM_run (t:Nat) (h1:1≤t) (h8:t≤8) (xs:List Int) (s r:List Bool × Nat) (hs:GoodM t s.1) (hr:GoodM t r.1) (h:LeM s r):LeM (runM t s xs) (runM t r xs):=by
 unfold runM;induction xs generalizing s r with
 | nil=>exact h
 | cons x xs ih=>exact ih _ _ (goodM_step t h1 h8 s x hs) (goodM_step t h1 h8 r x hr) (leM_step t h1 h8 s r x hs hr h)
theorem runM_shift (t:Nat) (xs:List Int) (q:List Bool) (p c:Nat):runM t (q,p+c) xs=((runM t (q,p) xs).1,(runM t (q,p) xs).2+c):=by
 unfold runM;induction xs generalizing q p with
 | nil=>rfl
 | cons x xs ih=>
  rw [List.foldl_cons,List.foldl_cons];have e:stepM t (q,p+c) x=((stepM t (q,p) x).1,(stepM t (q,p) x).2+c):=by
   unfold stepM;split
   ·split
    ·simp; omega
    ·rfl
   ·rfl
  rw [e,ih]
theorem measP_parts (t:Nat) (h1:1≤t) (h8:t≤8) (l:List Int) (k:Nat):measP t (l.take k)+measP t (l.drop k)≤measP t l:=by
 rw [measP_in t _ h1 h8,measP_in t _ h1 h8,measP_in t _ h1 h8];have e:runM t (none8,0) l=runM t (runM t (none8,0) (l.take k)) (l.drop k):=by
  unfold runM;rw [← List.foldl_append,List.take_append_drop]
 rw [e];have hg:=goodM_run t h1 h8 (l.take k) (none8,0) (goodM_none t h1);have h:=leM_run t h1 h8 (l.drop k) (none8,(runM t (none8,0) (l.take k)).2) (runM t (none8,0) (l.take k)) (goodM_none t h1) hg (.inr ⟨rfl,fun i hi=>by rw [none8_get] at hi; cases hi⟩);have s:=runM_shift t (l.drop k) none8 0 (runM t (none8,0) (l.take k)).2;rw [Nat.zero_add] at s;rw [s] at h;rcases h with h | ⟨h,-⟩ <;> simp at h <;> omega
theorem seen8_all (t:Nat) (o:List Int) (h:Full t o) (h8:t≤8):seenL 8 o t=all8 t:=by
 refine List.ext_getElem (by simp [seenL,all8]) fun i g1 g2=>?_;have gi:i<8:=by simpa [all8] using g2
 simp only [seenL,all8,List.getElem_map,List.getElem_range];have e:o.take t=o:=by rw [← h.1,List.take_length]
 rw [e];by_cases c:i<t
 ·rw [decide_eq_true c,decide_eq_true (h.2 i c)]
 ·rw [decide_eq_false c,decide_eq_false fun hm=>?_]
  have:=h.range _ hm;omega
theorem seen8_not (t:Nat) (o:List Int) (h:Full t o) (h8:t≤8) (k:Nat) (hk:k<t):seenL 8 o k≠all8 t:=by
 intro e;have hl:=h.1;have hr:=h.range _ (mem_of_getD o k (by omega));obtain ⟨i,hi⟩:∃i:Nat,o.getD k 0=i:=⟨(o.getD k 0).toNat,by omega⟩;have h1:=seenL_get 8 o k i (by omega);rw [e,all8_get t i (by omega),← hi,decide_eq_true (show i<t by omega),decide_eq_false (seen_no t o h k hk)] at h1;cases h1
theorem runM_full (t:Nat) (o:List Int) (h:Full t o) (h1:1≤t) (h8:t≤8) (p:Nat):runM t (none8,p) o=(none8,p+1):=by
 have hl:=h.1;have key:∀k,k<t→runM t (none8,p) (o.take k)=(seenL 8 o k,p):=by
  intro k;induction k with
  | zero=>intro _; rw [List.take_zero,seenL_zero]; rfl
  | succ k ih=>
   intro hk;rw [runM_snoc _ _ _ _ (by omega),ih (by omega)];have hr:=h.range _ (mem_of_getD o k (by omega));obtain ⟨i,hi⟩:∃i:Nat,o.getD k 0=i:=⟨(o.getD k 0).toNat,by omega⟩;have hs:=seenL_step 8 o k i (by omega) hi (by omega);unfold stepM;rw [if_pos (by omega),hi,Int.toNat_natCast,hs,if_neg (seen8_not t o h h8 (k+1) hk)]
 obtain ⟨m,rfl⟩:∃m,t=m+1:=⟨t - 1,by omega⟩;have e:o=o.take (m+1):=by rw [← hl,List.take_length]
 rw [e,runM_snoc _ _ _ _ (by omega),key m (by omega)];have hr:=h.range _ (mem_of_getD o m (by omega));obtain ⟨i,hi⟩:∃i:Nat,o.getD m 0=i:=⟨(o.getD m 0).toNat,by omega⟩;have hs:=seenL_step 8 o m i (by omega) hi (by omega);unfold stepM;rw [if_pos (by omega),hi,Int.toNat_natCast,hs,if_pos (seen8_all _ o h h8)]
theorem measP_rounds (t:Nat) (h1:1≤t) (h8:t≤8) (ks:List Int):measP t (roundsP t ks)=ks.length:=by
 rw [measP_in t _ h1 h8];have key:∀p,runM t (none8,p) (roundsP t ks)=(none8,p+ks.length):=by
  induction ks with
  | nil=>intro p; rfl
  | cons x ks ih=>
   intro p;have e:roundsP t (x :: ks)=roundP t x ++ roundsP t ks:=by simp [roundsP]
   have e2:runM t (none8,p) (roundP t x ++ roundsP t ks)=runM t (runM t (none8,p) (roundP t x)) (roundsP t ks):=by unfold runM; rw [List.foldl_append]
   rw [e,e2,runM_full t _ (roundP_full t x h1 h8) h1 h8,ih,List.length_cons];congr 1; omega
 rw [key 0]; simp
def cut1000 (x:Int):Int:=max 0 (min x 1000)
def boundP (t r:Int):Int:=60 * (cut1000 r+1) * (cut1000 r+1) * (cut1000 t+1)
theorem roundP_nat (t k:Nat) (h1:1≤t) (h8:t≤8) (hk:k<fact t):roundP t k=perm t k:=by
 rw [roundP_in t k h1 h8,Int.emod_eq_of_lt (by omega) (by omega),Int.toNat_natCast]
theorem roundP_again (t:Nat) (h1:1≤t) (h8:t≤8):roundP t (fact t:Int)=perm t 0:=by
 rw [roundP_in t _ h1 h8,Int.emod_self]; rfl
theorem valid_any (v:Value) (l:List Int) (i:Nat) (w:World) (hl:SlI w .i64 v l) (hi:i≤20) :
  Calls Try.prog 30 #[v,.int .i64 (i:Int)] w fun e w'=>e=.returned (.int .i64 (drawI l i))∧w=w':=by
 by_cases h:l.length≤i
 ·have HR:=Lib.hid (drawI_out l i h)
  obtain ⟨a,cap,rfl,_⟩:=hl.len;have:=hl.1;clear hl;go_enter Try.func30,Try.ntmps30;go_wp2;go_ret;exact ⟨by rw [HR.out]; rfl,rfl⟩
 ·have hmx:=hl.1
  obtain ⟨b,off,cap,rfl,h4,hlt,hc⟩:=hl.open (by rintro rfl; simp at h);have hcell:=hc i (by omega);have b1:=tmod_bd (l.getD i 0) i;have N1:=Lib.hid (drawI_neg l i);have N2:=Lib.hid (drawI_pos l i);clear hc hl;have hlt:i<l.length:=by omega
  generalize l.getD i 0=x at *;go_enter Try.func30,Try.ntmps30;go_wp2
  ·have hh:x.tmod (↑i+1)<0:=by assumption
   go_ret;exact ⟨ret_i64 (N1.out hh),rfl⟩
  ·have hh:0≤x.tmod (↑i+1):=by assumption
   go_ret;exact ⟨ret_i64 (N2.out hh),rfl⟩
theorem rdraw_any (v:Value) (l:List Int) (i:Nat) (w:World) (hl:SlI w .i64 v l) (hi:i≤20) :
  Calls Try.prog 31 #[v,.int .i64 (i:Int)] w fun e w'=>e=.returned (.int .i64 (drawI l i))∧w=w':=by
 by_cases h:l.length≤i
 ·have HR:=Lib.hid (drawI_out l i h)
  obtain ⟨a,cap,rfl,_⟩:=hl.len;have:=hl.1;clear hl;go_enter Try.func31,Try.ntmps31;go_wp2;go_ret;exact ⟨by rw [HR.out]; rfl,rfl⟩
 ·have hmx:=hl.1
  obtain ⟨b,off,cap,rfl,h4,hlt,hc⟩:=hl.open (by rintro rfl; simp at h);have hcell:=hc i (by omega);have b1:=tmod_bd (l.getD i 0) i;have N1:=Lib.hid (drawI_neg l i);have N2:=Lib.hid (drawI_pos l i);clear hc hl;have hlt:i<l.length:=by omega
  generalize l.getD i 0=x at *;go_enter Try.func31,Try.ntmps31;go_wp2
  ·have hh:x.tmod (↑i+1)<0:=by assumption
   go_ret;exact ⟨ret_i64 (N1.out hh),rfl⟩
  ·have hh:0≤x.tmod (↑i+1):=by assumption
   go_ret;exact ⟨ret_i64 (N2.out hh),rfl⟩
theorem same_any (u v:Value) (l m:List Int) (w:World) (hl:SlI w .i64 u l) (hm:SlI w .i64 v m) :
  Calls Try.prog 10 #[u,v] w fun e w'=>∃n,e=.returned (.bool (decide (l=m)))∧w.drewN n=w':=by
 have hmx:=hl.1;have hmx2:=hm.1;obtain ⟨_,_,a,cap,rfl,h4,h5⟩:=hl;obtain ⟨_,_,a',cap',rfl,h4',h5'⟩:=hm;clear h4 h4';by_cases hll:l.length=m.length
 ·have hq:((l.length:Int) != (m.length:Int))=false:=by simp [hll]
  have HL:=Lib.hid hll;have HS:=Lib.hid (ext_same l m hll);clear hll;go_enter Try.func10,Try.ntmps10;go_wp2;go_loopw [5] (fun c wr=>∃k n:Nat,k≤l.length∧c=.int .i64 k∧wr=w.drewN n∧Hid (∀j,j<k→l.getD j 0=m.getD j 0)) (fun c _=>l.length - (intOf c).toNat)
  case atStart=>exact ⟨0,0,by omega,rfl,rfl,fun j hj=>by omega⟩
  case round=>
   obtain ⟨k,n,hk,rfl,rfl,hno⟩:=hrel;by_cases hlt:k<l.length
   ·obtain ⟨b,off,rfl,_,hc⟩:=h5 k hlt
    obtain ⟨b',off',rfl,_,hc'⟩:=h5' k (by rw [← HL.out]; exact hlt);have hlt':k<m.length:=by rw [← HL.out]; exact hlt
    have H5:=Lib.hid h5;have H5':=Lib.hid h5';clear h5 h5';generalize hy:l.getD k 0=y at hc;generalize hz:m.getD k 0=z at hc';have Hy:=Lib.hid hy;have Hz:=Lib.hid hz;clear hy hz;by_cases hyx:y=z
    ·subst hyx
     go_wp2;go_quiet (fail);go_wp2;go_roundw
     case rel=>exact ⟨k+1,n+nq,by omega,by go_num,rfl,fun j hj=>by
      by_cases e:j=k
      ·rw [e,Hy.out,Hz.out]
      ·exact hno.out j (by omega)⟩
     case measure=>simp [intOf]; omega
    ·have hq2:(y == z)=false:=by simpa using hyx
     go_wp2;go_quiet (fail);go_wp2;go_ret;exact ⟨n+nq,ret_bool (by symm; apply decide_eq_false; intro e; apply hyx; rw [← Hy.out,← Hz.out,e]),(World.drewN_drewN w n nq).symm⟩
   ·have e:k=l.length:=by omega
    have E:=Lib.hid e;clear e;go_wp2;go_ret;exact ⟨n,ret_bool (by symm; exact decide_eq_true (HS.out fun j hj=>hno.out j (by rw [E.out]; exact hj))),rfl⟩
 ·have hq:((l.length:Int) != (m.length:Int))=true:=by simpa using fun h=>hll (by omega)
  have hr:=Lib.hid (show decide (l=m)=false from decide_eq_false (by rintro rfl; exact hll rfl));clear hll;go_enter Try.func10,Try.ntmps10;go_wp2;go_ret;exact ⟨0,by rw [hr.out]; rfl,rfl⟩
theorem mod_any (x n:Int) (w:World) (h2:1≤n) (h3:n≤1000000) :
  Calls Try.prog 9 #[.int .i64 x,.int .i64 n] w fun e w'=>e=.returned (.int .i64 (x % n))∧w=w':=by
 obtain ⟨m,hm⟩:∃m:Nat,n=m+1:=⟨(n - 1).toNat,by omega⟩;have b:-n<x.tmod n∧x.tmod n<n:=by have:=tmod_bd x m; rw [hm]; omega
 have M:=Lib.hid (show x % n=if x.tmod n<0 then x.tmod n+n else x.tmod n by have:=tmod_mod x m; rw [hm]; exact this);clear hm;go_enter Try.func9,Try.ntmps9;go_wp2
 ·have hh:x.tmod n<0:=by assumption
  go_ret;exact ⟨ret_i64 (by rw [M.out,if_pos hh]),rfl⟩
 ·have hh:0≤x.tmod n:=by assumption
  go_ret;exact ⟨ret_i64 (by rw [M.out,if_neg (by omega)]),rfl⟩
theorem count_any (n:Int) (w:World) :
  Calls Try.prog 23 #[.int .i64 n] w fun e w'=>e=.returned (.int .i64 (cntI n))∧w=w':=by
 by_cases h:0≤n∧n≤20
 ·obtain ⟨m,rfl⟩:∃m:Nat,n=m:=⟨n.toNat,by omega⟩
  have H:=Lib.hid (cntI_in m (by omega));have hm:m≤20:=by omega
  clear h;go_enter Try.func23,Try.ntmps23;go_wp2;go_loop [3,4] (fun s i=>∃c k:Nat,k≤m∧s=.int .i64 c∧i=.int .i64 k∧Hid (c * fact k=fact m)) (fun _ i=>(intOf i).toNat)
  case atStart=>exact ⟨1,m,by omega,rfl,rfl,Lib.hid (by simp)⟩
  case round=>
   obtain ⟨c,k,hk,rfl,rfl,hf⟩:=hrel;by_cases hlt:1<k
   ·obtain ⟨e1,e2⟩:=fact_down m c k hm hf.out hlt
    have E2:=Lib.hid e2;clear e2;generalize c * k=c2 at *;go_wp2;go_round
    case rel=>exact ⟨c2,k - 1,by omega,by rw [e1],by go_num,E2⟩
    case measure=>simp [intOf]; omega
   ·have e:c=fact m:=by
     have:=hf.out;obtain rfl | rfl:k=0∨k=1:=by omega
     ·simpa [fact] using this
     ·simpa [fact] using this
    have E:=Lib.hid e;clear e;go_wp2;go_ret;exact ⟨ret_i64 (by rw [H.out,E.out]),rfl⟩
 ·have H:=Lib.hid (cntI_out n h)
  rcases (show n<0∨20<n by omega) with h | h
  ·go_enter Try.func23,Try.ntmps23
   go_wp2;go_ret;exact ⟨ret_i64 H.out.symm,rfl⟩
  ·have h':¬n<0:=by omega
   go_enter Try.func23,Try.ntmps23;go_wp2;go_ret;exact ⟨ret_i64 H.out.symm,rfl⟩
theorem rcount_any (n:Int) (w:World) :
  Calls Try.prog 19 #[.int .i64 n] w fun e w'=>e=.returned (.int .i64 (cntI n))∧w=w':=by
 by_cases h:0≤n∧n≤20
 ·obtain ⟨m,rfl⟩:∃m:Nat,n=m:=⟨n.toNat,by omega⟩
  have H:=Lib.hid (cntI_in m (by omega));have hm:m≤20:=by omega
  clear h;go_enter Try.func19,Try.ntmps19;go_wp2;go_loop [3,4] (fun s i=>∃c k:Nat,2≤k∧k≤21∧s=.int .i64 c∧i=.int .i64 k∧Hid (c=fact (k - 1))∧Hid (k≤m+1∨k=2)) (fun _ i=>22 - (intOf i).toNat)
  case atStart=>exact ⟨1,2,by omega,by omega,rfl,rfl,Lib.hid (by decide),.inr rfl⟩
  case round=>
   obtain ⟨c,k,hk,hk2,rfl,rfl,hf,hkm⟩:=hrel;by_cases hlt:k≤m
   ·obtain ⟨e1,e2⟩:=fact_up m c k hm hf.out (by omega) hlt
    have E2:=Lib.hid e2;clear e2;generalize c * k=c2 at *;go_wp2;go_round
    case rel=>exact ⟨c2,k+1,by omega,by omega,by rw [e1],by go_num,by simpa using E2,.inl (by omega)⟩
    case measure=>simp [intOf]; omega
   ·have e:c=fact m:=by
     rw [hf.out];rcases hkm.out with h | h
     ·rw [show k - 1=m by omega]
     ·obtain rfl | rfl:m=0∨m=1:=by omega
      ·rw [h]; rfl
      ·rw [h]
    have E:=Lib.hid e;clear e;go_wp2;go_ret;exact ⟨ret_i64 (by rw [H.out,E.out]),rfl⟩
 ·have H:=Lib.hid (cntI_out n h)
  rcases (show n<0∨20<n by omega) with h | h
  ·go_enter Try.func19,Try.ntmps19
   go_wp2;go_ret;exact ⟨ret_i64 H.out.symm,rfl⟩
  ·have h':¬n<0:=by omega
   go_enter Try.func19,Try.ntmps19;go_wp2;go_ret;exact ⟨ret_i64 H.out.symm,rfl⟩
theorem toList_madeCells_one' (z:Value) (n:Nat):(madeCells #[z] n).toList=List.replicate n z:=toList_madeCells_one z n
theorem Try.info_i64:(Try.prog.info? 3).map (fun i=>(i.zero,i.size,i.bytes))=some (some (.int .i64 0),1,8):=by kernel_rfl
theorem wp_make_i64 (w:World) {ops:Array Oper} {rest:List Oper} {o:Oper} {a:Act} {Q:Exit→Act→World→Prop}
  (hg:o.guard=none) (l c:Operand) (hop:o.op=Op.makeSlice 22 l c) (n:Nat) (L C:Int) (hl:a.eval l=.int .i64 L) (hc:a.eval c=.int .i64 C) (hL:L=n) (hC:C=n) (hn:n≤1000000)
  (hK:∀w',OwnI w' w.heap.size 3 .i64 (.slice (some ⟨w.heap.size,0,none⟩) n n) (List.replicate n 0)→Below w.heap.size w w'→wpList Try.prog ops Q rest (a.put o.dst (.slice (some ⟨w.heap.size,0,none⟩) n n)) w') :
  wpList Try.prog ops Q (o :: rest) a w:=by
 obtain ⟨i0,hi,hz0,hz1,hz2⟩:=info_parts Try.info_i64;refine wpList_make_full w hg l c _ hop w.heap.size 3 i0 (.int .i64 0) 1 Try.underlying22 hi hz0 hz1 _ _ _ _ n hl hc hL hC (by rw [hz2]; omega) (by unfold maxLen; omega) (Nat.le_refl _) fun w' h1 h2=>?_;refine hK w' ?_ ((Below.refl _ _).grown h2 (Nat.le_refl _) (fun k hk=>by cases hk));unfold OwnI;rw [show (Value.int .i64 0).cells=#[.int .i64 0] from rfl,toList_madeCells_one'] at h1;simpa using h1
theorem wp_append_i64 (w:World) {ops:Array Oper} {rest:List Oper} {o:Oper} {a:Act} {Q:Exit→Act→World→Prop}
  (hg:o.guard=none) (s x:Operand) (hop:o.op=Op.call { callee:=Callee.builtin Builtin.append,args:=#[s,x],argTypes:=#[22,22] })
  (base:Nat) (v:Value) (l:List Int) (hs:a.eval s=v) (hown:OwnI w base 3 .i64 v l) (y:Int) (g:Nat)
  (hx:a.eval x=.slice (some ⟨g,0,none⟩) 1 1) (hcell:w.cell? ⟨g,0,none⟩=some (.int .i64 y)) (hl:l.length≤1000000) (hb:base≤w.heap.size)
  (hK:∀v' w',OwnI w' base 3 .i64 v' (l ++ [y])→w.grownBy w' v.ownBlock→wpList Try.prog ops Q rest (a.put o.dst v') w') :
  wpList Try.prog ops Q (o :: rest) a w:=by
 obtain ⟨i0,hi,hz0,hz1,hz2⟩:=info_parts Try.info_i64;refine wpList_append_own w hg s x _ hop base _ i0 (.int .i64 0) 1 _ (by kernel_rfl) hi hz0 hz1 rfl rfl (by decide) v l.length _ hs hown ⟨g,0,none⟩ 1 1 [.int .i64 y] hx rfl ?_ ?_ (by unfold maxLen; omega) (by rw [hz2]; omega) hb fun v' w' h1 h2 h3=>hK v' w' ?_ h2
 ·intro j u hj
  match j,hj with
  | 0,hj=>simp at hj; subst hj; simpa [Addr.add] using hcell
 ·intro u hu; simp at hu; subst hu; rfl
 ·unfold OwnI
  rw [List.length_append,List.map_append];exact h1
theorem Try.info_bool:(Try.prog.info? 4).map (fun i=>(i.zero,i.size,i.bytes))=some (some (.bool false),1,1):=by kernel_rfl
theorem wp_make_bool (w:World) {ops:Array Oper} {rest:List Oper} {o:Oper} {a:Act} {Q:Exit→Act→World→Prop}
  (hg:o.guard=none) (l c:Operand) (hop:o.op=Op.makeSlice 33 l c) (n:Nat) (L C:Int) (hl:a.eval l=.int .i64 L) (hc:a.eval c=.int .i64 C) (hL:L=n) (hC:C=n) (hn:n≤1000000)
  (hK:∀w',OwnB w' w.heap.size 4 (.slice (some ⟨w.heap.size,0,none⟩) n n) (List.replicate n false)→Below w.heap.size w w'→wpList Try.prog ops Q rest (a.put o.dst (.slice (some ⟨w.heap.size,0,none⟩) n n)) w') :
  wpList Try.prog ops Q (o :: rest) a w:=by
 obtain ⟨i0,hi,hz0,hz1,hz2⟩:=info_parts Try.info_bool;refine wpList_make_full w hg l c _ hop w.heap.size 4 i0 (.bool false) 1 Try.underlying33 hi hz0 hz1 _ _ _ _ n hl hc hL hC (by rw [hz2]; omega) (by unfold maxLen; omega) (Nat.le_refl _) fun w' h1 h2=>?_;refine hK w' ?_ ((Below.refl _ _).grown h2 (Nat.le_refl _) (fun k hk=>by cases hk));unfold OwnB;rw [show (Value.bool false).cells=#[.bool false] from rfl,toList_madeCells_one'] at h1;simpa using h1
theorem ascending_any (n:Nat) (w:World) (hn:n≤1000) :
  Calls Try.prog 29 #[.int .i64 n] w fun e w'=>e=.returned (.slice (some ⟨w.heap.size,0,none⟩) n n)∧OwnI w' w.heap.size 3 .i64 (.slice (some ⟨w.heap.size,0,none⟩) n n) (asc n)∧Below w.heap.size w w':=by
 have HF:=Lib.hid (fill_full n);go_enter Try.func29,Try.ntmps29;go_wp2_with (at_make; refine wp_make_i64 w rfl _ _ rfl n _ _ rfl rfl rfl rfl ?_ ?_; omega; intro w1 hown hgrow);rw [← fill_zero] at hown;go_loopw [4,9] (fun _ c wr=>∃k:Nat,k≤n∧c=.int .i64 k∧OwnI wr w.heap.size 3 .i64 (.slice (some ⟨w.heap.size,0,none⟩) n n) (fill n k)∧Below w.heap.size w wr) (fun _ c _=>n - (intOf c).toNat)
 case atStart=>exact ⟨0,by omega,rfl,hown,hgrow⟩
 case round=>
  clear hown hgrow;obtain ⟨k,hk,rfl,hown,hbel⟩:=hrel;by_cases hlt:k<n
  ·have hlen:=fill_length n k hk
   obtain ⟨c1,c2⟩:=hown.cell k (by omega);have S1:=hown.store k k (by omega);rw [fill_step n k hlt] at S1;have S2:=hbel.setCell (p:=⟨w.heap.size,k,none⟩) (Nat.le_refl _) (.int .i64 k);have SS:=Lib.hid (And.intro S1 S2);clear S1 S2 hown hbel hlen;generalize (fill n k).getD k 0=x0 at c1;go_wp2;go_roundw
   case rel=>exact ⟨k+1,by omega,by go_num,SS.out.1,SS.out.2⟩
   case measure=>simp [intOf]; omega
  ·obtain rfl:k=n:=by omega
   have SS:=Lib.hid (And.intro hown hbel);clear hown hbel;go_wp2;go_ret;exact ⟨rfl,by rw [← HF.out]; exact SS.out.1,SS.out.2⟩
theorem order_any (n:Int) (v:Value) (d:List Int) (w:World) (hd:SlI w .i64 v d) (h1:1≤n) (h2:n≤20) :
  Calls Try.prog 24 #[.int .i64 n,v] w fun e w'=>e=.returned (.slice (some ⟨w.heap.size,0,none⟩) n.toNat n.toNat)∧OwnI w' w.heap.size 3 .i64 (.slice (some ⟨w.heap.size,0,none⟩) n.toNat n.toNat) (shuf d (n.toNat - 1) (asc n.toNat))∧Below w.heap.size w w':=by
 obtain ⟨m,rfl⟩:∃m:Nat,n=m:=⟨n.toNat,by omega⟩;rw [Int.toNat_natCast];go_enter Try.func24,Try.ntmps24;go_wp2_with (go_at_call 29; refine (ascending_any m w (by omega)).mono ?_; rintro e w1 ⟨rfl,hown,hbel⟩);go_loopw [6,7] (fun c _ wr=>∃k:Nat,∃l:List Int,k<m∧c=.int .i64 k∧l.length=m∧Hid (shuf d k l=shuf d (m - 1) (asc m))∧OwnI wr w.heap.size 3 .i64 (.slice (some ⟨w.heap.size,0,none⟩) m m) l∧Below w.heap.size w wr) (fun c _ _=>(intOf c).toNat)
 case atStart=>exact ⟨m - 1,asc m,by omega,by go_num,asc_length m,Lib.hid rfl,hown,hbel⟩
 case round=>
  clear hown hbel;obtain ⟨k,l,hk,rfl,hl,hsh,hown,hbel⟩:=hrel;by_cases hlt:0<k
  ·have V:=Lib.hid (valid_any v d k wr (hd.below hbel) (by omega))
   have hj:=drawI_le d k;generalize hjj:drawI d k=j at *;obtain ⟨c1,c2⟩:=hown.cell k (by omega);obtain ⟨c3,c4⟩:=hown.cell j (by omega);have HJ:=Lib.hid hjj;have HL:=Lib.hid hl;have HO:=Lib.hid (And.intro hown hbel);have hjl:j<l.length:=by omega
   clear hjj hl hown hbel;generalize hx:l.getD k 0=x at *;generalize hy:l.getD j 0=y at *;have HX:=Lib.hid hx;have HY:=Lib.hid hy;clear hx hy;go_wp2_with (go_at_call 30; refine V.out.mono ?_; rintro e w2 ⟨rfl,rfl⟩);obtain ⟨z,c5⟩:=cell?_setCell_some (w:=wr) (p:=⟨w.heap.size,k,none⟩) (x:=.int .i64 y) (q:=⟨w.heap.size,j,none⟩) (v:=.int .i64 y) c3;have R:=Lib.hid (shuf_round d l k j hlt HJ.out);go_region;go_wp2;go_roundw
   case rel=>exact ⟨k - 1,swp l k j,by omega,by go_num,by rw [swp_length]; exact HL.out,by rw [← R.out]; exact hsh,by
     have:=(HO.out.1.store k y HL.out.symm).store j x (by simp; exact HL.out.symm);unfold swp; rw [HX.out,HY.out]; exact this,(HO.out.2.setCell (p:=⟨w.heap.size,k,none⟩) (Nat.le_refl _) _).setCell (p:=⟨w.heap.size,j,none⟩) (Nat.le_refl _) _ |>.drew⟩
   case measure=>simp [intOf]; omega
  ·obtain rfl:k=0:=by omega
   have HO:=Lib.hid (And.intro hown hbel);clear hown hbel;go_wp2;go_ret;exact ⟨rfl,by rw [← hsh.out]; exact HO.out.1,HO.out.2⟩
theorem rorder_any (n:Int) (v:Value) (d:List Int) (w:World) (hd:SlI w .i64 v d) (h1:1≤n) (h2:n≤20) :
  Calls Try.prog 26 #[.int .i64 n,v] w fun e w'=>e=.returned (.slice (some ⟨w.heap.size,0,none⟩) n.toNat n.toNat)∧OwnI w' w.heap.size 3 .i64 (.slice (some ⟨w.heap.size,0,none⟩) n.toNat n.toNat) (shuf d (n.toNat - 1) (asc n.toNat))∧Below w.heap.size w w':=by
 obtain ⟨m,rfl⟩:∃m:Nat,n=m:=⟨n.toNat,by omega⟩;rw [Int.toNat_natCast];have HF:=Lib.hid (fill_full m);go_enter Try.func26,Try.ntmps26;go_wp2_with (at_make; refine wp_make_i64 w rfl _ _ rfl m _ _ rfl rfl rfl rfl ?_ ?_; omega; intro w1 hown hgrow);rw [← fill_zero] at hown;go_loopw [6] (fun c wr=>∃k:Nat,k≤m∧c=.int .i64 k∧OwnI wr w.heap.size 3 .i64 (.slice (some ⟨w.heap.size,0,none⟩) m m) (fill m k)∧Below w.heap.size w wr) (fun c _=>m - (intOf c).toNat)
 case atStart=>exact ⟨0,by omega,rfl,hown,hgrow⟩
 case round=>
  clear hown hgrow;obtain ⟨k,hk,rfl,hown,hbel⟩:=hrel;by_cases hlt:k<m
  ·have hlen:=fill_length m k hk
   obtain ⟨c1,c2⟩:=hown.cell k (by omega);have S1:=hown.store k k (by omega);rw [fill_step m k hlt] at S1;have S2:=hbel.setCell (p:=⟨w.heap.size,k,none⟩) (Nat.le_refl _) (.int .i64 k);have SS:=Lib.hid (And.intro S1 S2);clear S1 S2 hown hbel hlen;generalize (fill m k).getD k 0=x0 at c1;go_wp2;go_roundw
   case rel=>exact ⟨k+1,by omega,by go_num,SS.out.1,SS.out.2⟩
   case measure=>simp [intOf]; omega
  ·obtain rfl:k=m:=by omega
   rw [HF.out] at hown;go_wp2;go_loopw [7,8,9,10] (fun c _ _ _ wr=>∃q:Nat,∃l:List Int,q<k∧c=.int .i64 q∧l.length=k∧Hid (shuf d q l=shuf d (k - 1) (asc k))∧OwnI wr w.heap.size 3 .i64 (.slice (some ⟨w.heap.size,0,none⟩) k k) l∧Below w.heap.size w wr) (fun c _ _ _ _=>(intOf c).toNat)
   case atStart=>exact ⟨k - 1,asc k,by omega,by go_num,asc_length k,Lib.hid rfl,hown,hbel⟩
   case round=>
    clear hown hbel;obtain ⟨q,l,hq,rfl,hl,hsh,hown,hbel⟩:=hrel;by_cases hlt:0<q
    ·have V:=Lib.hid fun wx=>rdraw_any v d q wx
     have HD:=Lib.hid (hd.below hbel);have hj:=drawI_le d q;generalize hjj:drawI d q=j at *;obtain ⟨c1,c2⟩:=hown.cell q (by omega);obtain ⟨c3,c4⟩:=hown.cell j (by omega);have HJ:=Lib.hid hjj;have HL:=Lib.hid hl;have HO:=Lib.hid (And.intro hown hbel);have hjl:j<l.length:=by omega
     clear hjj hl hown hbel;generalize hx:l.getD q 0=x at *;generalize hy:l.getD j 0=y at *;have HX:=Lib.hid hx;have HY:=Lib.hid hy;clear hx hy;have hq20:q≤20:=by omega
     go_wp2_with (go_at_call 31; refine (V.out _ HD.out hq20).mono ?_; rintro e w2 ⟨rfl,rfl⟩);go_quiet (fail);obtain ⟨z,c5⟩:=cell?_setCell_some (w:=wr.drewN nq) (p:=⟨w.heap.size,q,none⟩) (x:=.int .i64 y) (q:=⟨w.heap.size,j,none⟩) (v:=.int .i64 y) c3;have R:=Lib.hid (shuf_round d l q j hlt HJ.out);go_wp2;go_roundw
     case rel=>exact ⟨q - 1,swp l q j,by omega,by go_num,by rw [swp_length]; exact HL.out,by rw [← R.out]; exact hsh,by
       have:=(HO.out.1.store q y HL.out.symm).store j x (by simp; exact HL.out.symm);unfold swp; rw [HX.out,HY.out]; exact this,(below_drewN HO.out.2 _).setCell (p:=⟨w.heap.size,q,none⟩) (Nat.le_refl _) _ |>.setCell (p:=⟨w.heap.size,j,none⟩) (Nat.le_refl _) _⟩
     case measure=>simp [intOf]; omega
    ·obtain rfl:q=0:=by omega
     have HO:=Lib.hid (And.intro hown hbel);clear hown hbel;go_wp2;go_ret;exact ⟨rfl,by rw [← hsh.out]; exact HO.out.1,HO.out.2⟩
def ordL (n:Int) (d:List Int):List Int:=if 1≤n∧n≤20 then shuf d (n.toNat - 1) (asc n.toNat) else []
theorem ordL_mem (n:Int) (d:List Int) (x:Int) (h:x∈ordL n d):0≤x∧x<n:=by
 unfold ordL at h;split at h
 ·have:=asc_mem _ _ (shuf_mem d _ _ (by rw [asc_length]; omega) x h); omega
 ·simp at h
theorem ordL_length (n:Int) (d:List Int):(ordL n d).length≤20:=by
 unfold ordL;split
 ·rw [shuf_length,asc_length]; omega
 ·simp
theorem order_read (n:Int) (v:Value) (d:List Int) (w:World) (hd:SlI w .i64 v d) :
  Calls Try.prog 24 #[.int .i64 n,v] w fun e w'=>∃u,e=.returned u∧SlI w' .i64 u (ordL n d)∧Below w.heap.size w w':=by
 by_cases h:1≤n∧n≤20
 ·refine (order_any n v d w hd h.1 h.2).mono ?_
  rintro e w' ⟨rfl,ho,hb⟩;refine ⟨_,rfl,?_,hb⟩;have e1:ordL n d=shuf d (n.toNat - 1) (asc n.toNat):=by unfold ordL; rw [if_pos h]
  have hm:=ordL_mem n d;have hl:=ordL_length n d;rw [e1] at hm hl ⊢;exact ho.read (by omega) fun x hx=>i64_ok x (by have:=hm x hx; omega) (by have:=hm x hx; omega)
 ·have e1:ordL n d=[]:=by unfold ordL; rw [if_neg h]
  have H:=Lib.hid e1;clear e1;rcases (show n<1∨20<n by omega) with h | h
  ·go_enter Try.func24,Try.ntmps24
   go_wp2;go_ret;exact ⟨_,rfl,by rw [H.out]; exact SlI.nil _ _,Below.refl _ _⟩
  ·have h':¬n<1:=by omega
   go_enter Try.func24,Try.ntmps24;go_wp2;go_ret;exact ⟨_,rfl,by rw [H.out]; exact SlI.nil _ _,Below.refl _ _⟩
theorem rorder_read (n:Int) (v:Value) (d:List Int) (w:World) (hd:SlI w .i64 v d) :
  Calls Try.prog 26 #[.int .i64 n,v] w fun e w'=>∃u,e=.returned u∧SlI w' .i64 u (ordL n d)∧Below w.heap.size w w':=by
 by_cases h:1≤n∧n≤20
 ·refine (rorder_any n v d w hd h.1 h.2).mono ?_
  rintro e w' ⟨rfl,ho,hb⟩;refine ⟨_,rfl,?_,hb⟩;have e1:ordL n d=shuf d (n.toNat - 1) (asc n.toNat):=by unfold ordL; rw [if_pos h]
  have hm:=ordL_mem n d;have hl:=ordL_length n d;rw [e1] at hm hl ⊢;exact ho.read (by omega) fun x hx=>i64_ok x (by have:=hm x hx; omega) (by have:=hm x hx; omega)
 ·have e1:ordL n d=[]:=by unfold ordL; rw [if_neg h]
  have H:=Lib.hid e1;clear e1;rcases (show n<1∨20<n by omega) with h | h
  ·go_enter Try.func26,Try.ntmps26
   go_wp2;go_ret;exact ⟨_,rfl,by rw [H.out]; exact SlI.nil _ _,Below.refl _ _⟩
  ·have h':¬n<1:=by omega
   go_enter Try.func26,Try.ntmps26;go_wp2;go_ret;exact ⟨_,rfl,by rw [H.out]; exact SlI.nil _ _,Below.refl _ _⟩
theorem nth_any (n k:Int) (w:World) :
  Calls Try.prog 21 #[.int .i64 n,.int .i64 k] w fun e w'=>∃u,e=.returned (.tuple #[u,.bool (nthB n k)])∧SlI w' .i64 u (nthL n k)∧Below w.heap.size w w':=by
 by_cases h:0≤k∧k<cntI n
 ·obtain ⟨n0,n20,hb,hl⟩:=nth_yes n k h
  have H:=Lib.hid (And.intro hb hl);clear hb hl;obtain ⟨h0,h1⟩:=h;obtain ⟨m,rfl⟩:∃m:Nat,n=m:=⟨n.toNat,by omega⟩;obtain ⟨k0,rfl⟩:∃m:Nat,k=m:=⟨k.toNat,by omega⟩;have hk9:k0≤2432902008176640000:=by have:=cntI_in m (by omega); have:=fact_20 m (by omega); omega
  have HK:=Lib.hid hk9;clear hk9;generalize hc:cntI m=c at h1;have hd:decide (c≤(k0:Int))=false:=by simpa using h1
  have HC:=Lib.hid fun w=>(hc▸count_any m w:Calls Try.prog 23 #[.int .i64 (m:Int)] w fun e w'=>e=.returned (.int .i64 c)∧w=w');clear hc h1;go_enter Try.func21,Try.ntmps21;go_wp2_with (first
   | (go_at_call 23; refine (HC.out _).mono ?_; rintro e w' ⟨rfl,rfl⟩)
   | (at_make; refine wp_make_i64 w rfl _ _ rfl m _ _ rfl rfl rfl rfl ?_ ?_; omega; intro w1 hown hgrow))
  go_loopw [1,7] (fun s c wr=>∃k q:Nat,∃l:List Int,q≤m∧s=.int .i64 k∧c=.int .i64 ((q:Int) - 1)∧l.length=m∧Hid (k≤2432902008176640000)∧Hid (nthR q k ++ l.drop q=nthR m k0)∧OwnI wr w.heap.size 3 .i64 (.slice (some ⟨w.heap.size,0,none⟩) m m) l∧Below w.heap.size w wr) (fun _ c _=>(intOf c+1).toNat)
  case atStart=>exact ⟨k0,m,List.replicate m 0,by omega,rfl,rfl,by simp,HK,Lib.hid (by simp),hown,hgrow⟩
  case round=>
   clear hown hgrow HK;obtain ⟨k,q,l,hq,rfl,rfl,hl,hk9,hsh,hown,hbel⟩:=hrel;by_cases hlt:0<q
   ·-- one round
    obtain ⟨i,rfl⟩:∃i,q=i+1:=⟨q - 1,by omega⟩;obtain ⟨c1,c2⟩:=hown.cell i (by omega);have S1:=hown.store i ((k % (i+1):Nat):Int) hl.symm;have S2:=hbel.setCell (p:=⟨w.heap.size,i,none⟩) (Nat.le_refl _) (.int .i64 ((k % (i+1):Nat):Int));have S3:=nthR_step m k0 i k l (by omega) hsh.out;have S4:(l.set i ((k % (i+1):Nat):Int)).length=m:=by simpa using hl
    have SS:=Lib.hid (And.intro S4 (And.intro S3 (And.intro S1 S2)));have hkd:k / (i+1)≤2432902008176640000:=Nat.le_trans (Nat.div_le_self _ _) hk9.out;have HK2:=Lib.hid hkd;have E1:((k % (i+1):Nat):Int)=(k:Int) % ((i:Int)+1):=by push_cast; rfl
    have E2:((k / (i+1):Nat):Int)=(k:Int) / ((i:Int)+1):=by push_cast; rfl
    have B1:0≤(k:Int) % ((i:Int)+1):=Int.emod_nonneg _ (by omega);have B2:(k:Int) % ((i:Int)+1)<(i:Int)+1:=Int.emod_lt_of_pos _ (by omega);have B3:0≤(k:Int) / ((i:Int)+1):=Int.ediv_nonneg (by omega) (by omega);have B4:(k:Int) / ((i:Int)+1)≤2432902008176640000:=by rw [← E2]; omega
    have E3:=Int.tmod_eq_emod_of_nonneg (a:=(k:Int)) (b:=(i:Int)+1) (by omega);have E4:=Int.tdiv_eq_ediv_of_nonneg (a:=(k:Int)) (b:=(i:Int)+1) (by omega);have HE:=Lib.hid (And.intro E1 (And.intro E2 (And.intro E3 E4)));have W4:wrap64 ((k:Int) / ((i:Int)+1))=(k:Int) / ((i:Int)+1):=by unfold wrap64; omega
    clear S1 S2 S3 S4 hkd E1 E2 E3 E4 hown hbel hl hsh B4;rw [show (((i+1:Nat):Int) - 1)=(i:Int) by omega];go_wp2;go_region;go_wp2;go_roundw
    case rel=>exact ⟨k / (i+1),i,l.set i ((k % (i+1):Nat):Int),by omega,by rw [HE.out.2.1,W4],by go_num,SS.out.1,HK2,SS.out.2.1,by have:=SS.out.2.2.1; rw [HE.out.1] at this ⊢; exact this,by have:=SS.out.2.2.2; rw [HE.out.1] at this; first | exact this | exact this.drew⟩
    case measure=>simp [intOf]
   ·obtain rfl:q=0:=by omega
    have e:l=nthR m k0:=by simpa [nthR] using hsh.out
    have SS:=Lib.hid (And.intro hown (And.intro hbel e));clear hown hbel e hl;go_wp2;go_ret2;refine ⟨_,by rw [H.out.1]; rfl,?_,SS.out.2.1⟩;rw [H.out.2,Int.toNat_natCast,Int.toNat_natCast,← SS.out.2.2];refine SS.out.1.read (by rw [SS.out.2.2,nthR_length]; omega) fun x hx=>?_;rw [SS.out.2.2] at hx;have:=nthR_mem _ _ _ hx;exact i64_ok x (by omega) (by omega)
 ·obtain ⟨hb,hl⟩:=nth_no n k h
  have H:=Lib.hid (And.intro hb hl);clear hb hl;by_cases hk:k<0
  ·clear h
   go_enter Try.func21,Try.ntmps21;go_wp2;go_ret2;exact ⟨_,by rw [H.out.1]; rfl,by rw [H.out.2]; exact SlI.nil _ _,Below.refl _ _⟩
  ·have hk':0≤k:=by omega
   have hge:cntI n≤k:=by omega
   have HC:=Lib.hid fun w=>count_any n w;generalize cntI n=c at *;clear h;have hd:decide (c≤k)=true:=by simpa using hge
   go_enter Try.func21,Try.ntmps21;go_wp2_with (go_at_call 23; refine (HC.out _).mono ?_; rintro e w' ⟨rfl,rfl⟩);go_ret2;exact ⟨_,by rw [H.out.1]; rfl,by rw [H.out.2]; exact SlI.nil _ _,Below.refl _ _⟩
theorem rnth_any (n k:Int) (w:World) :
  Calls Try.prog 25 #[.int .i64 n,.int .i64 k] w fun e w'=>∃u,e=.returned (.tuple #[u,.bool (nthB n k)])∧SlI w' .i64 u (nthL n k)∧Below w.heap.size w w':=by
 by_cases h:0≤k∧k<cntI n
 ·obtain ⟨n0,n20,hb,hl⟩:=nth_yes n k h
  have H:=Lib.hid (And.intro hb hl);clear hb hl;obtain ⟨h0,h1⟩:=h;obtain ⟨m,rfl⟩:∃m:Nat,n=m:=⟨n.toNat,by omega⟩;obtain ⟨k0,rfl⟩:∃m:Nat,k=m:=⟨k.toNat,by omega⟩;have hk9:k0≤2432902008176640000:=by have:=cntI_in m (by omega); have:=fact_20 m (by omega); omega
  have HK:=Lib.hid hk9;clear hk9;generalize hc:cntI m=c at h1;have hd:decide (c≤(k0:Int))=false:=by simpa using h1
  have HC:=Lib.hid fun w=>(hc▸rcount_any m w:Calls Try.prog 19 #[.int .i64 (m:Int)] w fun e w'=>e=.returned (.int .i64 c)∧w=w');clear hc h1;go_enter Try.func25,Try.ntmps25;go_wp2_with (first
   | (go_at_call 19; refine (HC.out _).mono ?_; rintro e w' ⟨rfl,rfl⟩)
   | (at_make; refine wp_make_i64 w rfl _ _ rfl m _ _ rfl rfl rfl rfl ?_ ?_; omega; intro w1 hown hgrow))
  go_loopw [1,7] (fun s c wr=>∃k q:Nat,∃l:List Int,q≤m∧s=.int .i64 k∧c=.int .i64 (q:Int)∧l.length=m∧Hid (k≤2432902008176640000)∧Hid (nthR q k ++ l.drop q=nthR m k0)∧OwnI wr w.heap.size 3 .i64 (.slice (some ⟨w.heap.size,0,none⟩) m m) l∧Below w.heap.size w wr) (fun _ c _=>(intOf c).toNat)
  case atStart=>exact ⟨k0,m,List.replicate m 0,by omega,rfl,rfl,by simp,HK,Lib.hid (by simp),hown,hgrow⟩
  case round=>
   clear hown hgrow HK;obtain ⟨k,q,l,hq,rfl,rfl,hl,hk9,hsh,hown,hbel⟩:=hrel;by_cases hlt:0<q
   ·-- one round
    obtain ⟨i,rfl⟩:∃i,q=i+1:=⟨q - 1,by omega⟩;obtain ⟨c1,c2⟩:=hown.cell i (by omega);have S1:=hown.store i ((k % (i+1):Nat):Int) hl.symm;have S2:=hbel.setCell (p:=⟨w.heap.size,i,none⟩) (Nat.le_refl _) (.int .i64 ((k % (i+1):Nat):Int));have S3:=nthR_step m k0 i k l (by omega) hsh.out;have S4:(l.set i ((k % (i+1):Nat):Int)).length=m:=by simpa using hl
    have SS:=Lib.hid (And.intro S4 (And.intro S3 (And.intro S1 S2)));have hkd:k / (i+1)≤2432902008176640000:=Nat.le_trans (Nat.div_le_self _ _) hk9.out;have HK2:=Lib.hid hkd;have E1:((k % (i+1):Nat):Int)=(k:Int) % ((i:Int)+1):=by push_cast; rfl
    have E2:((k / (i+1):Nat):Int)=(k:Int) / ((i:Int)+1):=by push_cast; rfl
    have B1:0≤(k:Int) % ((i:Int)+1):=Int.emod_nonneg _ (by omega);have B2:(k:Int) % ((i:Int)+1)<(i:Int)+1:=Int.emod_lt_of_pos _ (by omega);have B3:0≤(k:Int) / ((i:Int)+1):=Int.ediv_nonneg (by omega) (by omega);have B4:(k:Int) / ((i:Int)+1)≤2432902008176640000:=by rw [← E2]; omega
    have E3:=Int.tmod_eq_emod_of_nonneg (a:=(k:Int)) (b:=(i:Int)+1) (by omega);have E4:=Int.tdiv_eq_ediv_of_nonneg (a:=(k:Int)) (b:=(i:Int)+1) (by omega);have HE:=Lib.hid (And.intro E1 (And.intro E2 (And.intro E3 E4)));have W4:wrap64 ((k:Int) / ((i:Int)+1))=(k:Int) / ((i:Int)+1):=by unfold wrap64; omega
    clear S1 S2 S3 S4 hkd E1 E2 E3 E4 hown hbel hl hsh B4;rw [show ((i+1:Nat):Int)=(i:Int)+1 by omega];go_wp2;go_roundw
    case rel=>exact ⟨k / (i+1),i,l.set i ((k % (i+1):Nat):Int),by omega,by rw [HE.out.2.1,W4],by go_num,SS.out.1,HK2,SS.out.2.1,by have:=SS.out.2.2.1; rw [HE.out.1] at this ⊢; exact this,by have:=SS.out.2.2.2; rw [HE.out.1] at this; first | exact this | exact this.drew⟩
    case measure=>simp [intOf]
   ·obtain rfl:q=0:=by omega
    have e:l=nthR m k0:=by simpa [nthR] using hsh.out
    have SS:=Lib.hid (And.intro hown (And.intro hbel e));clear hown hbel e hl;go_wp2;go_ret2;refine ⟨_,by rw [H.out.1]; rfl,?_,SS.out.2.1⟩;rw [H.out.2,Int.toNat_natCast,Int.toNat_natCast,← SS.out.2.2];refine SS.out.1.read (by rw [SS.out.2.2,nthR_length]; omega) fun x hx=>?_;rw [SS.out.2.2] at hx;have:=nthR_mem _ _ _ hx;exact i64_ok x (by omega) (by omega)
 ·obtain ⟨hb,hl⟩:=nth_no n k h
  have H:=Lib.hid (And.intro hb hl);clear hb hl;by_cases hn:n<0
  ·clear h
   go_enter Try.func25,Try.ntmps25;go_wp2;go_ret2;exact ⟨_,by rw [H.out.1]; rfl,by rw [H.out.2]; exact SlI.nil _ _,Below.refl _ _⟩
  ·by_cases hn2:20<n
   ·clear h
    go_enter Try.func25,Try.ntmps25;go_wp2;go_ret2;exact ⟨_,by rw [H.out.1]; rfl,by rw [H.out.2]; exact SlI.nil _ _,Below.refl _ _⟩
   ·by_cases hk:k<0
    ·clear h
     go_enter Try.func25,Try.ntmps25;go_wp2;go_ret2;exact ⟨_,by rw [H.out.1]; rfl,by rw [H.out.2]; exact SlI.nil _ _,Below.refl _ _⟩
    ·have hk':0≤k:=by omega
     have hge:cntI n≤k:=by omega
     have HC:=Lib.hid fun w=>rcount_any n w;generalize cntI n=c at *;clear h;have hd:decide (c≤k)=true:=by simpa using hge
     go_enter Try.func25,Try.ntmps25;go_wp2_with (go_at_call 19; refine (HC.out _).mono ?_; rintro e w' ⟨rfl,rfl⟩);go_ret2;exact ⟨_,by rw [H.out.1]; rfl,by rw [H.out.2]; exact SlI.nil _ _,Below.refl _ _⟩
theorem possible_any (t:Int) (w:World):Calls Try.prog 20 #[.int .i64 t] w fun e w'=>e=.returned (.bool (decide (1≤t∧t≤8)))∧w=w':=by
 have E:Hid ((decide (1≤t) && decide (t≤8))=decide (1≤t∧t≤8)):=(Bool.decide_and _ _).symm;by_cases h1:1≤t
 ·have E2:Hid (decide (t≤8)=decide (1≤t∧t≤8)):=by have:=E.out; rw [decide_eq_true h1,Bool.true_and] at this; exact this
  go_enter Try.func20,Try.ntmps20;go_wp2;go_ret;exact ⟨by first | exact ret_bool E2.out | exact ret_bool E.out | exact ret_bool (by simp <;> omega),rfl⟩
 ·have E2:Hid (false=decide (1≤t∧t≤8)):=by have:=E.out; rw [decide_eq_false h1,Bool.false_and] at this; exact this
  go_enter Try.func20,Try.ntmps20;go_wp2;go_ret;exact ⟨by first | exact ret_bool E2.out | exact ret_bool E.out | exact ret_bool (by simp <;> omega),rfl⟩
theorem remainder_any (x n:Int) (w:World) (h2:1≤n) (h3:n≤1000000) :
  Calls Try.prog 22 #[.int .i64 x,.int .i64 n] w fun e w'=>e=.returned (.int .i64 (x % n))∧w=w':=by
 obtain ⟨m,hm⟩:∃m:Nat,n=m+1:=⟨(n - 1).toNat,by omega⟩;have b:-n<x.tmod n∧x.tmod n<n:=by have:=tmod_bd x m; rw [hm]; omega
 have M:=Lib.hid (show x % n=if x.tmod n<0 then x.tmod n+n else x.tmod n by have:=tmod_mod x m; rw [hm]; exact this);clear hm;go_enter Try.func22,Try.ntmps22;go_wp2
 ·have hh:x.tmod n<0:=by assumption
  go_ret;exact ⟨ret_i64 (by rw [M.out,if_pos hh]),rfl⟩
 ·have hh:0≤x.tmod n:=by assumption
  go_ret;exact ⟨ret_i64 (by rw [M.out,if_neg (by omega)]),rfl⟩
theorem counted_any (x:Int) (w:World):Calls Try.prog 28 #[.int .i64 x] w fun e w'=>e=.returned (.int .i64 (cut1000 x))∧w=w':=by
 rcases (show x<0∨(0≤x∧x≤1000)∨1000<x by omega) with h | ⟨h,h2⟩ | h
 all_goals
  have E:Hid (cut1000 x=if x<0 then 0 else if 1000<x then 1000 else x):=by
   show cut1000 x=_;unfold cut1000
   repeat' split
   all_goals omega
  go_enter Try.func28,Try.ntmps28;go_wp2;go_ret;exact ⟨ret_i64 (by rw [E.out]; repeat' split; all_goals omega),rfl⟩
theorem bound_mul (a b:Int) (ha:0≤a∧a≤1000) (hb:0≤b∧b≤1000) :
  wrap64 (a+1)=a+1∧wrap64 (60 * (a+1))=60 * (a+1)∧wrap64 (60 * (a+1) * (a+1))=60 * (a+1) * (a+1)∧wrap64 (b+1)=b+1∧wrap64 (60 * (a+1) * (a+1) * (b+1))=60 * (a+1) * (a+1) * (b+1):=by
 have h1:0≤(a+1) * (a+1):=Int.mul_nonneg (by omega) (by omega);have h2:(a+1) * (a+1)≤1001 * 1001:=Int.mul_le_mul (by omega) (by omega) (by omega) (by omega);have h3:60 * (a+1) * (a+1)=60 * ((a+1) * (a+1)):=Int.mul_assoc _ _ _;have h4:0≤60 * (a+1) * (a+1) * (b+1):=Int.mul_nonneg (by omega) (by omega);have h5:60 * (a+1) * (a+1) * (b+1)≤60 * (1001 * 1001) * 1001:=Int.mul_le_mul (by omega) (by omega) (by omega) (by omega);refine ⟨by unfold wrap64; omega,by unfold wrap64; omega,?_,by unfold wrap64; omega,?_⟩
 ·generalize 60 * (a+1) * (a+1)=z at *
  unfold wrap64; omega
 ·generalize 60 * (a+1) * (a+1) * (b+1)=z at *
  unfold wrap64; omega
theorem cut1000_bd (x:Int):0≤cut1000 x∧cut1000 x≤1000:=by unfold cut1000; omega
theorem bound_any (t r:Int) (w:World):Calls Try.prog 17 #[.int .i64 t,.int .i64 r] w fun e w'=>e=.returned (.int .i64 (boundP t r))∧w=w':=by
 have T:=Lib.hid fun w'=>counted_any t w';have R:=Lib.hid fun w'=>counted_any r w';obtain ⟨m1,m2,m3,m4,m5⟩:=bound_mul _ _ (cut1000_bd r) (cut1000_bd t);have E:Hid (boundP t r=60 * (cut1000 r+1) * (cut1000 r+1) * (cut1000 t+1)):=rfl;generalize cut1000 t=a at *;generalize cut1000 r=b at *;have MM:=Lib.hid (And.intro m1 (And.intro m2 (And.intro m3 (And.intro m4 m5))));clear m1 m2 m3 m4 m5;go_enter Try.func17,Try.ntmps17;go_wp2_with (first
  | (go_at_call 28; with_reducible refine (R.out _).mono ?_; rintro e w' ⟨rfl,rfl⟩)
  | (go_at_call 28; with_reducible refine (T.out _).mono ?_; rintro e w' ⟨rfl,rfl⟩))
 go_ret;obtain ⟨m1,m2,m3,m4,m5⟩:=MM.out;exact ⟨ret_i64 (by rw [E.out,m1,m2,m3,m4,m5]),rfl⟩
theorem rBound_any (t r:Int) (w:World):Calls Try.prog 18 #[.int .i64 t,.int .i64 r] w fun e w'=>e=.returned (.int .i64 (boundP t r))∧w=w':=by
 obtain ⟨m1,m2,m3,m4,m5⟩:=bound_mul _ _ (cut1000_bd r) (cut1000_bd t);have E:Hid (boundP t r=60 * (cut1000 r+1) * (cut1000 r+1) * (cut1000 t+1)):=rfl;have MM:=Lib.hid (And.intro m1 (And.intro m2 (And.intro m3 (And.intro m4 m5))));clear m1 m2 m3 m4 m5;have w60:wrap64 60=60:=by unfold wrap64; omega
 have W60:=Lib.hid w60;clear w60;rcases (show t≤0∨(0<t∧t≤1000)∨1000<t by omega) with h | ⟨h,h2⟩ | h
 all_goals rcases (show r≤0∨(0<r∧r≤1000)∨1000<r by omega) with g | ⟨g,g2⟩ | g
 all_goals
  have T0:Hid (t≤0→cut1000 t=0):=fun _=>by unfold cut1000; omega
  have T1:Hid (0<t→t≤1000→cut1000 t=t):=fun _ _=>by unfold cut1000; omega
  have T2:Hid (1000<t→cut1000 t=1000):=fun _=>by unfold cut1000; omega
  have R0:Hid (r≤0→cut1000 r=0):=fun _=>by unfold cut1000; omega
  have R1:Hid (0<r→r≤1000→cut1000 r=r):=fun _ _=>by unfold cut1000; omega
  have R2:Hid (1000<r→cut1000 r=1000):=fun _=>by unfold cut1000; omega
  go_enter Try.func18,Try.ntmps18;go_wp2;go_ret;have e:=E.out;have mm:=MM.out
  first
  | rw [T0.out (by assumption)] at e mm
  | rw [T1.out (by assumption) (by assumption)] at e mm
  | rw [T2.out (by assumption)] at e mm
  first
  | rw [R0.out (by assumption)] at e mm
  | rw [R1.out (by assumption) (by assumption)] at e mm
  | rw [R2.out (by assumption)] at e mm
  obtain ⟨m1,m2,m3,m4,m5⟩:=mm;refine ⟨ret_i64 ?_,rfl⟩;rw [e];clear E MM T0 T1 T2 R0 R1 R2 e;have w60:=W60.out
  first
  | exact m5
  | (rw [m3]; exact m5)
  | (simp only [w60]; simp at m1 m2 m3 m4 m5 ⊢; simp [*])
  | (simp [w60] at *; done)
  | (rw [m3,m3]; simp)
theorem round_any (t k:Int) (w:World):Calls Try.prog 11 #[.int .i64 t,.int .i64 k] w fun e w'=>∃u,e=.returned u∧SlI w' .i64 u (roundP t k)∧Below w.heap.size w w':=by
 have P:=Lib.hid fun w'=>possible_any t w';by_cases ht:1≤t∧t≤8
 ·rw [decide_eq_true ht] at P
  obtain ⟨n,rfl⟩:∃n:Nat,t=n:=⟨t.toNat,by omega⟩;have e1:=cntI_in n (by omega);have hp:=fact_pos n;have hf:fact n≤40320:=by have:=fact_le n 8 (by omega); exact this
  have hq0:=Int.emod_nonneg k (show (fact n:Int)≠0 by omega);have hq1:=Int.emod_lt_of_pos k (show (0:Int)<(fact n:Int) by omega);have RI:=roundP_in n k (by omega) (by omega);have C:=Lib.hid fun w'=>count_any (n:Int) w';rw [e1] at C;have M:=Lib.hid fun w'=>remainder_any k (fact n) w' (by omega) (by omega);obtain ⟨q,hq⟩:∃q:Nat,k % (fact n:Int)=q:=⟨(k % (fact n:Int)).toNat,by omega⟩;rw [hq] at M hq0 hq1 RI;obtain ⟨-,-,hb,hl⟩:=nth_yes (n:Int) (q:Int) (by rw [e1]; omega);have T:=Lib.hid fun w'=>nth_any (n:Int) (q:Int) w';rw [hb,hl,Int.toNat_natCast,Int.toNat_natCast] at T;have EO:ordL n (nthR n q)=perm n q:=by unfold ordL perm; rw [if_pos (by omega),Int.toNat_natCast]
  rw [Int.toNat_natCast,← EO] at RI;have RI2:=Lib.hid RI;clear RI EO hb hl hq e1;go_enter Try.func11,Try.ntmps11;go_wp2_with (first
   | (go_at_call 20; refine (P.out _).mono ?_; rintro e w1 ⟨rfl,rfl⟩)
   | (go_at_call 23; refine (C.out _).mono ?_; rintro e w2 ⟨rfl,rfl⟩)
   | (go_at_call 22; refine (M.out _).mono ?_; rintro e w3 ⟨rfl,rfl⟩)
   | (go_at_call 21; refine (T.out _).mono ?_; rintro e w4 ⟨u,rfl,hu,hb4⟩)
   | (go_at_call 24; refine (order_read _ u _ w4 hu).mono ?_; rintro e w5 ⟨u5,rfl,hu5,hb5⟩))
  go_ret;exact ⟨u5,rfl,by rw [RI2.out]; exact hu5,below_then hb4 hb5⟩
 ·rw [decide_eq_false ht] at P
  have RO:=Lib.hid (roundP_out t k ht);clear ht;go_enter Try.func11,Try.ntmps11;go_wp2_with (go_at_call 20; refine (P.out _).mono ?_; rintro e w1 ⟨rfl,rfl⟩);go_ret;exact ⟨_,rfl,by rw [RO.out]; exact SlI.nil _ _,Below.refl _ _⟩
theorem rround_any (t k:Int) (w:World):Calls Try.prog 12 #[.int .i64 t,.int .i64 k] w fun e w'=>∃u,e=.returned u∧SlI w' .i64 u (roundP t k)∧Below w.heap.size w w':=by
 by_cases ht:1≤t∧t≤8
 ·obtain ⟨n,rfl⟩:∃n:Nat,t=n:=⟨t.toNat,by omega⟩
  have e1:=cntI_in n (by omega);have hp:=fact_pos n;have hf:fact n≤40320:=by have:=fact_le n 8 (by omega); exact this
  have hq0:=Int.emod_nonneg k (show (fact n:Int)≠0 by omega);have hq1:=Int.emod_lt_of_pos k (show (0:Int)<(fact n:Int) by omega);have RI:=roundP_in n k (by omega) (by omega);have C:=Lib.hid fun w'=>rcount_any (n:Int) w';rw [e1] at C;obtain ⟨m,hm⟩:∃m:Nat,(fact n:Int)=m+1:=⟨fact n - 1,by omega⟩;have b:-(fact n:Int)<k.tmod (fact n)∧k.tmod (fact n)<fact n:=by have:=tmod_bd k m; rw [hm]; omega
  have M:=show k % (fact n:Int)=if k.tmod (fact n)<0 then k.tmod (fact n)+(fact n:Int) else k.tmod (fact n) by have:=tmod_mod k m; rw [hm]; exact this
  obtain ⟨q,hq⟩:∃q:Nat,k % (fact n:Int)=q:=⟨(k % (fact n:Int)).toNat,by omega⟩;rw [hq] at M hq0 hq1 RI;obtain ⟨-,-,hb,hl⟩:=nth_yes (n:Int) (q:Int) (by rw [e1]; omega);have T:=Lib.hid fun w'=>rnth_any (n:Int) (q:Int) w';rw [hb,hl,Int.toNat_natCast,Int.toNat_natCast] at T;have EO:ordL n (nthR n q)=perm n q:=by unfold ordL perm; rw [if_pos (by omega),Int.toNat_natCast]
  rw [Int.toNat_natCast,← EO] at RI;have RI2:=Lib.hid RI;have MH:=Lib.hid M;obtain ⟨ht1,ht8⟩:=ht;have hF0:¬(fact n:Int)=0:=by omega
  clear RI EO hb hl hq e1 M hm hp hq1 hq0;generalize fact n=F at *;go_enter Try.func12,Try.ntmps12;go_wp2_with (go_at_call 19; refine (C.out _).mono ?_; rintro e w2 ⟨rfl,rfl⟩)
  all_goals
   have hQ:=MH.out
   first
   | (have hh:k.tmod (F:Int)<0:=by assumption
      rw [if_pos hh] at hQ)
   | (have hh:0≤k.tmod (F:Int):=by assumption
      rw [if_neg (by omega)] at hQ)
   rw [← hQ];clear hQ MH;refine (T.out _).mono ?_; rintro e w4 ⟨u,rfl,hu,hb4⟩;go_wp2_with (go_at_call 26; refine (rorder_read _ u _ w4 hu).mono ?_; rintro e w5 ⟨u5,rfl,hu5,hb5⟩);go_ret;exact ⟨u5,rfl,by rw [RI2.out]; exact hu5,below_then hb4 hb5⟩
 ·rcases (show t<1∨8<t by omega) with h | h
  ·have RO:=Lib.hid (roundP_out t k ht)
   clear ht;go_enter Try.func12,Try.ntmps12;go_wp2;go_ret;exact ⟨_,rfl,by rw [RO.out]; exact SlI.nil _ _,Below.refl _ _⟩
  ·have RO:=Lib.hid (roundP_out t k ht)
   have h1:1≤t:=by omega
   clear ht;go_enter Try.func12,Try.ntmps12;go_wp2;go_ret;exact ⟨_,rfl,by rw [RO.out]; exact SlI.nil _ _,Below.refl _ _⟩
end Go.Proofs.Ytefnjhnlegjojaa
