import Derived.Deep.RegionLaw
import Derived.Deep.DeepCutAuto
import Derived.Deep.RegionHeld3
import Derived.Test.YtjnlkemdaffgbaaGreatB14
import Derived.Test.YtjnlkemdaffgbaaGreatB01
import Derived.Test.YtjnlkemdaffgbaaGreatB02
import Derived.Test.YtjnlkemdaffgbaaGreatB12
import Derived.Test.YtjnlkemdaffgbaaGreatB23
import Derived.Test.YtjnlkemdaffgbaaGreatB21
import Derived.Test.YtjnlkemdaffgbaaGreatB22
set_option linter.unusedVariables false
set_option linter.unusedSimpArgs false
namespace Go.Proofs.YtjnlkemdaffgbaaGreat
open Go.ChangeShapes Go.WideShapes Go.ChangeAt Go.RowKit
set_option maxRecDepth 100000
theorem SlI.heapEq {w w2:World} (h:w2.heap=w.heap) {k:IntKind} {v:Value} {l:List Int} (hs:SlI w k v l):SlI w2 k v l:=by
 obtain ⟨h1,h2,a,cap,h3,h4,h5⟩:=hs;refine ⟨h1,h2,a,cap,h3,h4,fun t ht=>?_⟩;obtain ⟨b,off,e,hb,hc⟩:=h5 t ht;refine ⟨b,off,e,by rw [h]; exact hb,?_⟩;unfold World.cell? at hc ⊢;rw [h];exact hc
theorem SlL.heapEq {w w2:World} (h:w2.heap=w.heap) {v:Value} {us:List Value} {ll:List (List Int)} (hs:SlL w v us ll):SlL w2 v us ll:=by
 obtain ⟨h1,h2,a,cap,h3,h4,h5⟩:=hs;refine ⟨h1,h2,a,cap,h3,h4,fun t ht=>?_⟩;obtain ⟨b,off,e,hb,hc,hu⟩:=h5 t ht;refine ⟨b,off,e,by rw [h]; exact hb,?_,hu.heapEq h⟩;unfold World.cell? at hc ⊢;rw [h];exact hc
theorem StM.off {w0 w:World} {g M:Nat} {v:Value} {m:MemM} (h:StM (fun w2=>w0.grownBy w2 (some g)) v m) (hb:Below w0.heap.size w0 w) (hM:w0.heap.size≤M):StM (Off g M w) v m:=by
 obtain ⟨vw,vl,us,e,hall⟩:=h;refine ⟨vw,vl,us,e,fun w2 h2=>?_⟩;have hg:w0.grownBy { w0 with heap:=w2.heap } (some g):=⟨rfl,rfl,rfl,Nat.le_trans hb.size h2.1,fun j hj hne=>(h2.2 j (Nat.lt_of_lt_of_le hj hb.size) (by simpa using fun e=>hne (by rw [e])) (by omega)).trans (hb.block j hj)⟩;obtain ⟨h3,h4⟩:=hall _ hg;exact ⟨h3.heapEq (w:={ w0 with heap:=w2.heap }) rfl,h4.heapEq (w:={ w0 with heap:=w2.heap }) rfl⟩
structure MemS (w0 wr:World) (g M:Nat) (m:MemM):Prop where
 g0:w0.heap.size≤g
 gm:g<M
 codes:CodesE wr g
 mem:∃A c A2 c2,wr.heap[M]?=some (.cells #[.slice A m.words.length c,.slice A2 m.lists.length c2,.int .i64 m.tick] 33 (0,0))∧StM (Off g M wr) (.agg #[.slice A m.words.length c,.slice A2 m.lists.length c2,.int .i64 m.tick]) m
 fits:m.fits
 wl:m.words.length≤7
 ll:m.lists.length≤3
 below:Below w0.heap.size w0 wr
theorem MemS.lt {w0 wr:World} {g M:Nat} {m:MemM} (h:MemS w0 wr g M m):M<wr.heap.size:=by
 obtain ⟨A,c,A2,c2,h1,-⟩:=h.mem;exact (Array.getElem?_eq_some_iff.1 h1).1
theorem MemS.move {w0 wr w2:World} {g M:Nat} {m:MemM} (h:MemS w0 wr g M m) (ho:Off g M wr w2) (hm:w2.heap[M]?=wr.heap[M]?) (hc:CodesE w2 g) (hb:Below w0.heap.size w0 w2):MemS w0 w2 g M m:=by
 obtain ⟨A,c,A2,c2,h1,h2⟩:=h.mem;exact ⟨h.g0,h.gm,hc,⟨A,c,A2,c2,hm.trans h1,h2.sub fun w3 h3=>ho.trans h3⟩,h.fits,h.wl,h.ll,hb⟩
theorem MemS.next {w0 wr w2:World} {g M:Nat} {m:MemM} (h:MemS w0 wr g M m) (hb:Below wr.heap.size wr w2):MemS w0 w2 g M m:=
 h.move (Off.below hb) (hb.block M h.lt) (h.codes.kept h.codes.lt hb) (below_then h.below hb)
theorem MemS.drawn {w0 wr w2:World} {g M:Nat} {m:MemM} (h:MemS w0 wr g M m) (hc:CodesE w2 g) (hg:wr.grownBy w2 (some g)):MemS w0 w2 g M m:=by
 have hgm:=h.gm;exact h.move (Off.grown hg) (hg.block M h.lt (by simp; omega)) hc (h.below.grown hg h.below.size (fun k hk=>by cases hk; exact h.g0))
theorem MemS.open {w0 wr:World} {g M:Nat} {m:MemM} (h:MemS w0 wr g M m):∃A c A2 c2,Hid (wr.heap[M]?=some (.cells #[.slice A m.words.length c,.slice A2 m.lists.length c2,.int .i64 m.tick] 33 (0,0)))∧Hid (StM (Off g M wr) (.agg #[.slice A m.words.length c,.slice A2 m.lists.length c2,.int .i64 m.tick]) m):=h.mem
theorem MemS.taken {w0 wr w1 w2:World} {g M:Nat} {m m':MemM} {A A2:Option Addr} {c c2:Nat} (h:MemS w0 wr g M m) (hb:Below wr.heap.size wr w1) (hb2:Below w1.heap.size w1 w2)
  (hs:StM (Nx (Off g M wr) wr w1) (.agg #[.slice A m'.words.length c,.slice A2 m'.lists.length c2,.int .i64 m'.tick]) m') (hf:m'.fits) (hw:m'.words.length≤7) (hl:m'.lists.length≤3):MemS w0 (w2.setRow M #[.slice A m'.words.length c,.slice A2 m'.lists.length c2,.int .i64 m'.tick]) g M m':=by
 have hlt:=h.lt;have hgm:=h.gm;have hg0:=h.g0;have hs1:=hb.size;have hs2:=hb2.size;obtain ⟨B,d,B2,d2,h1,h2⟩:=h.mem;have hr:=(hb2.block M (by omega)).trans ((hb.block M hlt).trans h1);refine ⟨h.g0,h.gm,?_,⟨A,c,A2,c2,setRow_heap _ _ _ _ _ (0,0) hr,hs.sub fun w3 h3=>?_⟩,hf,hw,hl,row_below (below_then (below_then h.below hb) hb2) (by omega) _⟩
 ·exact (h.codes.kept h.codes.lt (below_then hb hb2)).kept hgm (row_below (Below.refl M w2) (Nat.le_refl _) _)
 ·exact Off.nx (Off.self _ _ _) hb h.codes.lt hlt w3 ((Off.below hb2).trans ((Off.setRow w2 _).trans h3))
def capsArr:Array Value:=#[.int .i64 0,.int .i64 1,.int .i64 2,.int .i64 0,.int .i64 1,.int .i64 3]
def startsArr:Array Value:=#[.int .u64 0,.int .u64 1,.int .u64 9223372036854775807,.int .u64 9223372036854775806,.int .u64 4611686018427387904,.int .u64 5]
structure CfgInv (w0 w:World) (g:Nat) (val:Int) (R:Nat) (vc vs:Value) (caps starts r:List Int):Prop where
 lt:g<R
 eq:R=w0.heap.size
 codes:CodesAt w g r val
 grown:w0.grownBy w (some g)
 res:w.heap[R]?=some (.cells #[.slice none 0 0,.slice none 0 0,.int .i64 0] 30 (0,0))
 lc:w.heap[R+1]?=some (.cells capsArr 3 (0,0))
 ls:w.heap[R+2]?=some (.cells startsArr 42 (0,0))
 box:w.heap[R+3]?=some (.cells #[vc,vs,.int .i64 0] 30 (0,0))
 oc:OwnI w (R+4) 3 .i64 vc caps
 os:OwnI w (R+4) 42 .u64 vs starts
theorem CfgInv.size {w0 w:World} {g:Nat} {val:Int} {R:Nat} {vc vs:Value} {caps starts r:List Int} (h:CfgInv w0 w g val R vc vs caps starts r):R+4≤w.heap.size:=
 (Array.getElem?_eq_some_iff.1 h.box).1
theorem CfgInv.next {w0 w w':World} {g:Nat} {val:Int} {R:Nat} {vc vs:Value} {caps starts r r':List Int} (h:CfgInv w0 w g val R vc vs caps starts r) (hc:CodesAt w' g r' val) (hg:w.grownBy w' (some g)) :
  CfgInv w0 w' g val R vc vs caps starts r':=by
 have hs:=h.size;have hl:=h.lt;have b:∀j,R≤j→j<R+4→w'.heap[j]?=w.heap[j]?:=fun j h1 h2=>hg.block j (by omega) (by simp; omega);exact ⟨hl,h.eq,hc,grownBy_trans h.grown hg,(b R (by omega) (by omega)).trans h.res,(b (R+1) (by omega) (by omega)).trans h.lc,(b (R+2) (by omega) (by omega)).trans h.ls,(b (R+3) (by omega) (by omega)).trans h.box,
  h.oc.kept hg (h.oc.ne (by omega)),h.os.kept hg (h.os.ne (by omega))⟩
theorem own_apart {w:World} {b1 b2:Nat} {e1 e2:TypeId} {k1 k2:IntKind} {v1 v2:Value} {l1 l2:List Int} (h1:OwnI w b1 e1 k1 v1 l1) (h2:OwnI w b2 e2 k2 v2 l2) (he:e1≠e2):v1.ownBlock=none∨v1.ownBlock≠v2.ownBlock:=by
 rcases h1.2 with ⟨rfl,_⟩ | ⟨g,cap,cur,rfl,_,hg,_⟩
 ·exact .inl rfl
 ·rcases h2.2 with ⟨rfl,_⟩ | ⟨g',cap',cur',rfl,_,hg',_⟩
  ·exact .inr (by simp [Value.ownBlock])
  ·refine .inr ?_
   simp only [Value.ownBlock,ne_eq,Option.some.injEq];intro e;rw [e,hg'] at hg;simp at hg;exact he hg.2.symm
theorem CfgInv.spot {w0 w w1:World} {g:Nat} {val:Int} {R:Nat} {vc vs:Value} {caps starts r:List Int} {row:Option Nat} (h:CfgInv w0 w g val R vc vs caps starts r) (o:Obj) (hg:(w.alloc o).grownBy w1 row) (hge:∀j,row=some j→R+4≤j) :
  (w1.cell? ⟨R+3,0,none⟩=some vc∧w1.frozen? ⟨R+3,0,none⟩=false)∧(w1.cell? ⟨R+3,1,none⟩=some vs∧w1.frozen? ⟨R+3,1,none⟩=false):=by
 have hs:=h.size;have hb:Below (R+4) w w1:=((Below.refl (R+4) w).alloc hs o).grown hg (by simp; omega) hge;have hbox:=(hb.block (R+3) (by omega)).trans h.box;exact ⟨⟨cell_of_row w1 (R+3) 0 _ _ _ hbox,frozen_of_row w1 (R+3) 0 _ _ hbox⟩,⟨cell_of_row w1 (R+3) 1 _ _ _ hbox,frozen_of_row w1 (R+3) 1 _ _ hbox⟩⟩
theorem OwnI.shape_ne {w:World} {base:Nat} {e:TypeId} {k:IntKind} {v:Value} {l:List Int} {y:Int} (h:OwnI w base e k v (l ++ [y])):∃g cap,v=.slice (some ⟨g,0,none⟩) (l.length+1) cap:=by
 rcases h.shape with ⟨_,h1⟩ | ⟨g,cap,h1,_⟩
 ·exact absurd h1 (by simp)
 ·exact ⟨g,cap,by simpa using h1⟩
theorem CfgInv.addCap {w0 w w1:World} {g:Nat} {val:Int} {R:Nat} {vc vs vc':Value} {caps starts r caps':List Int} (h:CfgInv w0 w g val R vc vs caps starts r) (o:Obj) (ho:OwnI w1 (R+4) 3 .i64 vc' caps') (hg:(w.alloc o).grownBy w1 vc.ownBlock) :
  CfgInv w0 (w1.setCell ⟨R+3,0,none⟩ vc') g val R vc' vs caps' starts r:=by
 have hs:=h.size;have hl:=h.lt;have hge:∀j,vc.ownBlock=some j→R+4≤j:=h.oc.own_ge;have hb:Below (R+4) w w1:=((Below.refl (R+4) w).alloc hs o).grown hg (by simp; omega) hge;have b:∀j,j<R+4→w1.heap[j]?=w.heap[j]?:=fun j h1=>hb.block j h1;have b2:∀j,j≠R+3→(w1.setCell ⟨R+3,0,none⟩ vc').heap[j]?=w1.heap[j]?:=fun j hj=>heap_setCell_other w1 ⟨R+3,0,none⟩ j _ hj;have hbox:=(b (R+3) (by omega)).trans h.box;have hos:OwnI w1 (R+4) 42 .u64 vs starts:=(h.os.alloc o).kept hg (own_apart (h.os.alloc o) (h.oc.alloc o) (by decide));have hsb:Below (R+3) w1 (w1.setCell ⟨R+3,0,none⟩ vc'):=(Below.refl (R+3) w1).setCell (p:=⟨R+3,0,none⟩) (Nat.le_refl _) _;refine ⟨hl,h.eq,(h.codes.kept (B:=R+4) (by omega) hb).kept (B:=R+3) (by omega) hsb,?_,(b2 R (by omega)).trans ((b R (by omega)).trans h.res),(b2 (R+1) (by omega)).trans ((b (R+1) (by omega)).trans h.lc),(b2 (R+2) (by omega)).trans ((b (R+2) (by omega)).trans h.ls),?_,
  ho.kept (grownBy_setCell w1 ⟨R+3,0,none⟩ vc') (ho.ne (by simp)),hos.kept (grownBy_setCell w1 ⟨R+3,0,none⟩ vc') (hos.ne (by simp))⟩
 ·have e:=h.eq
  exact grownBy_of_below (grownBy_of_below h.grown (hb.mono (by omega))) ((hsb).mono (by omega))
 ·have:=heap_setCell_same w1 (R+3) 0 _ _ vc' hbox
  simpa using this
theorem CfgInv.addStart {w0 w w1:World} {g:Nat} {val:Int} {R:Nat} {vc vs vs':Value} {caps starts r starts':List Int} (h:CfgInv w0 w g val R vc vs caps starts r) (o:Obj) (ho:OwnI w1 (R+4) 42 .u64 vs' starts') (hg:(w.alloc o).grownBy w1 vs.ownBlock) :
  CfgInv w0 (w1.setCell ⟨R+3,1,none⟩ vs') g val R vc vs' caps starts' r:=by
 have hs:=h.size;have hl:=h.lt;have hge:∀j,vs.ownBlock=some j→R+4≤j:=h.os.own_ge;have hb:Below (R+4) w w1:=((Below.refl (R+4) w).alloc hs o).grown hg (by simp; omega) hge;have b:∀j,j<R+4→w1.heap[j]?=w.heap[j]?:=fun j h1=>hb.block j h1;have b2:∀j,j≠R+3→(w1.setCell ⟨R+3,1,none⟩ vs').heap[j]?=w1.heap[j]?:=fun j hj=>heap_setCell_other w1 ⟨R+3,1,none⟩ j _ hj;have hbox:=(b (R+3) (by omega)).trans h.box;have hoc:OwnI w1 (R+4) 3 .i64 vc caps:=(h.oc.alloc o).kept hg (own_apart (h.oc.alloc o) (h.os.alloc o) (by decide));have hsb:Below (R+3) w1 (w1.setCell ⟨R+3,1,none⟩ vs'):=(Below.refl (R+3) w1).setCell (p:=⟨R+3,1,none⟩) (Nat.le_refl _) _;refine ⟨hl,h.eq,(h.codes.kept (B:=R+4) (by omega) hb).kept (B:=R+3) (by omega) hsb,?_,(b2 R (by omega)).trans ((b R (by omega)).trans h.res),(b2 (R+1) (by omega)).trans ((b (R+1) (by omega)).trans h.lc),(b2 (R+2) (by omega)).trans ((b (R+2) (by omega)).trans h.ls),?_,
  hoc.kept (grownBy_setCell w1 ⟨R+3,1,none⟩ vs') (hoc.ne (by simp)),ho.kept (grownBy_setCell w1 ⟨R+3,1,none⟩ vs') (ho.ne (by simp))⟩
 ·have e:=h.eq
  exact grownBy_of_below (grownBy_of_below h.grown (hb.mono (by omega))) ((hsb).mono (by omega))
 ·have:=heap_setCell_same w1 (R+3) 1 _ _ vs' hbox
  simpa using this
theorem undrew {a b:World} {row:Option Nat} (h:a.drew.grownBy b row):a.grownBy b row:=⟨h.os,h.tape,h.output,h.size,h.block⟩
theorem nxt_nat (r:List Int) (n:Int) (h:1≤n):∃p:Nat,nxt r n=p∧(p:Int)<n:=by
 have:=nxt_bd r n (by omega);exact ⟨(nxt r n).toNat,by omega,by omega⟩
theorem caps_at (w:World) (b p:Nat) (hp:p<6) (h:w.heap[b]?=some (.cells capsArr 3 (0,0))):∃q:Int,w.cell? ⟨b,p,none⟩=some (.int .i64 q)∧0≤q∧q≤3:=by
 rw [cell_of_row w b p _ _ _ h];obtain rfl | rfl | rfl | rfl | rfl | rfl:p=0∨p=1∨p=2∨p=3∨p=4∨p=5:=by omega
 all_goals exact ⟨_,rfl,by decide,by decide⟩
theorem starts_at (w:World) (b p:Nat) (hp:p<6) (h:w.heap[b]?=some (.cells startsArr 42 (0,0))):∃q:Int,w.cell? ⟨b,p,none⟩=some (.int .u64 q)∧Hid (0≤q∧q<9223372036854775808):=by
 rw [cell_of_row w b p _ _ _ h];obtain rfl | rfl | rfl | rfl | rfl | rfl:p=0∨p=1∨p=2∨p=3∨p=4∨p=5:=by omega
 all_goals exact ⟨_,rfl,Lib.hid (by decide)⟩
def CfgOk (caps starts:List Int) (k:Nat):Prop:=caps.length=k∧starts.length=k∧(∀x∈caps,0≤x∧x≤3)∧∀x∈starts,0≤x∧x<9223372036854775808
theorem CfgOk.snoc {caps starts:List Int} {k:Nat} (h:CfgOk caps starts k) (q s:Int) (hq:0≤q∧q≤3) (hs:0≤s∧s<9223372036854775808):CfgOk (caps ++ [q]) (starts ++ [s]) (k+1):=by
 obtain ⟨h1,h2,h3,h4⟩:=h;refine ⟨by simp [h1],by simp [h2],fun x hx=>?_,fun x hx=>?_⟩
 ·simp at hx; rcases hx with hx | rfl
  ·exact h3 x hx
  ·exact hq
 ·simp at hx; rcases hx with hx | rfl
  ·exact h4 x hx
  ·exact hs
theorem CfgInv.start (w:World) (g:Nat) (r:List Int) (val:Int) (h:CodesAt w g r val) :
  CfgInv w ((((w.alloc (.cells #[.slice none 0 0,.slice none 0 0,.int .i64 0] 30)).alloc (.cells capsArr 3)).alloc (.cells startsArr 42)).alloc (.cells #[.slice none 0 0,.slice none 0 0,.int .i64 0] 30))
   g val w.heap.size (.slice none 0 0) (.slice none 0 0) [] [] r:=by
 have hb:Below w.heap.size w ((((w.alloc (.cells #[.slice none 0 0,.slice none 0 0,.int .i64 0] 30)).alloc (.cells capsArr 3)).alloc (.cells startsArr 42)).alloc (.cells #[.slice none 0 0,.slice none 0 0,.int .i64 0] 30)):=
  below_new (below_new (below_new (below_new (Below.refl _ _) _) _) _) _
 refine ⟨h.lt,rfl,h.kept h.lt hb,grownBy_of_below (grownBy_refl _ _) hb,?_,?_,?_,?_,OwnI.nil _ _ _ _,OwnI.nil _ _ _ _⟩
 ·rw [heap_alloc_old _ _ (by simp <;> omega),heap_alloc_old _ _ (by simp <;> omega),heap_alloc_old _ _ (by simp <;> omega),heap_alloc_new]
 ·rw [heap_alloc_old _ _ (by simp <;> omega),heap_alloc_old _ _ (by simp <;> omega)]
  have:=heap_alloc_new (w.alloc (.cells #[.slice none 0 0,.slice none 0 0,.int .i64 0] 30)) (.cells capsArr 3);simpa using this
 ·rw [heap_alloc_old _ _ (by simp <;> omega)]
  have:=heap_alloc_new ((w.alloc (.cells #[.slice none 0 0,.slice none 0 0,.int .i64 0] 30)).alloc (.cells capsArr 3)) (.cells startsArr 42);simpa using this
 ·have:=heap_alloc_new (((w.alloc (.cells #[.slice none 0 0,.slice none 0 0,.int .i64 0] 30)).alloc (.cells capsArr 3)).alloc (.cells startsArr 42)) (.cells #[.slice none 0 0,.slice none 0 0,.int .i64 0] 30)
  simpa using this
theorem CfgInv.fin {w0 w:World} {g:Nat} {val:Int} {R k:Nat} {vc vs:Value} {caps starts r:List Int} (h:CfgInv w0 w g val R vc vs caps starts r) (hok:CfgOk caps starts k) (hk:k≤100) (a b c d:Value) :
  SlI ((((w.setCell ⟨R+3,2,none⟩ a).setCell ⟨R,0,none⟩ b).setCell ⟨R,1,none⟩ c).setCell ⟨R,2,none⟩ d) .i64 vc caps∧
  SlI ((((w.setCell ⟨R+3,2,none⟩ a).setCell ⟨R,0,none⟩ b).setCell ⟨R,1,none⟩ c).setCell ⟨R,2,none⟩ d) .u64 vs starts∧
  CodesAt ((((w.setCell ⟨R+3,2,none⟩ a).setCell ⟨R,0,none⟩ b).setCell ⟨R,1,none⟩ c).setCell ⟨R,2,none⟩ d) g r val∧
  w0.grownBy ((((w.setCell ⟨R+3,2,none⟩ a).setCell ⟨R,0,none⟩ b).setCell ⟨R,1,none⟩ c).setCell ⟨R,2,none⟩ d) (some g)∧
  OwnI ((((w.setCell ⟨R+3,2,none⟩ a).setCell ⟨R,0,none⟩ b).setCell ⟨R,1,none⟩ c).setCell ⟨R,2,none⟩ d) (R+4) 3 .i64 vc caps∧OwnI ((((w.setCell ⟨R+3,2,none⟩ a).setCell ⟨R,0,none⟩ b).setCell ⟨R,1,none⟩ c).setCell ⟨R,2,none⟩ d) (R+4) 42 .u64 vs starts:=by
 obtain ⟨o1,o2,o3,o4⟩:=hok;have hb:Below R w ((((w.setCell ⟨R+3,2,none⟩ a).setCell ⟨R,0,none⟩ b).setCell ⟨R,1,none⟩ c).setCell ⟨R,2,none⟩ d):=
  ((((Below.refl R w).setCell (p:=⟨R+3,2,none⟩) (by simp) a).setCell (p:=⟨R,0,none⟩) (Nat.le_refl _) b).setCell (p:=⟨R,1,none⟩) (Nat.le_refl _) c).setCell (p:=⟨R,2,none⟩) (Nat.le_refl _) d
 have keep:∀{e k v l},OwnI w (R+4) e k v l→OwnI ((((w.setCell ⟨R+3,2,none⟩ a).setCell ⟨R,0,none⟩ b).setCell ⟨R,1,none⟩ c).setCell ⟨R,2,none⟩ d) (R+4) e k v l:=fun ho=>by
  have h1:=ho.kept (grownBy_setCell w ⟨R+3,2,none⟩ a) (ho.ne (by simp));have h2:=h1.kept (grownBy_setCell _ ⟨R,0,none⟩ b) (h1.ne (by simp));have h3:=h2.kept (grownBy_setCell _ ⟨R,1,none⟩ c) (h2.ne (by simp));exact h3.kept (grownBy_setCell _ ⟨R,2,none⟩ d) (h3.ne (by simp))
 refine ⟨(keep h.oc).read (by omega) fun x hx=>?_,(keep h.os).read (by omega) fun x hx=>?_,h.codes.kept h.lt hb,grownBy_of_below h.grown (hb.mono (by rw [h.eq]; exact Nat.le_refl _)),keep h.oc,keep h.os⟩
 ·have:=o3 x hx; exact i64_ok x (by omega) (by omega)
 ·have:=o4 x hx; rw [IntKind.wrap_u64]; omega
set_option maxRecDepth 100000 in
set_option maxHeartbeats 1000000 in
theorem config_own (g:Nat) (r:List Int) (val:Int) (w:World) (h:CodesAt w g r val) :
  Calls Tryz.prog 20 #[.pointer (some ⟨g,0,none⟩)] w fun e w'=>∃vc vs t caps starts r',e=.returned (.agg #[vc,vs,.int .i64 t])∧
   SlI w' .i64 vc caps∧SlI w' .u64 vs starts∧caps.length=starts.length∧1≤caps.length∧caps.length≤3∧2≤t∧t≤4∧CodesAt w' g r' val∧w.grownBy w' (some g)∧offB g vc∧offB g vs∧CfgOk caps starts caps.length∧OwnI w' w.heap.size 3 .i64 vc caps∧OwnI w' w.heap.size 42 .u64 vs starts:=by
 have hgl:=h.lt;go_enter Tryz.func20,Tryz.ntmps20;have ST:=Lib.hid (CfgInv.start w g r val h);go_wp2_with fail;rw [show w.heap.size+1+1+1=w.heap.size+3 from rfl,show w.heap.size+1+1=w.heap.size+2 from rfl];generalize hRR:w.heap.size=R at *;clear hRR;go_loopw [6] (fun c wr=>∃k:Nat,∃vc vs caps starts r',k≤3∧c=.int .i64 k∧Hid (CfgInv w wr g val R vc vs caps starts r')∧Hid (CfgOk caps starts k)) (fun c _=>4 - (intOf c).toNat)
 case atStart=>exact ⟨0,_,_,_,_,_,by omega,rfl,ST,rfl,rfl,by simp,by simp⟩
 case round=>
  clear ST;obtain ⟨k,vc,vs,caps,starts,r',hk,rfl,hI,hL⟩:=hrel;obtain ⟨wo,rfl⟩:∃wo:World,wo=wr:=⟨_,rfl⟩;go_wp2_with fail;refine (next_any g r' val 3 _ hI.out.codes (by omega) (by omega)).mono ?_; rintro e w1 ⟨rfl,hc1,hg1⟩;have nb:=nxt_bd r' 3 (by omega);generalize nxt r' 3=y at *;have hI1:=Lib.hid (hI.out.next hc1 hg1);clear hI hc1 hg1;by_cases hlt:(k:Int)≤y
  ·go_wp2_with fail
   have c0:=cell_of_row w1 (R+3) 0 _ _ _ hI1.out.box;simp at c0;go_region_law (first
     | (refine step_append_i64 (by rfl) _ _ (by rfl) (R+4) vc caps (by rfl) (hI2.out.oc.alloc _) q _ (by rfl) (by exact World.cell?_alloc_at _ _ _ _ rfl) (by rw [hL.out.1]; omega) (by have:=hI2.out.size; simp; omega) ?_; intro vc2 w3 ho3 hg3; obtain ⟨gg,cg,hvc2⟩:=OwnI.shape_ne ho3; obtain ⟨⟨c3,f3⟩,-⟩:=hI2.out.spot _ hg3 hI2.out.oc.own_ge; subst hvc2)
     | (go_simp; go_at_call 21; refine (next_any g _ val 6 _ (by exact hI1.out.codes) (by omega) (by omega)).mono ?_; rintro e w2 ⟨rfl,hc2,hg2⟩; have hI2:=Lib.hid (hI1.out.next hc2 (undrew hg2)); obtain ⟨p,hp,hp6⟩:=nxt_nat (List.tail r') 6 (by omega); rw [hp]; obtain ⟨q,hq,hq3⟩:=caps_at w2 (R+1) p (by omega) hI2.out.lc; have c0:=cell_of_row w2 (R+3) 0 _ _ _ hI2.out.box; have f0:=frozen_of_row w2 (R+3) 0 _ _ hI2.out.box; have z2:R+3<w2.heap.size:=(by have:=hI2.out.size; omega); simp at c0))
   all_goals
    have hI3:=Lib.hid (hI2.out.addCap _ ho3 hg3);have HQ3:=Lib.hid hq3;generalize hc2e:caps ++ [q]=caps2 at *;have HC2:=Lib.hid hc2e;generalize (Value.slice (some ⟨gg,0,none⟩) (caps.length+1) cg)=vc2 at *;clear hI1 hI2 ho3 hg3 hc2 hg2 c0 f0 c3 f3 z2 hq hq3 hp hp6 hc2e;go_wp2_with fail;generalize w3.setCell ⟨R+3,0,none⟩ vc2=W3 at *;have d0:=cell_of_row W3 (R+3) 1 _ _ _ hI3.out.box;simp at d0;go_region_law (first
     | (refine step_append_u64 (by rfl) _ _ (by rfl) (R+4) vs starts (by rfl) (hI4.out.os.alloc _) q4 _ (by rfl) (by exact World.cell?_alloc_at _ _ _ _ rfl) (by rw [hL.out.2.1]; omega) (by have:=hI4.out.size; simp; omega) ?_; intro vs2 w5 ho5 hg5; obtain ⟨gg5,cg5,hvs2⟩:=OwnI.shape_ne ho5; obtain ⟨-,⟨c5,f5⟩⟩:=hI4.out.spot _ hg5 hI4.out.os.own_ge; subst hvs2)
     | (go_simp; go_at_call 21; refine (next_any g _ val 6 _ (by exact hI3.out.codes) (by omega) (by omega)).mono ?_; rintro e w4 ⟨rfl,hc4,hg4⟩; have hI4:=Lib.hid (hI3.out.next hc4 (undrew hg4)); obtain ⟨p4,hp4,hp64⟩:=nxt_nat (List.tail (List.tail r')) 6 (by omega); rw [hp4]; obtain ⟨q4,hq4,hq43⟩:=starts_at w4 (R+2) p4 (by omega) hI4.out.ls; have d0:=cell_of_row w4 (R+3) 1 _ _ _ hI4.out.box; have f0:=frozen_of_row w4 (R+3) 1 _ _ hI4.out.box; have z4:R+3<w4.heap.size:=(by have:=hI4.out.size; omega); simp at d0))
    all_goals
     have hI5:=Lib.hid (hI4.out.addStart _ ho5 hg5);have hL5:=Lib.hid (hL.out.snoc q q4 HQ3.out hq43.out);rw [HC2.out] at hL5;clear hI4 ho5 hg5 hc4 hg4 d0 f0 c5 f5 z4 hq4 hp4 hp64;go_wp2;go_roundw
     case rel=>exact ⟨k+1,_,_,_,_,_,by omega,by go_num,hI5,hL5⟩
     case measure=>simp [intOf]; omega
  ·have hk1:1≤k:=by omega
   go_wp2_with fail;refine (next_any g _ val 3 _ hI1.out.codes (by omega) (by omega)).mono ?_; rintro e w2 ⟨rfl,hc2,hg2⟩;have nb2:=nxt_bd r'.tail 3 (by omega);generalize nxt r'.tail 3=t at *;have hI2:=Lib.hid (hI1.out.next hc2 hg2);have c0:=cell_of_row w2 (R+3) 0 _ _ _ hI2.out.box;have c1:=cell_of_row w2 (R+3) 1 _ _ _ hI2.out.box;have c2:=cell_of_row w2 (R+3) 2 _ _ _ hI2.out.box;have f2:=frozen_of_row w2 (R+3) 2 _ _ hI2.out.box;have d0:=cell_of_row w2 R 0 _ _ _ hI2.out.res;have d1:=cell_of_row w2 R 1 _ _ _ hI2.out.res;have d2:=cell_of_row w2 R 2 _ _ _ hI2.out.res;have g0:=frozen_of_row w2 R 0 _ _ hI2.out.res;have g1:=frozen_of_row w2 R 1 _ _ hI2.out.res;have g2:=frozen_of_row w2 R 2 _ _ hI2.out.res;simp at c0 c1 c2 d0 d1 d2;have hRR:¬R=R+3:=by omega
   have hR3:¬R+3=R:=by omega
   obtain ⟨ac,cc,rfl⟩:∃ac cc,vc=.slice ac caps.length cc:=by
    rcases hI2.out.oc.shape with ⟨rfl,h⟩ | ⟨g',cap',rfl,_⟩
    ·exact ⟨none,0,by rw [h]; rfl⟩
    ·exact ⟨_,_,rfl⟩
   obtain ⟨ast,cst,rfl⟩:∃ac cc,vs=.slice ac starts.length cc:=by
    rcases hI2.out.os.shape with ⟨rfl,h⟩ | ⟨g',cap',rfl,_⟩
    ·exact ⟨none,0,by rw [h]; rfl⟩
    ·exact ⟨_,_,rfl⟩
   clear hc2 hg2 hI1;have HI:=Lib.hid hI2.out;go_wp2;refine bodyPost_ret (v:=.agg #[.slice ac caps.length cc,.slice ast starts.length cst,.int .i64 (2+t)]) (by simp [results,Tryz.results20,go_sem, *]) rfl ?_;obtain ⟨s1,s2,s3,s4,s5,s6⟩:=HI.out.fin hL.out (by omega) (.int .i64 (2+t)) (.slice ac caps.length cc) (.slice ast starts.length cst) (.int .i64 (2+t));have hl:=hL.out;exact ⟨_,_,_,caps,starts,_,rfl,s1,s2,by rw [hl.1,hl.2.1],by rw [hl.1]; exact hk1,by rw [hl.1]; exact hk,by omega,by omega,s3,s4,HI.out.oc.off (by omega),HI.out.os.off (by omega),by rw [hl.1]; exact hl,s5.mono_base (by have:=HI.out.eq; omega),s6.mono_base (by have:=HI.out.eq; omega)⟩
theorem WI.start {WT:TypeId} {w0 wc wd:World} {E:List (Option Nat)} {a a2 m1 m2:Option Addr} {cap cap2 n1 n2:Nat} {c:ConfM} (hg:c.good) (hE:∀j,some j∈E→w0.heap.size≤j∧j<wc.heap.size)
  (hc:∀w2,OffS E wc w2→SlI w2 .i64 (.slice a c.caps.length cap) c.caps∧SlI w2 .u64 (.slice a2 c.starts.length cap2) c.starts) (hb:Below wc.heap.size wc wd)
  (hm:StM (NewPart wc wd) (.agg #[.slice m1 (newE c).words.length n1,.slice m2 (newE c).lists.length n2,.int .i64 (newE c).tick]) (newE c)) (h0:Below w0.heap.size w0 wc) :
  WI WT w0 (wd.alloc (.cells #[.slice a c.caps.length cap,.slice a2 c.starts.length cap2,.int .i64 c.threads,.slice m1 (newE c).words.length n1,.slice m2 (newE c).lists.length n2,.int .i64 (newE c).tick,.slice none 0 0,.slice none 0 0,.slice none 0 0,.slice none 0 0] WT)) E wd.heap.size (wd.heap.size+1) ⟨a,cap,a2,cap2,m1,n1,m2,n2,none,0,none,0,none,0,none,0⟩ ⟨c,newE c,[],[],[],[]⟩:=by
 have hb2:Below wd.heap.size wd (wd.alloc (.cells #[.slice a c.caps.length cap,.slice a2 c.starts.length cap2,.int .i64 c.threads,.slice m1 (newE c).words.length n1,.slice m2 (newE c).lists.length n2,.int .i64 (newE c).tick,.slice none 0 0,.slice none 0 0,.slice none 0 0,.slice none 0 0] WT)):=below_new (Below.refl _ _) _;have hz:=hb.size;have z0:=h0.size;have hin:∀w2,OffS (WV.S ⟨a,cap,a2,cap2,m1,n1,m2,n2,none,0,none,0,none,0,none,0⟩ E wd.heap.size) (wd.alloc (.cells #[.slice a c.caps.length cap,.slice a2 c.starts.length cap2,.int .i64 c.threads,.slice m1 (newE c).words.length n1,.slice m2 (newE c).lists.length n2,.int .i64 (newE c).tick,.slice none 0 0,.slice none 0 0,.slice none 0 0,.slice none 0 0] WT)) w2→OffS E wc w2:=fun w2 h2=>by
  refine (OffS.below (S:=E) (below_then hb hb2)).trans h2 fun j hj hm=>?_;simp only [WV.S,List.mem_append,List.mem_cons,List.not_mem_nil,or_false,Option.some.injEq,addrB,Option.map_none] at hm;rcases hm with hm | rfl | hm | hm | hm | hm
  ·exact hm
  ·omega
  all_goals cases hm
 have hnp:∀w2,OffS (WV.S ⟨a,cap,a2,cap2,m1,n1,m2,n2,none,0,none,0,none,0,none,0⟩ E wd.heap.size) (wd.alloc (.cells #[.slice a c.caps.length cap,.slice a2 c.starts.length cap2,.int .i64 c.threads,.slice m1 (newE c).words.length n1,.slice m2 (newE c).lists.length n2,.int .i64 (newE c).tick,.slice none 0 0,.slice none 0 0,.slice none 0 0,.slice none 0 0] WT)) w2→NewPart wc wd w2:=fun w2 h2=>by
  refine ⟨by have:=h2.1; simp at this; omega,fun j hj hj2=>(h2.2 j (by simp; omega) fun hm=>?_).trans (hb2.block j hj2)⟩;simp only [WV.S,List.mem_append,List.mem_cons,List.not_mem_nil,or_false,Option.some.injEq,addrB,Option.map_none] at hm;rcases hm with hm | rfl | hm | hm | hm | hm
  ·have:=(hE j hm).2; omega
  ·omega
  all_goals cases hm
 refine ⟨by omega,fun j hj=>⟨(hE j hj).1,by have:=(hE j hj).2; simp; omega⟩,Nat.lt_succ_self _,by simp,heap_alloc_new _ _,fun w2 h2=>hc w2 (hin w2 h2),hg,hm.sub hnp,newE_fits hg,OwnS.nil _ _ _ _,OwnS.nil _ _ _ _,OwnS.nil _ _ _ _,OwnS.nil _ _ _ _,fun z hz=>by simp at hz,below_then h0 (below_then hb hb2)⟩
theorem CfgOk.good {caps starts:List Int} {t:Int} (h:CfgOk caps starts caps.length) (hl:caps.length≤3) (ht:1≤t∧t≤8):ConfM.good ⟨caps,starts,t⟩:=
 ⟨by show caps.length≤8; omega,h.2.1,fun x hx=>by have:=h.2.2.1 x hx; omega,h.2.2.2,ht⟩
theorem RI.start {w0 wc wd:World} {E:List (Option Nat)} {a a2 m1 m2:Option Addr} {cap cap2 n1 n2:Nat} {c:ConfM} (hg:c.good) (hE:∀j,some j∈E→w0.heap.size≤j∧j<wc.heap.size)
  (hc:∀w2,OffS E wc w2→SlI w2 .i64 (.slice a c.caps.length cap) c.caps∧SlI w2 .u64 (.slice a2 c.starts.length cap2) c.starts) (hb:Below wc.heap.size wc wd)
  (hm:StM (NewPart wc wd) (.agg #[.slice m1 (newE c).words.length n1,.slice m2 (newE c).lists.length n2,.int .i64 (newE c).tick]) (newE c)) (h0:Below w0.heap.size w0 wc) :
  RI w0 (wd.alloc (.cells #[.slice a c.caps.length cap,.slice a2 c.starts.length cap2,.int .i64 c.threads,.slice m1 (newE c).words.length n1,.slice m2 (newE c).lists.length n2,.int .i64 (newE c).tick,.slice none 0 0,.slice none 0 0,.slice none 0 0] 37)) E wd.heap.size (wd.heap.size+1) ⟨a,cap,a2,cap2,m1,n1,m2,n2,none,0,none,0,none,0,none,0⟩ ⟨c,newE c,[],[],[],[]⟩:=by
 have hb2:Below wd.heap.size wd (wd.alloc (.cells #[.slice a c.caps.length cap,.slice a2 c.starts.length cap2,.int .i64 c.threads,.slice m1 (newE c).words.length n1,.slice m2 (newE c).lists.length n2,.int .i64 (newE c).tick,.slice none 0 0,.slice none 0 0,.slice none 0 0] 37)):=below_new (Below.refl _ _) _;have hz:=hb.size;have z0:=h0.size;have hin:∀w2,OffS (WV.RS ⟨a,cap,a2,cap2,m1,n1,m2,n2,none,0,none,0,none,0,none,0⟩ E wd.heap.size) (wd.alloc (.cells #[.slice a c.caps.length cap,.slice a2 c.starts.length cap2,.int .i64 c.threads,.slice m1 (newE c).words.length n1,.slice m2 (newE c).lists.length n2,.int .i64 (newE c).tick,.slice none 0 0,.slice none 0 0,.slice none 0 0] 37)) w2→OffS E wc w2:=fun w2 h2=>by
  refine (OffS.below (S:=E) (below_then hb hb2)).trans h2 fun j hj hm=>?_;simp only [WV.RS,List.mem_append,List.mem_cons,List.not_mem_nil,or_false,Option.some.injEq,addrB,Option.map_none] at hm;rcases hm with hm | rfl | hm | hm | hm
  ·exact hm
  ·omega
  all_goals cases hm
 have hnp:∀w2,OffS (WV.RS ⟨a,cap,a2,cap2,m1,n1,m2,n2,none,0,none,0,none,0,none,0⟩ E wd.heap.size) (wd.alloc (.cells #[.slice a c.caps.length cap,.slice a2 c.starts.length cap2,.int .i64 c.threads,.slice m1 (newE c).words.length n1,.slice m2 (newE c).lists.length n2,.int .i64 (newE c).tick,.slice none 0 0,.slice none 0 0,.slice none 0 0] 37)) w2→NewPart wc wd w2:=fun w2 h2=>by
  refine ⟨by have:=h2.1; simp at this; omega,fun j hj hj2=>(h2.2 j (by simp; omega) fun hm=>?_).trans (hb2.block j hj2)⟩;simp only [WV.RS,List.mem_append,List.mem_cons,List.not_mem_nil,or_false,Option.some.injEq,addrB,Option.map_none] at hm;rcases hm with hm | rfl | hm | hm | hm
  ·have:=(hE j hm).2; omega
  ·omega
  all_goals cases hm
 refine ⟨by omega,fun j hj=>⟨(hE j hj).1,by have:=(hE j hj).2; simp; omega⟩,Nat.lt_succ_self _,by simp,heap_alloc_new _ _,fun w2 h2=>hc w2 (hin w2 h2),hg,hm.sub hnp,newE_fits hg,OwnS.nil _ _ _ _,OwnS.nil _ _ _ _,OwnS.nil _ _ _ _,fun z hz=>by simp at hz,below_then h0 (below_then hb hb2)⟩
theorem RI.notIn {w0 w:World} {E:List (Option Nat)} {B D:Nat} {x:WV} {y:WM} (h:RI w0 w E B D x y) {K:Nat} {cs:Array Value} {T:TypeId} (hK:w.heap[K]?=some (.cells cs T (0,0))) (hE:some K ∉ E) (hB:K≠B) (h2:T≠58) (h3:T≠33) (h4:T≠53):some K ∉ x.RS E B:=by
 have k:∀{a:Option Addr} {n c:Nat} {e:TypeId} {s:Nat} {r:List (List Value)},OwnS w D e s (.slice a n c) r→T≠e→some K=addrB a→False:=fun ho he e=>by
  rcases ho.2.2 with ⟨hv,_⟩ | ⟨b,cap,cur,hv,_,hb,_⟩
  ·simp only [Value.slice.injEq] at hv
   rw [hv.1] at e;cases e
  ·simp only [Value.slice.injEq] at hv
   rw [hv.1] at e;simp only [addrB,Option.map_some,Option.some.injEq] at e;rw [e,hb] at hK;simp at hK;exact he hK.2.symm
 intro hm;simp only [WV.RS,List.mem_append,List.mem_cons,List.not_mem_nil,or_false,Option.some.injEq] at hm;rcases hm with e | e | e | e | e
 ·exact hE e
 ·exact hB e
 ·exact k h.ot h2 e
 ·exact k h.op h3 e
 ·exact k h.of h4 e
theorem rg_granted (c:ConfM) (k:MachM) (m:MemM) (hp:¬k.pl=0):(applyE m (rgNE c k)).2.2=true:=by
 have key:∀a:AccM,a.kind=1∨a.kind=2∨a.kind=3∨a.kind=5∨a.kind=6→(applyE m a).2.2=true:=fun a ha=>by
  unfold applyE grantB;rcases ha with h | h | h | h | h <;> rw [h] <;> rfl
 refine key _ ?_;unfold rgNE;rw [if_neg hp];unfold pushNE popNE shutNE countNE
 repeat' split
 all_goals first | exact .inl rfl | exact .inr (.inl rfl) | exact .inr (.inr (.inl rfl)) | exact .inr (.inr (.inr (.inl rfl))) | exact .inr (.inr (.inr (.inr rfl)))
def casI (z:ItemM):Bool:=z.acc.kind == 3 && (z.acc.addr == 0 && z.ok)
def hstW (y:WM):Hst:=⟨y.m,y.l,y.t.map fun z=>(z.thr.toNat,casI z),y.p.map Prod.snd⟩
structure RL (w0 wr:World) (E:List (Option Nat)) (B:Nat) (x:WV) (y:WM) (c:ConfM) (n q:Nat):Prop where
 wi:RI w0 wr E B (B+1) x y
 fr:FrI MR (OffS (x.RS E B) wr) y
 ce:y.c=c
 len:y.f.length=n
 small:y.t.length≤q∧y.p.length≤q
 thr:∀z∈y.t,0≤z.thr∧z.thr<(n:Int)
theorem RL.next {w0 w w':World} {E:List (Option Nat)} {B:Nat} {x:WV} {y:WM} {c:ConfM} {n q:Nat} (h:RL w0 w E B x y c n q) (hb:Below w.heap.size w w'):RL w0 w' E B x y c n q:=
 ⟨h.wi.next hb,⟨h.fr.1,fun i h1 h2=>(h.fr.2 i h1 h2).sub fun w3 h3=>(OffS.below hb).trans1 h3⟩,h.ce,h.len,h.small,h.thr⟩
theorem RL.drawn {w0 w w':World} {E:List (Option Nat)} {B:Nat} {x:WV} {y:WM} {c:ConfM} {n q g:Nat} (h:RL w0 w E B x y c n q) (hgE:some g∈E) (hgB:g<B) (hg:w.grownBy w' (some g)):RL w0 w' E B x y c n q:=
 ⟨h.wi.drawn hgE hgB hg,⟨h.fr.1,fun i h1 h2=>(h.fr.2 i h1 h2).sub fun w3 h3=>(OffS.grown (S:=x.RS E B) hg (.inr (by simp [WV.RS,hgE]))).trans1 h3⟩,h.ce,h.len,h.small,h.thr⟩
theorem RL.le {w0 w:World} {E:List (Option Nat)} {B:Nat} {x:WV} {y:WM} {c:ConfM} {n q q2:Nat} (h:RL w0 w E B x y c n q) (hq:q≤q2):RL w0 w E B x y c n q2:=
 ⟨h.wi,h.fr,h.ce,h.len,⟨by have:=h.small.1; omega,by have:=h.small.2; omega⟩,h.thr⟩
theorem rl_step {w0 w:World} {E:List (Option Nat)} {B:Nat} {x:WV} {y:WM} {c:ConfM} {n q:Nat} (h:RL w0 w E B x y c n q) (hn:n≤1000) (hq:q≤100000) (i:Nat) (hi:i<n) :
  Calls Tryz.prog 25 #[.pointer (some ⟨B,0,none⟩),.int .i64 i] w fun e w'=>∃x2 y2,e=.returned (.tuple #[])∧Hid (RL w0 w' E B x2 y2 c n (q+1))∧Hid (hstW y2=hstep c (hstW y) i)∧Hid (OffS (x.RS E B) w w'):=by
 have hif:i<y.f.length:=by rw [h.len]; exact hi
 have hil:i<y.l.length:=by rw [← h.fr.1]; exact hif
 have hm:y.l[i]?=some y.l[i]:=List.getElem?_eq_getElem hil;have hK:=(h.fr.2 i hif hil).2.1;have hl:y.f.length≤1000:=by rw [h.len]; exact hn
 by_cases hp:y.l[i].pl=0
 ·refine (rstep_end h.wi h.fr i hif _ hm hl hp).mono ?_
  rintro e w' ⟨rfl,hb⟩;refine ⟨x,y,rfl,(h.next hb).le (by omega),?_,OffS.below hb⟩;show hstW y=_;unfold hstep;rw [show (hstW y).l[i]?=some y.l[i] from hm];simp only [if_pos hp]
 ·obtain ⟨a,ha⟩:∃a,rgNE y.c y.l[i]=a:=⟨_,rfl⟩
  have hgr:=rg_granted y.c y.l[i] y.m hp;rw [ha] at hgr;obtain ⟨r,hr⟩:∃r,applyE y.m a=r:=⟨_,rfl⟩;obtain ⟨mm,bb,ok⟩:=r;rw [hr] at hgr;have hok:ok=true:=hgr;subst hok;refine (rstep_yes h.wi h.fr i hif _ hm hl hp ha (ha▸rg_acc _ _ hK h.wi.good) hr rfl (by have:=h.small; omega) (by have:=h.small; omega)).mono ?_;rintro e w' ⟨x2,f2,rfl,h1,h2,h3⟩;refine ⟨x2,_,rfl,⟨h1.out,h2.out,h.ce,by show (y.f.set i f2).length=n; rw [List.length_set,h.len],by have:=h.small; show (y.t ++ [_]).length≤q+1∧(y.p ++ [_]).length≤q+1; simp; omega,fun z hz=>by
   rw [List.mem_append,List.mem_singleton] at hz;rcases hz with hz | rfl
   ·exact h.thr z hz
   ·exact ⟨by show (0:Int)≤(i:Nat); omega,by show ((i:Nat):Int)<n; omega⟩⟩,?_,h3.out _ (OffS.self _ _)⟩
  show hstW _=hstep c (hstW y) i;have hs1:step1 c (y.m,y.l[i])=(mm,rgRE y.c y.l[i] bb):=by
   unfold step1;rw [← h.ce,if_neg hp,ha,hr];rfl
  have hct:casTB c y.m y.l[i]=casI ⟨i,a,bb.val,bb.ok⟩:=by
   unfold casTB casI;rw [← h.ce,ha,hr]
  unfold hstep;rw [show (hstW y).l[i]?=some y.l[i] from hm];simp only [if_neg hp];show _=Hst.mk (step1 c (y.m,y.l[i])).1 (y.l.set i (step1 c (y.m,y.l[i])).2) (((y.t.map fun z=>(z.thr.toNat,casI z))) ++ [(i,casTB c y.m y.l[i])]) (y.p.map Prod.snd ++ [y.m]);rw [hs1,hct];show Hst.mk mm (y.l.set i _) ((y.t ++ [_]).map _) ((y.p ++ [_]).map _)=_;rw [List.map_append,List.map_append];rfl
theorem RL.added {w0 u1 u2 u3 v4:World} {E:List (Option Nat)} {B:Nat} {x:WV} {y:WM} {c:ConfM} {n q:Nat} {a':Option Addr} {c':Nat} {r:List Value} {m:MachM} (h:RL w0 u3 E B x y c n q) (hmr:MR (NewPart u1 u2) c r m) (h12:Below u1.heap.size u1 u2) (h23:Below u2.heap.size u2 u3) (hS:∀j,some j∈x.RS E B→j<u1.heap.size)
  (ho:OwnS v4 (B+1) 53 7 (.slice a' (y.f.length+1) c') (y.f ++ [r])) (hg:u3.grownBy v4 (x.vf y).ownBlock) (hbk:addrB a'=addrB x.fA∨addrB a'=some u3.heap.size) :
  RL w0 (v4.setCell ⟨B,6,none⟩ (.slice a' (y.f.length+1) c')) E B { x with fA:=a',fc:=c' } { y with l:=y.l ++ [m],f:=y.f ++ [r] } c (n+1) q∧OffS (x.RS E B) u3 (v4.setCell ⟨B,6,none⟩ (.slice a' (y.f.length+1) c'))∧Below B u3 (v4.setCell ⟨B,6,none⟩ (.slice a' (y.f.length+1) c')):=by
 obtain ⟨h1,h2⟩:=h.wi.addF ho hg hbk;have hoff:=h2 _ (OffS.self _ _);have hBlt:=h.wi.lt;have z1:=h12.size;have z2:=h23.size;have hge:∀j,(x.vf y).ownBlock=some j→B+1≤j:=fun j hj=>(h.wi.of.lt j hj).1;have hbel:Below B u3 (v4.setCell ⟨B,6,none⟩ (.slice a' (y.f.length+1) c')):=((Below.refl B u3).grown hg (Nat.le_of_lt hBlt) (fun j hj=>by have:=hge j hj; omega)).setCell (p:=⟨B,6,none⟩) (Nat.le_refl _) _;have hnew:∀w3,OffS (WV.RS { x with fA:=a',fc:=c' } E B) (v4.setCell ⟨B,6,none⟩ (.slice a' (y.f.length+1) c')) w3→NewPart u1 u2 w3:=fun w3 h3=>by
  refine ⟨by have:=h3.1; have:=hoff.1; omega,fun j hj hj2=>?_⟩;have hn1:some j ∉ x.RS E B:=fun hm=>by have:=hS j hm; omega
  have hn2:some j ∉ WV.RS { x with fA:=a',fc:=c' } E B:=fun hm=>by
   simp only [WV.RS,List.mem_append,List.mem_cons,List.not_mem_nil,or_false] at hm hn1;rcases hm with e | e | e | e | e
   ·exact hn1 (.inl e)
   ·exact hn1 (.inr (.inl e))
   ·exact hn1 (.inr (.inr (.inl e)))
   ·exact hn1 (.inr (.inr (.inr (.inl e))))
   ·rcases hbk with hb | hb
    ·rw [hb] at e; exact hn1 (.inr (.inr (.inr (.inr e))))
    ·rw [hb] at e; simp only [Option.some.injEq] at e; omega
  rw [h3.2 j (by have:=hoff.1; omega) hn2,hoff.2 j (by omega) hn1,h23.block j hj2]
 refine ⟨⟨h1.withL _,⟨by show (y.f ++ [r]).length=(y.l ++ [m]).length; rw [List.length_append,List.length_append,h.fr.1]; rfl,fun j h4 h5=>?_⟩,h.ce,by show (y.f ++ [r]).length=n+1; rw [List.length_append,h.len]; rfl,h.small,fun z hz=>by have:=h.thr z hz; omega⟩,hoff,hbel⟩;have h6:j<(y.f ++ [r]).length:=h4;rw [List.length_append,List.length_singleton] at h6;show MR _ y.c ((y.f ++ [r])[j]'h4) ((y.l ++ [m])[j]'h5);by_cases hj:j<y.f.length
 ·rw [List.getElem_append_left hj,List.getElem_append_left (by rw [← h.fr.1]; exact hj)]
  exact (h.fr.2 j hj (by rw [← h.fr.1]; exact hj)).sub h2
 ·have e:j=y.f.length:=by omega
  subst e;have e1:(y.f ++ [r])[y.f.length]?=some r:=by simp
  have e2:(y.l ++ [m])[y.f.length]?=some m:=by rw [h.fr.1]; simp
  rw [(List.getElem?_eq_some_iff.1 e1).2,(List.getElem?_eq_some_iff.1 e2).2,h.ce];exact hmr.sub hnew
theorem Tryz.info_mach7:(Tryz.prog.info? 53).map (fun i=>(i.zero,i.size,i.bytes))=some (some (.agg #[.int .i64 0,.int .u64 0,.int .i64 0,.int .i64 0,.slice none 0 0,.slice none 0 0,.slice none 0 0]),7,104):=by kernel_rfl
theorem configO (g:Nat) (w:World) (h:CodesE w g) :
  Calls Tryz.prog 20 #[.pointer (some ⟨g,0,none⟩)] w fun e w'=>∃(vc vs:Value) (c:ConfM),e=.returned (.agg #[vc,vs,.int .i64 c.threads])∧OwnI w' w.heap.size 3 .i64 vc c.caps∧OwnI w' w.heap.size 42 .u64 vs c.starts∧c.good∧1≤c.caps.length∧c.caps.length≤3∧CodesE w' g∧w.grownBy w' (some g):=by
 obtain ⟨r,val,h⟩:=h;refine (config_own g r val w h).mono ?_;rintro e w' ⟨vc,vs,t,caps,starts,r',rfl,h1,h2,h3,h4,h5,h6,h7,h8,h9,h10,h11,h12,h13,h14⟩;exact ⟨vc,vs,⟨caps,starts,t⟩,rfl,h13,h14,h12.good h5 (by omega),h4,h5,⟨_,_,h8⟩,h9⟩
def ConfM.cap0 (c:ConfM) (k:Int):ConfM:=⟨c.caps.set 0 k,c.starts,c.threads⟩
theorem ConfM.good.cap0 {c:ConfM} (h:c.good) (k:Int) (hk:0≤k∧k≤16):(c.cap0 k).good:=
 ⟨by show (c.caps.set 0 k).length≤8; simpa using h.len,by show c.starts.length=(c.caps.set 0 k).length; simpa using h.same,fun x hx=>by
  rcases List.mem_or_eq_of_mem_set hx with h1 | rfl
  ·exact h.caps x h1
  ·exact hk,h.starts,h.thr⟩
theorem OwnI.readOff {S:List (Option Nat)} {w w2:World} {base:Nat} {e:TypeId} {k:IntKind} {v:Value} {l:List Int} (h:OwnI w base e k v l) (hl:l.length≤1000000) (hw:∀x∈l,x=k.wrap x) (hS:∀j,v.ownBlock=some j→some j ∉ S) (h2:OffS S w w2):SlI w2 k v l:=by
 have h3:OwnI w2 base e k v l:=by
  refine ⟨h.1,h.2.imp id fun ⟨g,cap,cur,hv,h3,h4,h5⟩=>⟨g,cap,cur,hv,h3,(h2.2 g (Array.getElem?_eq_some_iff.1 h4).1 (hS g (by rw [hv]; rfl))).trans h4,h5⟩⟩
 exact h3.read (by omega) hw
end Go.Proofs.YtjnlkemdaffgbaaGreat
