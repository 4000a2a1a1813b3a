import Derived.Deep.RegionLaw
import Derived.Deep.DeepCutAuto
import Derived.Deep.CutBlock
import Derived.Test.YtiekicailidhcaaB03
import Derived.Test.YtiekicailidhcaaB02
import Derived.Test.YtiekicailidhcaaB01
set_option linter.unusedVariables false
set_option linter.unusedSimpArgs false
namespace Go.Proofs.Ytiekicailidhcaa
open Go.ChangeShapes Go.WideShapes Go.ChangeAt Go.RowKit
set_option maxRecDepth 100000
theorem grown_of_below {a b:World} {row:Option Nat} (h:Below a.heap.size a b):a.grownBy b row:=⟨h.os,h.tape,h.output,h.size,fun j hj _=>h.block j hj⟩
theorem u64_ok (x:Int) (h0:0≤x) (h1:x≤18446744073709551615):x=IntKind.u64.wrap x:=by
 rw [IntKind.wrap_u64]; omega
theorem value_step {w:World} {g k:Nat} {v:Value} {val x:Int} {l r:List Int} (hg:w.heap[g]?=some (.cells #[v,.int .i64 k,.int .u64 val] 77 (0,0))) (h:CodesAt w g r val) :
  CodesAt (w.setCell ⟨g,2,none⟩ (.int .u64 x)) g r x∧w.grownBy (w.setCell ⟨g,2,none⟩ (.int .u64 x)) (some g)∧(w.setCell ⟨g,2,none⟩ (.int .u64 x)).cell? ⟨g,2,none⟩=some (.int .u64 x):=by
 have hs:=heap_setCell_same w g 2 _ _ (.int .u64 x) hg;have hgr:=grownBy_setCell w ⟨g,2,none⟩ (.int .u64 x);refine ⟨?_,hgr,by simpa using cell_of_row _ g 2 _ _ _ hs⟩;obtain ⟨v',l',k',hg',hl,hk,hr,ho⟩:=h;rw [hg] at hg';simp only [Option.some.injEq,Obj.cells.injEq,Array.mk.injEq,List.cons.injEq,and_true] at hg';obtain ⟨rfl,hkk⟩:=hg';simp only [Value.int.injEq,true_and,and_true] at hkk;obtain rfl:k=k':=by omega
 refine ⟨v,l',k,by simpa using hs,?_,hk,hr,ho⟩;refine hl.grown hgr fun a n c e=>?_;subst e;by_cases hne:l'=[]
 ·obtain ⟨a',cap',e,-⟩:=hl.len
  rw [hne] at e;simp only [Value.slice.injEq] at e;exact .inl e.2.1
 ·exact .inr (by have:=ho hne (some a) n c rfl a rfl; simp; omega)
theorem valueE (g:Nat) (w:World) (h:CodesE w g) :
  Calls Try.prog 47 #[.pointer (some ⟨g,0,none⟩)] w fun e w'=>∃x:Int,e=.returned (.int .u64 x)∧x=IntKind.u64.wrap x∧CodesE w' g∧w.grownBy w' (some g):=by
 obtain ⟨r,val,h⟩:=h;obtain ⟨v,l,k,hg,-⟩:=id h;have c2:=cell_of_row w g 2 _ _ _ hg;have f2:=frozen_of_row w g 2 _ _ hg;simp at c2;have ST:=Lib.hid fun x=>value_step (x:=x) (l:=l) hg h;obtain ⟨x,hx⟩:∃x,IntKind.u64.wrap (val+1)=x:=⟨_,rfl⟩;obtain ⟨s1,s2,s3⟩:=ST.out x;have HS:=Lib.hid (And.intro s1 s2);have HX:Hid (x=IntKind.u64.wrap x):=by
  show _=_;rw [← hx,IntKind.wrap_u64,IntKind.wrap_u64]; omega
 clear hg h ST s1 s2;go_enter Try.func47,Try.ntmps47;go_wp2;go_ret;exact ⟨x,rfl,HX.out,⟨r,x,HS.out.1⟩,HS.out.2⟩
theorem row7 {w:World} {g:Nat} {T:TypeId} {v0 v1 v2 v3 v4 v5 v6:Value} (h:w.heap[g]?=some (.cells #[v0,v1,v2,v3,v4,v5,v6] T (0,0))) :
  w.cell? ⟨g,0,none⟩=some v0∧w.cell? ⟨g,1,none⟩=some v1∧w.cell? ⟨g,2,none⟩=some v2∧w.cell? ⟨g,3,none⟩=some v3∧w.cell? ⟨g,4,none⟩=some v4∧w.cell? ⟨g,5,none⟩=some v5∧w.cell? ⟨g,6,none⟩=some v6:=
 ⟨cell_of_row _ _ 0 _ _ _ h,cell_of_row _ _ 1 _ _ _ h,cell_of_row _ _ 2 _ _ _ h,cell_of_row _ _ 3 _ _ _ h,cell_of_row _ _ 4 _ _ _ h,cell_of_row _ _ 5 _ _ _ h,cell_of_row _ _ 6 _ _ _ h⟩
theorem row3 {w:World} {g:Nat} {T:TypeId} {v0 v1 v2:Value} (h:w.heap[g]?=some (.cells #[v0,v1,v2] T (0,0))) :
  w.cell? ⟨g,0,none⟩=some v0∧w.cell? ⟨g,1,none⟩=some v1∧w.cell? ⟨g,2,none⟩=some v2:=
 ⟨cell_of_row _ _ 0 _ _ _ h,cell_of_row _ _ 1 _ _ _ h,cell_of_row _ _ 2 _ _ _ h⟩
theorem grownBy_setRow (w:World) (g:Nat) (cs:Array Value):w.grownBy (w.setRow g cs) (some g):=
 ⟨rfl,rfl,rfl,by simp [World.setRow],fun k _ hk=>setRow_other w g k cs (fun e=>hk (by rw [e]))⟩
def zeroOp:Array Value:=#[.int .i64 0,.int .i64 0,.int .i64 0,.int .u64 0,.int .i64 0,.slice none 0 0,.slice none 0 0]
theorem mode_end {w w1 W:World} {g:Nat} (hlt:g<w.heap.size) (hg:w.grownBy w1 (some g)) (hc:CodesE w1 g) (hb:Below w.heap.size w1 W):CodesE W g∧w.grownBy W (some g):=
 ⟨hc.kept hlt hb,⟨hb.os.trans hg.os,hb.tape.trans hg.tape,hb.output.trans hg.output,Nat.le_trans hg.size hb.size,fun k hk hr=>(hb.block k hk).trans (hg.block k hk hr)⟩⟩
set_option maxRecDepth 100000 in
set_option maxHeartbeats 1000000 in
theorem modeE (g:Nat) (kd md ch vl dl:Int) (vc vd:Value) (cs:List CaseM) (ds:List Int) (w:World) (h:CodesE w g) (hc:SlC w vc cs) (hd:SlI w .i64 vd ds) :
  Calls Try.prog 45 #[.pointer (some ⟨g,0,none⟩),.agg #[.int .i64 kd,.int .i64 md,.int .i64 ch,.int .u64 vl,.int .i64 dl,vc,vd]] w fun e w'=>
   ∃m d,e=.returned (.agg #[.int .i64 kd,.int .i64 m,.int .i64 ch,.int .u64 vl,.int .i64 d,vc,vd])∧((m=md∧d=dl)∨(m=1∧d=dl)∨(m=2∧0≤d∧d<5))∧CodesE w' g∧w.grownBy w' (some g):=by
 have hlt:=h.lt;have HC:=Lib.hid h;obtain ⟨a3,cap3,rfl⟩:=hc.len;obtain ⟨a4,cap4,rfl,-⟩:=hd.len;clear h hc hd;generalize cs.length=nc at *;generalize ds.length=nd at *;obtain ⟨W,hW⟩:∃W,(w.alloc (.cells #[.int .i64 kd,.int .i64 md,.int .i64 ch,.int .u64 vl,.int .i64 dl,.slice a3 nc cap3,.slice a4 nd cap4] 44)).alloc (.cells zeroOp 44)=W:=⟨_,rfl⟩;have HB:Hid (Below w.heap.size w W):=hW▸below_new (below_new (Below.refl w.heap.size w) _) _;have hz:w.heap.size+2≤W.heap.size:=by rw [← hW]; simp
 have R0:Hid (W.heap[w.heap.size]?=some (.cells #[.int .i64 kd,.int .i64 md,.int .i64 ch,.int .u64 vl,.int .i64 dl,.slice a3 nc cap3,.slice a4 nd cap4] 44 (0,0))):=by
  show _=_;rw [← hW]; exact heap_alloc2_old _ _ _
 have R1:Hid (W.heap[w.heap.size+1]?=some (.cells zeroOp 44 (0,0))):=by
  show _=_;rw [← hW]; exact heap_alloc2_new _ _ _
 have HCW:=Lib.hid (HC.out.kept hlt HB.out);have HGW:Hid (w.grownBy W (some g)):=grown_of_below HB.out;have HW:=Lib.hid hW;clear hW;go_enter Try.func45,Try.ntmps45;go_wp2_with fail;rw [show (#[.int .i64 0,.int .i64 0,.int .i64 0,.int .u64 0,.int .i64 0,.slice none 0 0,.slice none 0 0]:Array Value)=zeroOp from rfl,HW.out];refine (nextE g 8 _ HCW.out (by omega) (by omega)).mono ?_; rintro e w1 ⟨x,rfl,hx0,hx1,hc1,hg1⟩;have HC1:=Lib.hid hc1;have HG1:=Lib.hid (grownBy_trans HGW.out hg1);have S0:=Lib.hid ((hg1.block w.heap.size (by omega) (by simp; omega)).trans R0.out);have S1:=Lib.hid ((hg1.block (w.heap.size+1) (by omega) (by simp; omega)).trans R1.out);have hg1s:w.heap.size+2≤w1.heap.size:=Nat.le_trans hz hg1.size;clear hc1 hg1;obtain ⟨c0,c1,c2,c3,c4,c5,c6⟩:=row7 S0.out;have f1:=frozen_of_row _ _ 1 _ _ S0.out;have f4:=frozen_of_row _ _ 4 _ _ S0.out;rcases (show (x=5∨x=6)∨x=7∨((x == 5)=false∧(x == 6)=false∧(x == 7)=false) by simp; omega) with hx | rfl | ⟨x5,x6,x7⟩
 ·have T0:=Lib.hid (heap_setCell_same w1 w.heap.size 1 _ _ (.int .i64 1) S0.out)
  have TROW:=Lib.hid ((heap_setCell_other w1 ⟨w.heap.size,1,none⟩ (w.heap.size+1) (.int .i64 1) (by simp)).trans S1.out);have HG:=HG1;have HCC:=HC1;simp at T0;obtain ⟨d0,d1,d2,d3,d4,d5,d6⟩:=row7 T0.out;rcases hx with rfl | rfl
  all_goals
   go_wp2_with (refine wpList_store_row rfl 44 _ _ rfl (w.heap.size+1) _ rfl rfl 44 zeroOp TROW.out (by kernel_rfl) rfl (by simp [Value.oneCell']) ?_);refine bodyPost_ret (v:=.agg #[.int .i64 kd,.int .i64 1,.int .i64 ch,.int .u64 vl,.int .i64 dl,.slice a3 nc cap3,.slice a4 nd cap4]) (results_cell_row Try.results45 _ _ (w.heap.size+1) 44 _ (0,0) _ rfl (setRow_heap _ _ _ _ 44 (0,0) TROW.out) Try.underlying44 rfl (by kernel_rfl)) rfl ?_;obtain ⟨f2,f3⟩:=mode_end hlt HG.out HCC.out (W:=_) (below_setRow ((Below.refl _ _).setCell (p:=⟨w.heap.size,1,none⟩) (Nat.le_refl _) _) (Nat.le_succ _) _);exact ⟨1,dl,rfl,.inr (.inl ⟨rfl,rfl⟩),f2,f3⟩
 ·go_wp2_with fail
  refine (nextE g 5 _ HC1.out (by omega) (by omega)).mono ?_; rintro e w2 ⟨y,rfl,hy0,hy1,hc2,hg2⟩;have HCC:=Lib.hid hc2;have HG:=Lib.hid (grownBy_trans HG1.out hg2);have S20:=Lib.hid ((hg2.block w.heap.size (by omega) (by simp; omega)).trans S0.out);have S21:=Lib.hid ((hg2.block (w.heap.size+1) (by omega) (by simp; omega)).trans S1.out);clear hc2 hg2 c0 c1 c2 c3 c4 c5 c6 f1 f4;obtain ⟨c0,c1,c2,c3,c4,c5,c6⟩:=row7 S20.out;have f1:=frozen_of_row _ _ 1 _ _ S20.out;have f4:=frozen_of_row _ _ 4 _ _ S20.out;have T0:=Lib.hid (heap_setCell_same w2 w.heap.size 1 _ _ (.int .i64 2) S20.out);simp at T0;have g4:=frozen_of_row _ _ 4 _ _ T0.out;have U0:=Lib.hid (heap_setCell_same _ w.heap.size 4 _ _ (.int .i64 y) T0.out);simp at U0;obtain ⟨e0,e1,e2,e3,e4,e5,e6⟩:=row7 T0.out;obtain ⟨d0,d1,d2,d3,d4,d5,d6⟩:=row7 U0.out;have TROW:=Lib.hid ((heap_setCell_other _ ⟨w.heap.size,4,none⟩ (w.heap.size+1) (.int .i64 y) (by simp)).trans ((heap_setCell_other w2 ⟨w.heap.size,1,none⟩ (w.heap.size+1) (.int .i64 2) (by simp)).trans S21.out));go_wp2_with (refine wpList_store_row rfl 44 _ _ rfl (w.heap.size+1) _ rfl rfl 44 zeroOp TROW.out (by kernel_rfl) rfl (by simp [Value.oneCell']) ?_);refine bodyPost_ret (v:=.agg #[.int .i64 kd,.int .i64 2,.int .i64 ch,.int .u64 vl,.int .i64 y,.slice a3 nc cap3,.slice a4 nd cap4]) (results_cell_row Try.results45 _ _ (w.heap.size+1) 44 _ (0,0) _ rfl (setRow_heap _ _ _ _ 44 (0,0) TROW.out) Try.underlying44 rfl (by kernel_rfl)) rfl ?_;obtain ⟨f2,f3⟩:=mode_end hlt HG.out HCC.out (W:=_) (below_setRow (((Below.refl _ _).setCell (p:=⟨w.heap.size,1,none⟩) (Nat.le_refl _) _).setCell (p:=⟨w.heap.size,4,none⟩) (Nat.le_refl _) _) (Nat.le_succ _) _);exact ⟨2,y,rfl,.inr (.inr ⟨rfl,hy0,hy1⟩),f2,f3⟩
 ·have TROW:=S1
  have HG:=HG1;have HCC:=HC1;go_wp2_with (refine wpList_store_row rfl 44 _ _ rfl (w.heap.size+1) _ rfl rfl 44 zeroOp TROW.out (by kernel_rfl) rfl (by simp [Value.oneCell']) ?_);refine bodyPost_ret (v:=.agg #[.int .i64 kd,.int .i64 md,.int .i64 ch,.int .u64 vl,.int .i64 dl,.slice a3 nc cap3,.slice a4 nd cap4]) (results_cell_row Try.results45 _ _ (w.heap.size+1) 44 _ (0,0) _ rfl (setRow_heap _ _ _ _ 44 (0,0) TROW.out) Try.underlying44 rfl (by kernel_rfl)) rfl ?_;obtain ⟨f2,f3⟩:=mode_end hlt HG.out HCC.out (W:=_) (below_setRow (Below.refl _ _) (Nat.le_succ _) _);exact ⟨md,dl,rfl,.inl ⟨rfl,rfl⟩,f2,f3⟩
structure SelInv (w0 w:World) (g:Nat) (cc:Array Value) (vc vd:Value) (cs:List CaseM) (ds:List Int):Prop where
 lt:g<w0.heap.size
 size:w0.heap.size+3≤w.heap.size
 codes:CodesE w g
 grown:w0.grownBy w (some g)
 box:w.heap[w0.heap.size]?=some (.cells cc 29 (0,0))
 res:w.heap[w0.heap.size+1]?=some (.cells zeroOp 44 (0,0))
 var:w.heap[w0.heap.size+2]?=some (.cells #[.int .i64 4,.int .i64 0,.int .i64 0,.int .u64 0,.int .i64 0,vc,vd] 44 (0,0))
 oc:OwnC w (w0.heap.size+3) vc cs
 od:OwnI w (w0.heap.size+3) 3 .i64 vd ds
theorem SelInv.next {w0 w w':World} {g:Nat} {cc:Array Value} {vc vd:Value} {cs:List CaseM} {ds:List Int} (h:SelInv w0 w g cc vc vd cs ds) (hc:CodesE w' g) (hg:w.grownBy w' (some g)):SelInv w0 w' g cc vc vd cs ds:=by
 have hs:=h.size;have hl:=h.lt;have b:∀j,w0.heap.size≤j→j<w0.heap.size+3→w'.heap[j]?=w.heap[j]?:=fun j h1 h2=>hg.block j (by omega) (by simp; omega);exact ⟨hl,Nat.le_trans hs hg.size,hc,grownBy_trans h.grown hg,(b _ (by omega) (by omega)).trans h.box,(b _ (by omega) (by omega)).trans h.res,(b _ (by omega) (by omega)).trans h.var,h.oc.kept hg (h.oc.ne (by omega)),h.od.kept hg (h.od.ne (by omega))⟩
theorem SelInv.below {w0 w w':World} {g:Nat} {cc:Array Value} {vc vd:Value} {cs:List CaseM} {ds:List Int} (h:SelInv w0 w g cc vc vd cs ds) (hb:Below w.heap.size w w'):SelInv w0 w' g cc vc vd cs ds:=
 h.next (h.codes.kept h.codes.lt hb) (grown_of_below hb)
theorem SelInv.mine {w0 w:World} {g b o:Nat} {u:Value} {cc:Array Value} {vc vd:Value} {cs:List CaseM} {ds:List Int} {T:TypeId} {cells:Array Value} (h:SelInv w0 w g cc vc vd cs ds)
  (hb:w.heap[b]?=some (.cells cells T (0,0))) (hT:T≠3) (hb3:w0.heap.size+3≤b) (hC:T≠58∨vc.ownBlock≠some b):SelInv w0 (w.setCell ⟨b,o,none⟩ u) g cc vc vd cs ds:=by
 have hs:=h.size;have hl:=h.lt;have hgr:=grownBy_setCell w ⟨b,o,none⟩ u;have e:∀j,j≠b→(w.setCell ⟨b,o,none⟩ u).heap[j]?=w.heap[j]?:=fun j hj=>heap_setCell_other w ⟨b,o,none⟩ j u hj;have hbl:Below (w0.heap.size+3) w (w.setCell ⟨b,o,none⟩ u):=(Below.refl _ w).setCell (p:=⟨b,o,none⟩) hb3 u;refine ⟨hl,by simpa using hs,h.codes.kept (B:=w0.heap.size+3) (by omega) hbl,?_,(e _ (by omega)).trans h.box,(e _ (by omega)).trans h.res,(e _ (by omega)).trans h.var,h.oc.kept hgr ?_,h.od.kept hgr ?_⟩
 ·exact grownBy_of_new h.grown hgr (fun k hk=>by cases hk; simp; omega)
 ·cases hv:vc.ownBlock with
  | none=>exact .inl rfl
  | some q=>
   refine .inr fun eq=>?_;simp only [Option.some.injEq] at eq;subst eq;rcases hC with hC | hC
   ·rcases h.oc.2 with ⟨rfl,_⟩ | ⟨g',cap,cur,rfl,_,hg',_⟩
    ·simp [Value.ownBlock] at hv
    ·simp only [Value.ownBlock,Option.some.injEq] at hv
     subst hv;rw [hb] at hg';simp only [Option.some.injEq,Obj.cells.injEq] at hg';exact hC hg'.2.1
   ·exact hC hv
 ·cases hv:vd.ownBlock with
  | none=>exact .inl rfl
  | some q=>
   refine .inr fun eq=>?_;simp only [Option.some.injEq] at eq;subst eq;rcases h.od.2 with ⟨rfl,_⟩ | ⟨g',cap,cur,rfl,_,hg',_⟩
   ·simp [Value.ownBlock] at hv
   ·simp only [Value.ownBlock,Option.some.injEq] at hv
    subst hv;rw [hb] at hg';simp only [Option.some.injEq,Obj.cells.injEq] at hg';exact hT hg'.2.1
theorem SelInv.addCase {w0 w w1:World} {g:Nat} {cc:Array Value} {vc vd vc':Value} {cs cs':List CaseM} {ds:List Int} (h:SelInv w0 w g cc vc vd cs ds) (ho:OwnC w1 (w0.heap.size+3) vc' cs') (hg:w.grownBy w1 vc.ownBlock) :
  SelInv w0 (w1.setCell ⟨w0.heap.size+2,5,none⟩ vc') g cc vc' vd cs' ds:=by
 have hs:=h.size;have hl:=h.lt;have hge:=h.oc.own_ge;have b:∀j,j<w0.heap.size+3→w1.heap[j]?=w.heap[j]?:=fun j hj=>hg.block j (by omega) (fun e=>by have:=hge j e.symm; omega);have b2:∀j,j≠w0.heap.size+2→(w1.setCell ⟨w0.heap.size+2,5,none⟩ vc').heap[j]?=w1.heap[j]?:=fun j hj=>heap_setCell_other w1 ⟨w0.heap.size+2,5,none⟩ j _ hj;have hb:Below (w0.heap.size+2) w (w1.setCell ⟨w0.heap.size+2,5,none⟩ vc'):=by
  refine ⟨hg.os,hg.tape,hg.output,by simpa using hg.size,fun k hk=>(b2 k (by omega)).trans (b k (by omega))⟩
 have hv:=heap_setCell_same w1 (w0.heap.size+2) 5 _ _ vc' ((b _ (by omega)).trans h.var);refine ⟨hl,?_,h.codes.kept (by omega) hb,?_,(b2 _ (by omega)).trans ((b _ (by omega)).trans h.box),(b2 _ (by omega)).trans ((b _ (by omega)).trans h.res),by simpa using hv,?_,?_⟩
 ·simpa using Nat.le_trans hs hg.size
 ·exact grownBy_of_new (grownBy_of_new h.grown hg (fun k hk=>by have:=hge k hk; omega)) (grownBy_setCell w1 ⟨w0.heap.size+2,5,none⟩ vc') (fun k hk=>by cases hk; simp)
 ·exact ho.kept (grownBy_setCell w1 ⟨w0.heap.size+2,5,none⟩ vc') (ho.ne (Nat.lt_succ_self _))
 ·have h1:=h.od.kept hg (rows_apart h.od h.oc (by decide))
  exact h1.kept (grownBy_setCell w1 ⟨w0.heap.size+2,5,none⟩ vc') (h1.ne (Nat.lt_succ_self _))
theorem SelInv.addDraw {w0 w w1:World} {g:Nat} {cc:Array Value} {vc vd vd':Value} {cs:List CaseM} {ds ds':List Int} (h:SelInv w0 w g cc vc vd cs ds) (ho:OwnI w1 (w0.heap.size+3) 3 .i64 vd' ds') (hg:w.grownBy w1 vd.ownBlock) :
  SelInv w0 (w1.setCell ⟨w0.heap.size+2,6,none⟩ vd') g cc vc vd' cs ds':=by
 have hs:=h.size;have hl:=h.lt;have hge:=h.od.own_ge;have b:∀j,j<w0.heap.size+3→w1.heap[j]?=w.heap[j]?:=fun j hj=>hg.block j (by omega) (fun e=>by have:=hge j e.symm; omega);have b2:∀j,j≠w0.heap.size+2→(w1.setCell ⟨w0.heap.size+2,6,none⟩ vd').heap[j]?=w1.heap[j]?:=fun j hj=>heap_setCell_other w1 ⟨w0.heap.size+2,6,none⟩ j _ hj;have hb:Below (w0.heap.size+2) w (w1.setCell ⟨w0.heap.size+2,6,none⟩ vd'):=by
  refine ⟨hg.os,hg.tape,hg.output,by simpa using hg.size,fun k hk=>(b2 k (by omega)).trans (b k (by omega))⟩
 have hv:=heap_setCell_same w1 (w0.heap.size+2) 6 _ _ vd' ((b _ (by omega)).trans h.var);refine ⟨hl,?_,h.codes.kept (by omega) hb,?_,(b2 _ (by omega)).trans ((b _ (by omega)).trans h.box),(b2 _ (by omega)).trans ((b _ (by omega)).trans h.res),by simpa using hv,?_,?_⟩
 ·simpa using Nat.le_trans hs hg.size
 ·exact grownBy_of_new (grownBy_of_new h.grown hg (fun k hk=>by have:=hge k hk; omega)) (grownBy_setCell w1 ⟨w0.heap.size+2,6,none⟩ vd') (fun k hk=>by cases hk; simp)
 ·have h1:=h.oc.kept hg (rows_apart h.oc h.od (by decide))
  exact h1.kept (grownBy_setCell w1 ⟨w0.heap.size+2,6,none⟩ vd') (h1.ne (Nat.lt_succ_self _))
 ·exact ho.kept (grownBy_setCell w1 ⟨w0.heap.size+2,6,none⟩ vd') (ho.ne (Nat.lt_succ_self _))
theorem SelInv.own_lt {w0 w:World} {g:Nat} {cc:Array Value} {vc vd:Value} {cs:List CaseM} {ds:List Int} (h:SelInv w0 w g cc vc vd cs ds) (b:Nat) (hb:w.heap.size≤b):vc.ownBlock≠some b:=by
 intro e;have:=(World.ownsRow.lt h.oc b e).2;omega
structure YInv (w0 w:World) (g:Nat) (cc:Array Value) (vc vd:Value) (cs:List CaseM) (ds:List Int) (Y:Nat) (cells:Array Value):Prop where
 inv:SelInv w0 w g cc vc vd cs ds
 row:w.heap[Y]?=some (.cells cells 58 (0,0))
 ge:w0.heap.size+3≤Y
 ne:vc.ownBlock≠some Y
def zeroCase:Array Value:=#[.bool false,.int .i64 0,.int .u64 0]
theorem YInv.new {w0 w:World} {g:Nat} {cc:Array Value} {vc vd:Value} {cs:List CaseM} {ds:List Int} (h:SelInv w0 w g cc vc vd cs ds):YInv w0 (w.alloc (.cells zeroCase 58)) g cc vc vd cs ds w.heap.size zeroCase:=
 ⟨h.below (below_new (Below.refl _ _) _),heap_alloc_new _ _,h.size,h.own_lt _ (Nat.le_refl _)⟩
theorem YInv.lit {w0 w:World} {g:Nat} {cc:Array Value} {vc vd:Value} {cs:List CaseM} {ds:List Int} (h:SelInv w0 w g cc vc vd cs ds) (cells:Array Value):YInv w0 (w.alloc (.cells cells 58)) g cc vc vd cs ds w.heap.size cells:=
 ⟨h.below (below_new (Below.refl _ _) _),heap_alloc_new _ _,h.size,h.own_lt _ (Nat.le_refl _)⟩
theorem YInv.frozen {w0 w:World} {g:Nat} {cc:Array Value} {vc vd:Value} {cs:List CaseM} {ds:List Int} {Y:Nat} {cells:Array Value} (h:YInv w0 w g cc vc vd cs ds Y cells):w.frozen? ⟨Y,0,none⟩=false∧w.frozen? ⟨Y,1,none⟩=false∧w.frozen? ⟨Y,2,none⟩=false:=
 ⟨frozen_of_row _ _ 0 _ _ h.row,frozen_of_row _ _ 1 _ _ h.row,frozen_of_row _ _ 2 _ _ h.row⟩
theorem YInv.next {w0 w w':World} {g:Nat} {cc:Array Value} {vc vd:Value} {cs:List CaseM} {ds:List Int} {Y:Nat} {cells:Array Value} (h:YInv w0 w g cc vc vd cs ds Y cells) (hc:CodesE w' g) (hg:w.grownBy w' (some g)):YInv w0 w' g cc vc vd cs ds Y cells:=by
 have hl:=h.inv.lt;have hge:=h.ge;exact ⟨h.inv.next hc hg,(hg.block Y (Array.getElem?_eq_some_iff.1 h.row).1 (by simp; omega)).trans h.row,h.ge,h.ne⟩
theorem YInv.set {w0 w:World} {g:Nat} {cc:Array Value} {vc vd:Value} {cs:List CaseM} {ds:List Int} {Y:Nat} {cells:Array Value} (h:YInv w0 w g cc vc vd cs ds Y cells) (o:Nat) (u:Value):YInv w0 (w.setCell ⟨Y,o,none⟩ u) g cc vc vd cs ds Y (cells.setIfInBounds o u):=
 ⟨h.inv.mine h.row (by decide) h.ge (.inr h.ne),heap_setCell_same w Y o _ _ u h.row,h.ge,h.ne⟩
theorem YInv.set3 {w0 w:World} {g:Nat} {cc:Array Value} {vc vd:Value} {cs:List CaseM} {ds:List Int} {Y:Nat} (h:YInv w0 w g cc vc vd cs ds Y zeroCase) (a b c:Value):YInv w0 (((w.setCell ⟨Y,0,none⟩ a).setCell ⟨Y,1,none⟩ b).setCell ⟨Y,2,none⟩ c) g cc vc vd cs ds Y #[a,b,c]:=by
 have:=((h.set 0 a).set 1 b).set 2 c;simpa [zeroCase] using this
theorem SelInv.varAt {w0 w w1:World} {g:Nat} {cc:Array Value} {vc vd:Value} {cs:List CaseM} {ds:List Int} {row:Option Nat} (h:SelInv w0 w g cc vc vd cs ds) (hg:w.grownBy w1 row) (hr:∀j,row=some j→w0.heap.size+3≤j) :
  w1.heap[w0.heap.size+2]?=some (.cells #[.int .i64 4,.int .i64 0,.int .i64 0,.int .u64 0,.int .i64 0,vc,vd] 44 (0,0)):=
 (hg.block _ (by have:=h.size; omega) (fun e=>by have:=hr _ e.symm; omega)).trans h.var
theorem OwnC.shape_ne {w:World} {base:Nat} {v:Value} {l:List CaseM} {y:CaseM} (h:OwnC w base v (l ++ [y])):∃g cap,v=.slice (some ⟨g,0,none⟩) (l.length+1) cap:=by
 rcases h.shape with ⟨_,h1⟩ | ⟨g,cap,h1,_⟩
 ·exact absurd h1 (by simp)
 ·exact ⟨g,cap,by simpa using h1⟩
theorem OwnC.one {w:World} {base:Nat} {v:Value} {l:List CaseM} (h:OwnC w base v l):v.oneCell'=true:=by
 rcases h.shape with ⟨rfl,_⟩ | ⟨g,cap,rfl,_⟩ <;> rfl
theorem OwnI.one {w:World} {base:Nat} {e:TypeId} {k:IntKind} {v:Value} {l:List Int} (h:OwnI w base e k v l):v.oneCell'=true:=by
 rcases h.shape with ⟨rfl,_⟩ | ⟨g,cap,rfl,_⟩ <;> rfl
def newB (B:Nat) (v:Value):Prop:=∀a n c,v=.slice (some a) n c→n=0∨B≤a.block
theorem newB.off {B g:Nat} {v:Value} (h:newB B v) (hg:g<B):offB g v:=fun a n c e=>(h a n c e).imp id fun h=>by omega
theorem newB.mono {B C:Nat} {v:Value} (h:newB B v) (hc:C≤B):newB C v:=fun a n c e=>(h a n c e).imp id fun h=>by omega
theorem newB.nil (B:Nat):newB B (.slice none 0 0):=fun a n c e=>by simp at e
theorem OwnI.newB {w:World} {base:Nat} {e:TypeId} {k:IntKind} {v:Value} {l:List Int} (h:OwnI w base e k v l):newB base v:=by
 intro a n c e;subst e;exact .inr (h.own_ge a.block rfl)
theorem OwnC.newB {w:World} {base:Nat} {v:Value} {l:List CaseM} (h:OwnC w base v l):newB base v:=by
 intro a n c e;subst e;exact .inr (h.own_ge a.block rfl)
def OpN (w:World) (B:Nat) (v:Value) (op:OpM):Prop:=
 ∃vc vd,v=.agg #[.int .i64 op.kind,.int .i64 op.mode,.int .i64 op.chan,.int .u64 op.val,.int .i64 op.dl,vc,vd]∧SlC w vc op.cases∧SlI w .i64 vd op.draws∧newB B vc∧newB B vd
theorem OpN.grown {w w':World} {B b:Nat} {v:Value} {op:OpM} (h:OpN w B v op) (hg:w.grownBy w' (some b)) (hb:b<B):OpN w' B v op:=by
 obtain ⟨vc,vd,e,h1,h2,h3,h4⟩:=h; exact ⟨vc,vd,e,h1.grown hg (h3.off hb),h2.grown hg (h4.off hb),h3,h4⟩
theorem OpN.mono {w:World} {B C:Nat} {v:Value} {op:OpM} (h:OpN w B v op) (hc:C≤B):OpN w C v op:=by
 obtain ⟨vc,vd,e,h1,h2,h3,h4⟩:=h; exact ⟨vc,vd,e,h1,h2,h3.mono hc,h4.mono hc⟩
theorem SelInv.fin {w0 w:World} {g:Nat} {cc:Array Value} {vc vd:Value} {cs:List CaseM} {ds:List Int} (h:SelInv w0 w g cc vc vd cs ds) (h1:cs.length≤140737488351232) (h2:∀x∈cs,x.ok) (h3:ds.length≤140737488351232) (h4:∀x∈ds,x=IntKind.i64.wrap x) (cells:Array Value) (kd m ch vl d:Int) :
  OpN (w.setRow (w0.heap.size+1) cells) w0.heap.size (.agg #[.int .i64 kd,.int .i64 m,.int .i64 ch,.int .u64 vl,.int .i64 d,vc,vd]) ⟨kd,m,ch,vl,d,cs,ds⟩∧CodesE (w.setRow (w0.heap.size+1) cells) g∧w0.grownBy (w.setRow (w0.heap.size+1) cells) (some g):=by
 have hl:=h.lt;have hgr:=grownBy_setRow w (w0.heap.size+1) cells;refine ⟨⟨vc,vd,rfl,(h.oc.kept hgr (h.oc.ne (by omega))).read h1 h2,(h.od.kept hgr (h.od.ne (by omega))).read h3 h4,h.oc.newB.mono (by omega),h.od.newB.mono (by omega)⟩,?_,grownBy_of_new h.grown hgr (fun k hk=>by cases hk; omega)⟩;exact h.codes.kept (B:=w0.heap.size) hl (below_setRow (Below.refl _ w) (by omega) cells)
theorem all7 {k0 k1 k2 k3 k4:IntKind} {n0 n1 n2 n3 n4:Int} {u v:Value} (hu:u.oneCell'=true) (hv:v.oneCell'=true):(#[.int k0 n0,.int k1 n1,.int k2 n2,.int k3 n3,.int k4 n4,u,v]:Array Value).all (·.oneCell')=true:=by
 have hi:∀k n,(Value.int k n).oneCell'=true:=fun _ _=>rfl;simp [hi,hu,hv]
open Go.RowKit
theorem fd_get (x:Int) (l:List Int) (h:fd x l<l.length):l.getD (fd x l) 0=x:=by
 induction l with
 | nil=>simp at h
 | cons y t ih=>
  unfold fd at h ⊢;by_cases e:y=x
  ·rw [if_pos e]; simpa using e
  ·rw [if_neg e] at h ⊢
   simpa using ih (by simpa using h)
theorem fd_mem (x:Int) (l:List Int):x∈l↔fd x l<l.length:=by
 induction l with
 | nil=>simp
 | cons y t ih=>
  unfold fd;by_cases e:y=x
  ·simp [e]
  ·rw [if_neg e]
   simp only [List.mem_cons,List.length_cons];rw [ih];constructor
   ·rintro (h | h)
    ·exact absurd h.symm e
    ·omega
   ·intro h; right; omega
def Full (n:Nat) (l:List Int):Prop:=l.length=n∧∀i:Nat,i<n→(i:Int)∈l
theorem full_asc (n:Nat):Full n (asc n):=⟨asc_length n,fun i hi=>by simp [asc]; exact ⟨i,hi,rfl⟩⟩
theorem asc_succ (n:Nat):asc (n+1)=asc n ++ [(n:Int)]:=by simp [asc,List.range_succ]
theorem Full.perm {n:Nat} {l:List Int} (h:Full n l):l.Perm (asc n):=by
 induction n generalizing l with
 | zero=>obtain rfl:=List.length_eq_zero_iff.1 h.1; exact List.Perm.refl _
 | succ n ih=>
  have hm:=h.2 n (by omega);have p1:=List.perm_cons_erase hm;have hf:Full n (l.erase (n:Int)):=by
   refine ⟨by rw [List.length_erase_of_mem hm,h.1]; rfl,fun i hi=>?_⟩;exact (List.mem_erase_of_ne (by omega)).2 (h.2 i (by omega))
  refine p1.trans (((ih hf).cons _).trans ?_);rw [asc_succ];exact (List.perm_append_singleton _ _).symm
theorem asc_nodup (n:Nat):(asc n).Nodup:=by
 induction n with
 | zero=>simp [asc]
 | succ n ih=>
  rw [asc_succ,List.nodup_append];refine ⟨ih,by simp,fun x hx y hy=>?_⟩;simp at hy;have:=asc_mem n x hx;omega
theorem Full.nodup {n:Nat} {l:List Int} (h:Full n l):l.Nodup:=h.perm.symm.nodup (asc_nodup n)
theorem Full.range {n:Nat} {l:List Int} (h:Full n l) (x:Int) (hx:x∈l):0≤x∧x<n:=asc_mem n x (h.perm.mem_iff.1 hx)
theorem getD_set (l:List Int) (i j:Nat) (x:Int) (hi:i<l.length):(l.set i x).getD j 0=if i=j then x else l.getD j 0:=by
 simp only [List.getD_eq_getElem?_getD,List.getElem?_set];by_cases e:i=j
 ·subst e; simp [hi]
 ·simp [e]
theorem swp_get (l:List Int) (i k j:Nat) (hi:i<l.length) (hk:k<l.length) :
  (swp l i k).getD j 0=if j=k then l.getD i 0 else if j=i then l.getD k 0 else l.getD j 0:=by
 unfold swp;rw [getD_set _ _ _ _ (by simpa using hk),getD_set _ _ _ _ hi];by_cases e1:j=k
 ·subst e1; simp
 ·have e1':¬k=j:=fun h=>e1 h.symm
  by_cases e2:j=i
  ·subst e2; simp [e1,e1']
  ·have e2':¬i=j:=fun h=>e2 h.symm
   simp [e1,e1',e2,e2']
theorem mem_of_getD (l:List Int) (j:Nat) (hj:j<l.length):l.getD j 0∈l:=by simp [List.getD_eq_getElem?_getD,hj]
theorem getD_of_mem {l:List Int} {x:Int} (h:x∈l):∃j,j<l.length∧l.getD j 0=x:=
 ⟨fd x l,(fd_mem x l).1 h,fd_get x l ((fd_mem x l).1 h)⟩
theorem mem_swp (l:List Int) (i k:Nat) (hi:i<l.length) (hk:k<l.length) (x:Int) (h:x∈l):x∈swp l i k:=by
 obtain ⟨j,hj,rfl⟩:=getD_of_mem h;by_cases e1:j=i
 ·have:=mem_of_getD (swp l i k) k (by rw [swp_length]; exact hk)
  rw [swp_get l i k k hi hk,if_pos rfl] at this;rw [e1]; exact this
 ·by_cases e2:j=k
  ·have:=mem_of_getD (swp l i k) i (by rw [swp_length]; exact hi)
   rw [swp_get l i k i hi hk] at this;by_cases e3:i=k
   ·omega
   ·rw [if_neg e3,if_pos rfl] at this
    rw [e2]; exact this
  ·have:=mem_of_getD (swp l i k) j (by rw [swp_length]; exact hj)
   rw [swp_get l i k j hi hk,if_neg e2,if_neg e1] at this;exact this
theorem Full.swp {n:Nat} {l:List Int} (h:Full n l) (i k:Nat) (hi:i<n) (hk:k<n):Full n (swp l i k):=
 ⟨by rw [swp_length]; exact h.1,fun j hj=>mem_swp l i k (by rw [h.1]; exact hi) (by rw [h.1]; exact hk) _ (h.2 j hj)⟩
theorem Full.inj {n:Nat} {l:List Int} (h:Full n l) (i j:Nat) (hi:i<n) (hj:j<n) (e:l.getD i 0=l.getD j 0):i=j:=by
 have hn:=h.nodup;have hl:=h.1;have:=(List.getElem_inj (i:=i) (j:=j) hn (h₀:=by omega) (h₁:=by omega)).1;apply this;simpa [List.getD_eq_getElem?_getD,show i<l.length by omega,show j<l.length by omega] using e
def un (o:List Int):Nat→List Int→List Int
 | 0,_=>[]
 | i+1,rest=>un o i (swp rest i (fd (o.getD i 0) rest)) ++ [((fd (o.getD i 0) rest:Nat):Int)]
def Agree (n q:Nat) (o rest:List Int):Prop:=Full n rest∧∀j,q≤j→j<n→rest.getD j 0=o.getD j 0
theorem Agree.start (n:Nat) (o:List Int):Agree n n o (asc n):=⟨full_asc n,fun j h1 h2=>by omega⟩
theorem Agree.step {n i k:Nat} {o rest:List Int} (h:Agree n (i+1) o rest) (hi:i<n) (hk:k≤i) (hx:rest.getD k 0=o.getD i 0):Agree n i o (swp rest i k):=by
 have hl:=h.1.1;refine ⟨h.1.swp i k hi (by omega),fun j h1 h2=>?_⟩;rw [swp_get _ _ _ _ (by omega) (by omega)];by_cases e1:j=k
 ·have:i=k:=by omega
  rw [if_pos e1,this,hx,e1,this]
 ·rw [if_neg e1]
  by_cases e2:j=i
  ·rw [if_pos e2,hx,e2]
  ·rw [if_neg e2]; exact h.2 j (by omega) h2
theorem Agree.found {n i:Nat} {o rest:List Int} (h:Agree n (i+1) o rest) (ho:Full n o) (hi:i<n):fd (o.getD i 0) rest≤i:=by
 have hl:=h.1.1;have hm:o.getD i 0∈rest:=by
  have hr:=ho.range _ (mem_of_getD o i (by rw [ho.1]; exact hi));have:=h.1.2 (o.getD i 0).toNat (by omega);rwa [Int.toNat_of_nonneg hr.1] at this
 have hp:=(fd_mem _ _).1 hm;refine Classical.byContradiction fun hc=>?_;have e:=h.2 (fd (o.getD i 0) rest) (by omega) (by omega);rw [fd_get _ _ hp] at e;have:=ho.inj i _ hi (by omega) e;omega
theorem Agree.fin {n:Nat} {o rest:List Int} (h:Agree n 0 o rest) (ho:o.length=n):rest=o:=
 ext_same _ _ (by rw [h.1.1,ho]) fun j hj=>h.2 j (by omega) (by rw [← h.1.1]; exact hj)
theorem okD_snoc (l:List Int) (i:Nat) (x:Int):okD i (l ++ [x])=(okD i l && decide (0≤x∧x≤(i+l.length:Nat))):=by
 induction l generalizing i with
 | nil=>simp [okD]
 | cons y t ih=>
  rw [List.cons_append,okD,ih,okD,Bool.and_assoc,List.length_cons,show i+1+t.length=i+(t.length+1) by omega]
structure SelOk (cs:List CaseM) (ds:List Int) (k:Nat):Prop where
 nc:cs.length=k
 nd:ds.length=k
 good:∀c∈cs,c.ok∧(-1≤c.chan∧c.chan<8)∧(c.send=true∨c.val=0)
 dok:okD 0 ds=true
 dsm:∀x∈ds,0≤x∧x<100
theorem SelOk.snoc {cs:List CaseM} {ds:List Int} {k:Nat} (h:SelOk cs ds k) (hk:k<50) (c:CaseM) (d:Int) (h1:c.ok) (h2:-1≤c.chan∧c.chan<8) (h3:c.send=true∨c.val=0) (h4:0≤d∧d≤k):SelOk (cs ++ [c]) (ds ++ [d]) (k+1):=by
 refine ⟨by simp [h.nc],by simp [h.nd],?_,?_,?_⟩
 ·intro x hx
  rw [List.mem_append,List.mem_singleton] at hx;rcases hx with hx | rfl
  ·exact h.good x hx
  ·exact ⟨h1,h2,h3⟩
 ·rw [okD_snoc,h.dok,h.nd]; simp; omega
 ·intro x hx
  rw [List.mem_append,List.mem_singleton] at hx;rcases hx with hx | rfl
  ·exact h.dsm x hx
  ·omega
theorem SelOk.goodOp {cs:List CaseM} {ds:List Int} {k:Nat} (h:SelOk cs ds k) (hk:k≤6) (m d:Int) (hm:(m=0∧d=0)∨(m=1∧d=0)∨(m=2∧0≤d∧d<5)):OpM.good ⟨4,m,0,0,d,cs,ds⟩:=by
 have hm2:0≤m∧m≤2:=by omega
 have hd2:0≤d∧d<5:=by omega
 refine ⟨?_,⟨i64_small _ (by simp only; omega) (by simp only; omega),i64_small _ (by simp only; omega) (by simp only; omega),i64_small _ (by simp only; omega) (by simp only; omega),u64_ok _ (by simp only; omega) (by simp only; omega),i64_small _ (by simp only; omega) (by simp only; omega)⟩,by simp only; rw [h.nc]; omega,by simp only; rw [h.nd]; omega,fun c hc=>(h.good c hc).1⟩;have k1:kindB ⟨4,m,0,0,d,cs,ds⟩=true:=by simp [kindB]; omega
 have k2:rangesB ⟨4,m,0,0,d,cs,ds⟩=true:=by
  simp only [rangesB,Bool.and_eq_true,decide_eq_true_eq,List.all_eq_true];refine ⟨⟨⟨by decide,by omega⟩,by omega⟩,fun c hc=>?_⟩;have:=(h.good c hc).2.1;simp [namedB]; omega
 have k3:shapeB ⟨4,m,0,0,d,cs,ds⟩=true:=by
  unfold shapeB;have a3:(((4:Int) == 3 || (4:Int) == 5 || (4:Int) == 6) && m != 0 || (d != 0 && m != 2))=false:=by
   rcases hm with ⟨rfl,rfl⟩ | ⟨rfl,rfl⟩ | ⟨rfl,_⟩ <;> simp
  simp only [a3,Bool.false_eq_true,if_false];have a4:((4:Int) != 4)=false:=by decide
  have a5:decide (ds.length≠cs.length)=false:=by simp [h.nc,h.nd]
  simp only [a4,a5,Bool.false_eq_true,if_false];simp only [bne_self_eq_false,Bool.or_false,Bool.false_eq_true,if_false,List.all_eq_true,Bool.or_eq_true,beq_iff_eq];exact fun c hc=>(h.good c hc).2.2
 have k4:¬(6<cs.length∨6<ds.length):=by rw [h.nc,h.nd]; omega
 show checkE ⟨4,m,0,0,d,cs,ds⟩=0;unfold checkE;rw [if_neg (by rw [k1]; simp),if_neg (by rw [k2]; simp),if_neg k4,if_neg (by rw [show okD 0 ds=true from h.dok]; simp),if_neg (by rw [k3]; simp)]
theorem SelInv.start {w:World} {g:Nat} (cc:Array Value) (h:CodesE w g) :
  SelInv w (((w.alloc (.cells cc 29)).alloc (.cells zeroOp 44)).alloc (.cells #[.int .i64 4,.int .i64 0,.int .i64 0,.int .u64 0,.int .i64 0,.slice none 0 0,.slice none 0 0] 44)) g cc (.slice none 0 0) (.slice none 0 0) [] []:=by
 have hb:=below_new (below_new (below_new (Below.refl w.heap.size w) (.cells cc 29)) (.cells zeroOp 44)) (.cells #[.int .i64 4,.int .i64 0,.int .i64 0,.int .u64 0,.int .i64 0,.slice none 0 0,.slice none 0 0] 44);refine ⟨h.lt,by simp,h.kept h.lt hb,grown_of_below hb,?_,?_,?_,OwnC.nil _ _,OwnI.nil _ _ _ _⟩
 ·rw [heap_alloc_old _ _ (by simp; omega)]; exact heap_alloc2_old _ _ _
 ·rw [heap_alloc_old _ _ (by simp)]; exact heap_alloc2_new _ _ _
 ·have:=heap_alloc_new ((w.alloc (.cells cc 29)).alloc (.cells zeroOp 44)) (.cells #[.int .i64 4,.int .i64 0,.int .i64 0,.int .u64 0,.int .i64 0,.slice none 0 0,.slice none 0 0] 44)
  simpa using this
set_option maxRecDepth 100000 in
set_option maxHeartbeats 8000000 in
theorem selectE (g most:Nat) (v:Value) (c:ConfM) (w:World) (h:CodesE w g) (hv:ConfX w g v c) (hc:c.caps.length≤8) (hm:most≤6) :
  Calls Try.prog 26 #[.pointer (some ⟨g,0,none⟩),v,.int .i64 most] w fun e w'=>∃u op,e=.returned u∧OpN w' w.heap.size u op∧op.good∧CodesE w' g∧w.grownBy w' (some g):=by
 have HX:=Lib.hid hv;obtain ⟨vc,vs,rfl,h1,h2,-⟩:=hv;have ST:=Lib.hid (SelInv.start #[vc,vs,.int .i64 c.threads] h);have HOK:Hid (SelOk [] [] 0):=⟨rfl,rfl,by simp,rfl,by simp⟩;obtain ⟨a,cap,rfl,-⟩:=h1.len;obtain ⟨a2,cap2,rfl,-⟩:=h2.len;have hlt:=h.lt;clear h1 h2 h;obtain ⟨W,hW⟩:∃W,(((w.alloc (.cells #[.slice a c.caps.length cap,.slice a2 c.starts.length cap2,.int .i64 c.threads] 29)).alloc (.cells zeroOp 44)).alloc (.cells #[.int .i64 4,.int .i64 0,.int .i64 0,.int .u64 0,.int .i64 0,.slice none 0 0,.slice none 0 0] 44))=W:=⟨_,rfl⟩;rw [hW] at ST;have HW:=Lib.hid hW;clear hW;go_enter Try.func26,Try.ntmps26;go_wp2_with fail;rw [show (#[.int .i64 0,.int .i64 0,.int .i64 0,.int .u64 0,.int .i64 0,.slice none 0 0,.slice none 0 0]:Array Value)=zeroOp from rfl,HW.out,show w.heap.size+1+1=w.heap.size+2 from rfl];clear HW;go_loopw [8,9] (fun i _ wr=>∃k:Nat,∃vcs vds cs ds,k≤most∧i=.int .i64 k∧Hid (SelInv w wr g #[.slice a c.caps.length cap,.slice a2 c.starts.length cap2,.int .i64 c.threads] vcs vds cs ds)∧Hid (SelOk cs ds k)) (fun i _ _=>most+1 - (intOf i).toNat)
 case atStart=>exact ⟨0,_,_,_,_,by omega,rfl,ST,HOK⟩
 case round=>
  obtain ⟨k,vcs,vds,cs,ds,hk,rfl,hI,hO⟩:=hrel;obtain ⟨wo,rfl⟩:∃wo:World,wo=wr:=⟨_,rfl⟩;go_wp2_with fail;refine (nextE g _ _ hI.out.codes (by omega) (by omega)).mono ?_; rintro e w1 ⟨x,rfl,hx0,hx1,hc1,hg1⟩;have hI1:=Lib.hid (hI.out.next hc1 hg1);clear hI hc1 hg1;by_cases hlt:(k:Int)<x
  ·go_upto_region 5 with fail
   go_cut [9] (fun s9 wx=>∃(Y:Nat) (sd:Bool) (z:Int),s9=.pointer (some ⟨Y,0,none⟩)∧-1≤z∧z<8∧Hid (YInv w wx g #[.slice a c.caps.length cap,.slice a2 c.starts.length cap2,.int .i64 c.threads] vcs vds cs ds Y #[.bool sd,.int .i64 z,.int .u64 0]))
   case first=>
    obtain ⟨b0,b1,b2⟩:=row3 hI1.out.box;have q1:w.heap.size<w1.heap.size:=by have:=hI1.out.size; omega
    go_region_law (first
     | (go_simp; go_at_call 46; refine (channelE g _ c _ (by exact hY2.out.inv.codes) (by exact HX.out.grown hY2.out.inv.grown) hc).mono ?_; rintro e w3 ⟨z,rfl,hz0,hz1,hc3,hg3⟩; have hY3:=Lib.hid (hY2.out.next hc3 hg3); obtain ⟨y0,y1,y2⟩:=row3 hY3.out.row; obtain ⟨z0,z1,z2⟩:=hY3.out.frozen)
     | (go_simp; go_at_call 46; refine (channelE g _ c _ (by exact hI2.out.codes) (by exact HX.out.grown hI2.out.grown) hc).mono ?_; rintro e w3 ⟨z,rfl,hz0,hz1,hc3,hg3⟩; have hI3:=Lib.hid (hI2.out.next hc3 hg3))
     | (go_simp; go_at_call 46; refine (channelE g _ c _ (by exact (YInv.new hI2.out).inv.codes) (by exact HX.out.grown (YInv.new hI2.out).inv.grown) hc).mono ?_; rintro e w3 ⟨z,rfl,hz0,hz1,hc3,hg3⟩; have hY3:=Lib.hid ((YInv.new hI2.out).next hc3 hg3); obtain ⟨y0,y1,y2⟩:=row3 hY3.out.row; obtain ⟨z0,z1,z2⟩:=hY3.out.frozen)
     | (go_simp; go_at_call 16; refine (nextE g 2 _ (by exact hI1.out.codes) (by omega) (by omega)).mono ?_; rintro e w2 ⟨y,rfl,hy0,hy1,hc2,hg2⟩; have hI2:=Lib.hid (hI1.out.next hc2 (undrewG hg2)); obtain ⟨b0,b1,b2⟩:=row3 hI2.out.box; have q2:w.heap.size<w2.heap.size:=(by have:=hI2.out.size; omega))
     | (go_simp; go_at_call 16; refine (nextE g 2 _ (by exact (YInv.new hI1.out).inv.codes) (by omega) (by omega)).mono ?_; rintro e w2 ⟨y,rfl,hy0,hy1,hc2,hg2⟩; have hY2:=Lib.hid ((YInv.new hI1.out).next hc2 (undrewG hg2)); obtain ⟨b0,b1,b2⟩:=row3 hY2.out.inv.box))
    all_goals
     go_wp2_with fail;go_meet;exact ⟨_,_,_,rfl,hz0,hz1,by first | exact hY3.out.set3 _ _ _ | exact YInv.lit hI3.out _⟩
   case rest=>
    obtain ⟨Y,sd,z,rfl,hz0,hz1,hY⟩:=hcut;obtain ⟨y0,y1,y2⟩:=row3 hY.out.row;clear hI1;cases sd with
    | true=>
     go_wp2_with fail;refine (valueE g _ hY.out.inv.codes).mono ?_; rintro e w4 ⟨val,rfl,hval,hc4,hg4⟩;have hY4:=Lib.hid (hY.out.next hc4 hg4);obtain ⟨z0,z1,z2⟩:=hY4.out.frozen;obtain ⟨y0,y1,y2⟩:=row3 hY4.out.row;have hY5':=hY4.out.set 2 (.int .u64 val);simp at hY5';have hY5:=Lib.hid hY5';have HCS:Hid ((⟨true,z,val⟩:CaseM).ok):=⟨i64_small _ (by simp only; omega) (by simp only; omega),hval⟩;clear hval hc4 hg4 hY5' hY4;obtain ⟨y0,y1,y2⟩:=row3 hY5.out.row;obtain ⟨v0,v1,v2,v3,v4,v5,v6⟩:=row7 hY5.out.inv.var;go_upto_region 9 with (at_builtin; refine wp_append_case _ rfl _ _ rfl (w.heap.size+3) vcs cs rfl (hY5.out.inv.oc.alloc _) ⟨true,z,val⟩ _ rfl ?_ ?_ ?_ ?_; exact ⟨World.cell?_alloc_at _ _ _ _ (by simp),World.cell?_alloc_at _ _ _ _ (by simp),World.cell?_alloc_at _ _ _ _ (by simp)⟩; (rw [hO.out.nc]; omega); (have:=hY5.out.inv.size; simp at this ⊢; omega); (intro vcs2 w6 ho6 hg6; obtain ⟨g6,cap6,e6⟩:=OwnC.shape_ne ho6; subst e6; have hV6:=row7 (SelInv.varAt (hY5.out.inv.below (below_new (Below.refl _ _) _)) hg6 hY5.out.inv.oc.own_ge); have hF6:=frozen_of_row _ _ 5 _ _ (SelInv.varAt (hY5.out.inv.below (below_new (Below.refl _ _) _)) hg6 hY5.out.inv.oc.own_ge); obtain ⟨x0,x1,x2,x3,x4,x5,x6⟩:=hV6))
     have hI6:=Lib.hid (SelInv.addCase (hY5.out.inv.below (below_new (Below.refl _ _) _)) ho6 hg6);generalize (Value.slice (some ⟨g6,0,none⟩) (cs.length+1) cap6)=vcs2 at *;clear ho6 hg6 hY5 hY;generalize w6.setCell ⟨w.heap.size+2,5,none⟩ vcs2=W6 at *;clear x0 x1 x2 x3 x4 x5 x6 hF6;obtain ⟨x0,x1,x2,x3,x4,x5,x6⟩:=row7 hI6.out.var;have q9a:(0:Int)≤(k:Int)+1:=by omega
     have q9b:(1:Int)≤(k:Int)+1:=by omega
     have q9c:(k:Int)+1≤256:=by omega
     have e9:IntKind.i64.wrap ((k:Int)+1)=(k:Int)+1:=(i64_small _ (by omega) (by omega)).symm;go_region_law (first
      | (refine step_append_i64 (by rfl) _ _ (by rfl) (w.heap.size+3) vds ds (by rfl) (hI7.out.od.alloc _) d _ (by rfl) (by exact World.cell?_alloc_at _ _ _ _ rfl) (by rw [hO.out.nd]; omega) (by have:=hI7.out.size; simp; omega) ?_; intro vds2 w8 ho8 hg8; obtain ⟨g8,cap8,e8⟩:=OwnI.shape_ne ho8; subst e8; have hr8:=SelInv.varAt (hI7.out.below (below_new (Below.refl _ _) _)) hg8 hI7.out.od.own_ge; have hF8:=frozen_of_row _ _ 6 _ _ hr8; obtain ⟨x0,x1,x2,x3,x4,x5,x6⟩:=row7 hr8; clear hr8)
      | (go_simp; go_at_call 16; refine (nextE g ((k:Int)+1) _ (by exact hI6.out.codes) q9b q9c).mono ?_; rintro e w7 ⟨d,rfl,hd0,hd1,hc7,hg7⟩; have hI7:=Lib.hid (hI6.out.next hc7 (undrewG hg7)); obtain ⟨x0,x1,x2,x3,x4,x5,x6⟩:=row7 hI7.out.var; have q7:w.heap.size+2<w7.heap.size:=(by have:=hI7.out.size; omega)))
     all_goals
      have hI8:=Lib.hid (SelInv.addDraw (hI7.out.below (below_new (Below.refl _ _) _)) ho8 hg8);clear e9 q7 ho8 hg8 hc7 hg7 x0 x1 x2 x3 x4 x5 x6;have hO8:=Lib.hid (hO.out.snoc (by omega) ⟨true,z,val⟩ d HCS.out ⟨hz0,hz1⟩ (.inl rfl) ⟨hd0,by omega⟩);go_wp2;go_roundw
      case rel=>exact ⟨k+1,vcs2,_,_,_,by omega,by go_num,hI8,hO8⟩
      case measure=>simp [intOf]; omega
    | false=>
     have hY5:=hY;obtain ⟨val,hv0⟩:∃val:Int,val=0:=⟨0,rfl⟩;rw [← hv0] at hY5 y2;have HCS:Hid ((⟨false,z,val⟩:CaseM).ok):=⟨i64_small _ (by simp only; omega) (by simp only; omega),u64_ok _ (by simp only; omega) (by simp only; omega)⟩;have HV0:=Lib.hid hv0;clear hv0;obtain ⟨v0,v1,v2,v3,v4,v5,v6⟩:=row7 hY5.out.inv.var;go_upto_region 9 with (at_builtin; refine wp_append_case _ rfl _ _ rfl (w.heap.size+3) vcs cs rfl (hY5.out.inv.oc.alloc _) ⟨false,z,val⟩ _ rfl ?_ ?_ ?_ ?_; exact ⟨World.cell?_alloc_at _ _ _ _ rfl,World.cell?_alloc_at _ _ _ _ rfl,World.cell?_alloc_at _ _ _ _ rfl⟩; (rw [hO.out.nc]; omega); (have:=hY5.out.inv.size; simp at this ⊢; omega); (intro vcs2 w6 ho6 hg6; obtain ⟨g6,cap6,e6⟩:=OwnC.shape_ne ho6; subst e6; have hV6:=row7 (SelInv.varAt (hY5.out.inv.below (below_new (Below.refl _ _) _)) hg6 hY5.out.inv.oc.own_ge); have hF6:=frozen_of_row _ _ 5 _ _ (SelInv.varAt (hY5.out.inv.below (below_new (Below.refl _ _) _)) hg6 hY5.out.inv.oc.own_ge); obtain ⟨x0,x1,x2,x3,x4,x5,x6⟩:=hV6))
     have hI6:=Lib.hid (SelInv.addCase (hY5.out.inv.below (below_new (Below.refl _ _) _)) ho6 hg6);generalize (Value.slice (some ⟨g6,0,none⟩) (cs.length+1) cap6)=vcs2 at *;clear ho6 hg6 hY5 hY;generalize w6.setCell ⟨w.heap.size+2,5,none⟩ vcs2=W6 at *;clear x0 x1 x2 x3 x4 x5 x6 hF6;obtain ⟨x0,x1,x2,x3,x4,x5,x6⟩:=row7 hI6.out.var;have q9a:(0:Int)≤(k:Int)+1:=by omega
     have q9b:(1:Int)≤(k:Int)+1:=by omega
     have q9c:(k:Int)+1≤256:=by omega
     have e9:IntKind.i64.wrap ((k:Int)+1)=(k:Int)+1:=(i64_small _ (by omega) (by omega)).symm;go_region_law (first
      | (refine step_append_i64 (by rfl) _ _ (by rfl) (w.heap.size+3) vds ds (by rfl) (hI7.out.od.alloc _) d _ (by rfl) (by exact World.cell?_alloc_at _ _ _ _ rfl) (by rw [hO.out.nd]; omega) (by have:=hI7.out.size; simp; omega) ?_; intro vds2 w8 ho8 hg8; obtain ⟨g8,cap8,e8⟩:=OwnI.shape_ne ho8; subst e8; have hr8:=SelInv.varAt (hI7.out.below (below_new (Below.refl _ _) _)) hg8 hI7.out.od.own_ge; have hF8:=frozen_of_row _ _ 6 _ _ hr8; obtain ⟨x0,x1,x2,x3,x4,x5,x6⟩:=row7 hr8; clear hr8)
      | (go_simp; go_at_call 16; refine (nextE g ((k:Int)+1) _ (by exact hI6.out.codes) q9b q9c).mono ?_; rintro e w7 ⟨d,rfl,hd0,hd1,hc7,hg7⟩; have hI7:=Lib.hid (hI6.out.next hc7 (undrewG hg7)); obtain ⟨x0,x1,x2,x3,x4,x5,x6⟩:=row7 hI7.out.var; have q7:w.heap.size+2<w7.heap.size:=(by have:=hI7.out.size; omega)))
     all_goals
      have hI8:=Lib.hid (SelInv.addDraw (hI7.out.below (below_new (Below.refl _ _) _)) ho8 hg8);clear e9 q7 ho8 hg8 hc7 hg7 x0 x1 x2 x3 x4 x5 x6;have hO8:=Lib.hid (hO.out.snoc (by omega) ⟨false,z,val⟩ d HCS.out ⟨hz0,hz1⟩ (.inr HV0.out) ⟨hd0,by omega⟩);go_wp2;go_roundw
      case rel=>exact ⟨k+1,vcs2,_,_,_,by omega,by go_num,hI8,hO8⟩
      case measure=>simp [intOf]; omega
  ·obtain ⟨v0,v1,v2,v3,v4,v5,v6⟩:=row7 hI1.out.var
   have hdr:∀x∈ds,x=IntKind.i64.wrap x:=fun x hx=>i64_ok x (by have:=hO.out.dsm x hx; omega) (by have:=hO.out.dsm x hx; omega);have HDR:=Lib.hid hdr;have HSC:=Lib.hid (hI1.out.oc.read (by rw [hO.out.nc]; omega) fun x hx=>(hO.out.good x hx).1);have HSD:=Lib.hid (hI1.out.od.read (by rw [hO.out.nd]; omega) hdr);have one5:=hI1.out.oc.one;have one6:=hI1.out.od.one;clear hdr;go_wp2_with fail;refine (modeE g 4 0 0 0 0 vcs vds cs ds _ hI1.out.codes HSC.out HSD.out).mono ?_; rintro e w2 ⟨m,d,rfl,hmd,hc2,hg2⟩;have hI2:=Lib.hid (hI1.out.next hc2 hg2);have HMD:=Lib.hid hmd;clear hmd hc2 hg2;go_wp2_with (refine wpList_store_row rfl 44 _ _ rfl (w.heap.size+1) _ rfl rfl 44 zeroOp hI2.out.res (by kernel_rfl) rfl (all7 one5 one6) ?_);refine bodyPost_ret (v:=.agg #[.int .i64 4,.int .i64 m,.int .i64 0,.int .u64 0,.int .i64 d,vcs,vds]) (results_cell_row Try.results26 _ _ (w.heap.size+1) 44 _ (0,0) _ rfl (setRow_heap _ _ _ _ 44 (0,0) hI2.out.res) Try.underlying44 rfl (by kernel_rfl)) rfl ?_;obtain ⟨f1,f2,f3⟩:=hI2.out.fin (by rw [hO.out.nc]; omega) (fun x hx=>(hO.out.good x hx).1) (by rw [hO.out.nd]; omega) HDR.out #[.int .i64 4,.int .i64 m,.int .i64 0,.int .u64 0,.int .i64 d,vcs,vds] 4 m 0 0 d;exact ⟨_,_,rfl,f1,hO.out.goodOp (by omega) m d HMD.out,f2,f3⟩
structure OpInv (w0 w:World) (g:Nat) (cc:Array Value):Prop where
 lt:g<w0.heap.size
 size:w0.heap.size+2≤w.heap.size
 codes:CodesE w g
 grown:w0.grownBy w (some g)
 box:w.heap[w0.heap.size]?=some (.cells cc 29 (0,0))
 res:w.heap[w0.heap.size+1]?=some (.cells zeroOp 44 (0,0))
theorem OpInv.next {w0 w w':World} {g:Nat} {cc:Array Value} (h:OpInv w0 w g cc) (hc:CodesE w' g) (hg:w.grownBy w' (some g)):OpInv w0 w' g cc:=by
 have hs:=h.size;have hl:=h.lt;exact ⟨hl,Nat.le_trans hs hg.size,hc,grownBy_trans h.grown hg,(hg.block _ (by omega) (by simp; omega)).trans h.box,(hg.block _ (by omega) (by simp; omega)).trans h.res⟩
theorem OpInv.start {w:World} {g:Nat} (cc:Array Value) (h:CodesE w g):OpInv w ((w.alloc (.cells cc 29)).alloc (.cells zeroOp 44)) g cc:=by
 have hb:=below_new (below_new (Below.refl w.heap.size w) (.cells cc 29)) (.cells zeroOp 44);exact ⟨h.lt,by simp,h.kept h.lt hb,grown_of_below hb,heap_alloc2_old _ _ _,heap_alloc2_new _ _ _⟩
theorem OpInv.fin {w0 w:World} {g:Nat} {cc:Array Value} (h:OpInv w0 w g cc) (cells:Array Value):CodesE (w.setRow (w0.heap.size+1) cells) g∧w0.grownBy (w.setRow (w0.heap.size+1) cells) (some g):=
 ⟨h.codes.kept (B:=w0.heap.size) h.lt (below_setRow (Below.refl _ w) (by omega) cells),grownBy_of_new h.grown (grownBy_setRow w _ cells) (fun k hk=>by cases hk; omega)⟩
theorem OpN.bare (w:World) (B:Nat) (kd m ch vl d:Int):OpN w B (.agg #[.int .i64 kd,.int .i64 m,.int .i64 ch,.int .u64 vl,.int .i64 d,.slice none 0 0,.slice none 0 0]) ⟨kd,m,ch,vl,d,[],[]⟩:=
 ⟨_,_,rfl,SlC.nil _,SlI.nil _ _,newB.nil _,newB.nil _⟩
set_option maxRecDepth 100000 in
set_option maxHeartbeats 4000000 in
theorem opE (g:Nat) (v:Value) (c:ConfM) (w:World) (h:CodesE w g) (hv:ConfX w g v c) (hc:c.caps.length≤8) :
  Calls Try.prog 19 #[.pointer (some ⟨g,0,none⟩),v] w fun e w'=>∃u op,e=.returned u∧OpN w' w.heap.size u op∧op.good∧CodesE w' g∧w.grownBy w' (some g):=by
 have HX:=Lib.hid hv;obtain ⟨vc,vs,rfl,h1,h2,-⟩:=hv;have ST:=Lib.hid (OpInv.start #[vc,vs,.int .i64 c.threads] h);obtain ⟨a,cap,rfl,-⟩:=h1.len;obtain ⟨a2,cap2,rfl,-⟩:=h2.len;have hlt:=h.lt;clear h1 h2 h;obtain ⟨W,hW⟩:∃W,((w.alloc (.cells #[.slice a c.caps.length cap,.slice a2 c.starts.length cap2,.int .i64 c.threads] 29)).alloc (.cells zeroOp 44))=W:=⟨_,rfl⟩;rw [hW] at ST;have HW:=Lib.hid hW;clear hW;go_enter Try.func19,Try.ntmps19;go_wp2_with fail;rw [show (#[.int .i64 0,.int .i64 0,.int .i64 0,.int .u64 0,.int .i64 0,.slice none 0 0,.slice none 0 0]:Array Value)=zeroOp from rfl,HW.out];clear HW;refine (nextE g 20 _ ST.out.codes (by omega) (by omega)).mono ?_; rintro e w1 ⟨k,rfl,hk0,hk1,hc1,hg1⟩;have hI1:=Lib.hid (ST.out.next hc1 hg1);clear hc1 hg1 ST;obtain ⟨b0,b1,b2⟩:=row3 hI1.out.box;have CHA:=Lib.hid fun w' h h2=>channelE g (.agg #[.slice a c.caps.length cap,.slice a2 c.starts.length cap2,.int .i64 c.threads]) c w' h h2 hc;rcases (show k<7∨(¬k<7∧k<14)∨(¬k<7∧¬k<14∧k<17)∨k=17∨k=18∨k=19 by omega) with h | ⟨h,h'⟩ | ⟨h,h',h''⟩ | rfl | rfl | rfl
 ·skip
  go_wp2_with fail;refine (CHA.out _ hI1.out.codes (HX.out.grown hI1.out.grown)).mono ?_; rintro e w2 ⟨z,rfl,hz0,hz1,hc2,hg2⟩;have hI2:=Lib.hid (hI1.out.next hc2 hg2);clear hc2 hg2;obtain ⟨b0,b1,b2⟩:=row3 hI2.out.box;go_wp2_with fail;refine (valueE g _ hI2.out.codes).mono ?_; rintro e w3 ⟨val,rfl,hval,hc3,hg3⟩;have hI3:=Lib.hid (hI2.out.next hc3 hg3);have HVL:=Lib.hid hval;clear hval hc3 hg3;go_wp2_with fail;refine (modeE g 1 0 z val 0 (.slice none 0 0) (.slice none 0 0) [] [] _ hI3.out.codes (SlC.nil _) (SlI.nil _ _)).mono ?_; rintro e w4 ⟨m,d,rfl,hmd,hc4,hg4⟩;have hI4:=Lib.hid (hI3.out.next hc4 hg4);have HMD:=Lib.hid hmd;clear hmd hc4 hg4;go_wp2_with (refine wpList_store_row rfl 44 _ _ rfl (w.heap.size+1) _ rfl rfl 44 zeroOp hI4.out.res (by kernel_rfl) rfl (all7 rfl rfl) ?_);refine bodyPost_ret (v:=.agg #[.int .i64 1,.int .i64 m,.int .i64 z,.int .u64 val,.int .i64 d,.slice none 0 0,.slice none 0 0]) (results_cell_row Try.results19 _ _ (w.heap.size+1) 44 _ (0,0) _ rfl (setRow_heap _ _ _ _ 44 (0,0) hI4.out.res) Try.underlying44 rfl (by kernel_rfl)) rfl ?_;obtain ⟨f2,f3⟩:=hI4.out.fin #[.int .i64 1,.int .i64 m,.int .i64 z,.int .u64 val,.int .i64 d,.slice none 0 0,.slice none 0 0];exact ⟨_,_,rfl,OpN.bare _ _ 1 m z val d,good_one 1 m z val d (by omega) (by omega) (HMD.out.imp id fun h=>⟨by omega,h⟩) ⟨hz0,hz1⟩ (HVL.out) (.inl rfl),f2,f3⟩
 ·skip
  go_wp2_with fail;refine (CHA.out _ hI1.out.codes (HX.out.grown hI1.out.grown)).mono ?_; rintro e w2 ⟨z,rfl,hz0,hz1,hc2,hg2⟩;have hI2:=Lib.hid (hI1.out.next hc2 hg2);clear hc2 hg2;obtain ⟨b0,b1,b2⟩:=row3 hI2.out.box;go_wp2_with fail;refine (modeE g 2 0 z 0 0 (.slice none 0 0) (.slice none 0 0) [] [] _ hI2.out.codes (SlC.nil _) (SlI.nil _ _)).mono ?_; rintro e w4 ⟨m,d,rfl,hmd,hc4,hg4⟩;have hI4:=Lib.hid (hI2.out.next hc4 hg4);have HMD:=Lib.hid hmd;clear hmd hc4 hg4;go_wp2_with (refine wpList_store_row rfl 44 _ _ rfl (w.heap.size+1) _ rfl rfl 44 zeroOp hI4.out.res (by kernel_rfl) rfl (all7 rfl rfl) ?_);refine bodyPost_ret (v:=.agg #[.int .i64 2,.int .i64 m,.int .i64 z,.int .u64 0,.int .i64 d,.slice none 0 0,.slice none 0 0]) (results_cell_row Try.results19 _ _ (w.heap.size+1) 44 _ (0,0) _ rfl (setRow_heap _ _ _ _ 44 (0,0) hI4.out.res) Try.underlying44 rfl (by kernel_rfl)) rfl ?_;obtain ⟨f2,f3⟩:=hI4.out.fin #[.int .i64 2,.int .i64 m,.int .i64 z,.int .u64 0,.int .i64 d,.slice none 0 0,.slice none 0 0];exact ⟨_,_,rfl,OpN.bare _ _ 2 m z 0 d,good_one 2 m z 0 d (by omega) (by omega) (HMD.out.imp id fun h=>⟨by omega,h⟩) ⟨hz0,hz1⟩ (u64_ok 0 (by omega) (by omega)) (.inr rfl),f2,f3⟩
 ·go_wp2_with fail
  refine (selectE g 4 _ c _ hI1.out.codes (HX.out.grown hI1.out.grown) hc (by omega)).mono ?_; rintro e w2 ⟨u,op,rfl,ho,hgood,hc2,hg2⟩;have hI2:=Lib.hid (hI1.out.next hc2 hg2);have HO:=Lib.hid ho;have HGD:=Lib.hid hgood;obtain ⟨vc2,vd2,rfl,hsc,hsd,-⟩:=ho;obtain ⟨a7,c7,rfl⟩:=hsc.len;obtain ⟨a8,c8,rfl,-⟩:=hsd.len;have hz1:=hI1.out.size;clear hsc hsd hgood hc2 hg2;go_wp2_with (refine wpList_store_row rfl 44 _ _ rfl (w.heap.size+1) _ rfl rfl 44 zeroOp hI2.out.res (by kernel_rfl) rfl (all7 rfl rfl) ?_);refine bodyPost_ret (v:=.agg #[.int .i64 op.kind,.int .i64 op.mode,.int .i64 op.chan,.int .u64 op.val,.int .i64 op.dl,.slice a7 op.cases.length c7,.slice a8 op.draws.length c8]) (results_cell_row Try.results19 _ _ (w.heap.size+1) 44 _ (0,0) _ rfl (setRow_heap _ _ _ _ 44 (0,0) hI2.out.res) Try.underlying44 rfl (by kernel_rfl)) rfl ?_;obtain ⟨f2,f3⟩:=hI2.out.fin #[.int .i64 op.kind,.int .i64 op.mode,.int .i64 op.chan,.int .u64 op.val,.int .i64 op.dl,.slice a7 op.cases.length c7,.slice a8 op.draws.length c8];exact ⟨_,op,rfl,(HO.out.grown (grownBy_setRow w2 (w.heap.size+1) _) (by omega)).mono (by omega),HGD.out,f2,f3⟩
 ·skip
  go_wp2_with fail;refine (CHA.out _ hI1.out.codes (HX.out.grown hI1.out.grown)).mono ?_; rintro e w2 ⟨z,rfl,hz0,hz1,hc2,hg2⟩;have hI2:=Lib.hid (hI1.out.next hc2 hg2);clear hc2 hg2;obtain ⟨b0,b1,b2⟩:=row3 hI2.out.box;go_wp2_with (refine wpList_store_row rfl 44 _ _ rfl (w.heap.size+1) _ rfl rfl 44 zeroOp hI2.out.res (by kernel_rfl) rfl (all7 rfl rfl) ?_);refine bodyPost_ret (v:=.agg #[.int .i64 3,.int .i64 0,.int .i64 z,.int .u64 0,.int .i64 0,.slice none 0 0,.slice none 0 0]) (results_cell_row Try.results19 _ _ (w.heap.size+1) 44 _ (0,0) _ rfl (setRow_heap _ _ _ _ 44 (0,0) hI2.out.res) Try.underlying44 rfl (by kernel_rfl)) rfl ?_;obtain ⟨f2,f3⟩:=hI2.out.fin #[.int .i64 3,.int .i64 0,.int .i64 z,.int .u64 0,.int .i64 0,.slice none 0 0,.slice none 0 0];exact ⟨_,_,rfl,OpN.bare _ _ 3 0 z 0 0,good_one 3 0 z 0 0 (by omega) (by omega) (.inl ⟨rfl,rfl⟩) ⟨hz0,hz1⟩ (u64_ok 0 (by omega) (by omega)) (.inr rfl),f2,f3⟩
 ·skip
  go_wp2_with fail;refine (CHA.out _ hI1.out.codes (HX.out.grown hI1.out.grown)).mono ?_; rintro e w2 ⟨z,rfl,hz0,hz1,hc2,hg2⟩;have hI2:=Lib.hid (hI1.out.next hc2 hg2);clear hc2 hg2;obtain ⟨b0,b1,b2⟩:=row3 hI2.out.box;go_wp2_with (refine wpList_store_row rfl 44 _ _ rfl (w.heap.size+1) _ rfl rfl 44 zeroOp hI2.out.res (by kernel_rfl) rfl (all7 rfl rfl) ?_);refine bodyPost_ret (v:=.agg #[.int .i64 5,.int .i64 0,.int .i64 z,.int .u64 0,.int .i64 0,.slice none 0 0,.slice none 0 0]) (results_cell_row Try.results19 _ _ (w.heap.size+1) 44 _ (0,0) _ rfl (setRow_heap _ _ _ _ 44 (0,0) hI2.out.res) Try.underlying44 rfl (by kernel_rfl)) rfl ?_;obtain ⟨f2,f3⟩:=hI2.out.fin #[.int .i64 5,.int .i64 0,.int .i64 z,.int .u64 0,.int .i64 0,.slice none 0 0,.slice none 0 0];exact ⟨_,_,rfl,OpN.bare _ _ 5 0 z 0 0,good_one 5 0 z 0 0 (by omega) (by omega) (.inl ⟨rfl,rfl⟩) ⟨hz0,hz1⟩ (u64_ok 0 (by omega) (by omega)) (.inr rfl),f2,f3⟩
 ·skip
  go_wp2_with fail;refine (CHA.out _ hI1.out.codes (HX.out.grown hI1.out.grown)).mono ?_; rintro e w2 ⟨z,rfl,hz0,hz1,hc2,hg2⟩;have hI2:=Lib.hid (hI1.out.next hc2 hg2);clear hc2 hg2;obtain ⟨b0,b1,b2⟩:=row3 hI2.out.box;go_wp2_with (refine wpList_store_row rfl 44 _ _ rfl (w.heap.size+1) _ rfl rfl 44 zeroOp hI2.out.res (by kernel_rfl) rfl (all7 rfl rfl) ?_);refine bodyPost_ret (v:=.agg #[.int .i64 6,.int .i64 0,.int .i64 z,.int .u64 0,.int .i64 0,.slice none 0 0,.slice none 0 0]) (results_cell_row Try.results19 _ _ (w.heap.size+1) 44 _ (0,0) _ rfl (setRow_heap _ _ _ _ 44 (0,0) hI2.out.res) Try.underlying44 rfl (by kernel_rfl)) rfl ?_;obtain ⟨f2,f3⟩:=hI2.out.fin #[.int .i64 6,.int .i64 0,.int .i64 z,.int .u64 0,.int .i64 0,.slice none 0 0,.slice none 0 0];exact ⟨_,_,rfl,OpN.bare _ _ 6 0 z 0 0,good_one 6 0 z 0 0 (by omega) (by omega) (.inl ⟨rfl,rfl⟩) ⟨hz0,hz1⟩ (u64_ok 0 (by omega) (by omega)) (.inr rfl),f2,f3⟩
theorem Try.info_wait:(Try.prog.info? 66).map (fun i=>(i.zero,i.size,i.bytes))=some (some (.agg #[.int .i64 0,.int .i64 0,.int .i64 0,.int .i64 0,.int .u64 0,.int .i64 0,.slice none 0 0,.slice none 0 0]),8,96):=by kernel_rfl
structure WtI (wr:World) (g B:Nat) (v:Value) (wl:List WaitM) (rows:List (List Value)):Prop where
 len:rows.length=wl.length
 own:OwnS wr B 66 8 v rows
 row:∀i,i<wl.length→∃vc vd,rows.getD i []=wtL (wat wl i) vc vd∧SlC wr vc (wat wl i).op.cases∧SlI wr .i64 vd (wat wl i).op.draws∧offB g vc∧offB g vd∧∀j,v.ownBlock=some j→offB j vc∧offB j vd
 good:∀i,i<wl.length→(wat wl i).op.good
 gB:g<B
 Bw:B≤wr.heap.size
theorem WtI.draw {wr w2:World} {g B:Nat} {v:Value} {wl:List WaitM} {rows:List (List Value)} (h:WtI wr g B v wl rows) (hg:wr.grownBy w2 (some g)):WtI w2 g B v wl rows:=
 ⟨h.len,h.own.kept hg (h.own.ne h.gB),fun i hi=>by
  obtain ⟨vc,vd,e,h1,h2,h3,h4,h5⟩:=h.row i hi;exact ⟨vc,vd,e,h1.grown hg h3,h2.grown hg h4,h3,h4,h5⟩,h.good,h.gB,Nat.le_trans h.Bw hg.size⟩
theorem WtI.below {wr w2:World} {g B:Nat} {v:Value} {wl:List WaitM} {rows:List (List Value)} (h:WtI wr g B v wl rows) (hb:Below wr.heap.size wr w2):WtI w2 g B v wl rows:=
 ⟨h.len,h.own.below hb,fun i hi=>by
  obtain ⟨vc,vd,e,h1,h2,h3,h4,h5⟩:=h.row i hi;exact ⟨vc,vd,e,h1.below hb,h2.below hb,h3,h4,h5⟩,h.good,h.gB,Nat.le_trans h.Bw hb.size⟩
theorem WtI.slW {wr:World} {g B:Nat} {v:Value} {wl:List WaitM} {rows:List (List Value)} (h:WtI wr g B v wl rows) (hl:wl.length≤1000):SlW wr v wl:=
 ⟨rows,h.len,h.own.sls (by rw [h.len]; omega),fun i hi=>by
  obtain ⟨vc,vd,e,h1,h2,-⟩:=h.row i hi;exact ⟨vc,vd,e,h1,h2⟩⟩
theorem wat_snoc_old (wl:List WaitM) (x:WaitM) (i:Nat) (hi:i<wl.length):wat (wl ++ [x]) i=wat wl i:=by
 unfold wat;rw [List.getD_eq_getElem?_getD,List.getD_eq_getElem?_getD,List.getElem?_append_left hi]
theorem wat_snoc_new (wl:List WaitM) (x:WaitM):wat (wl ++ [x]) wl.length=x:=by
 unfold wat;rw [List.getD_eq_getElem?_getD,List.getElem?_append_right (Nat.le_refl _)];simp
theorem WtI.push {wr u2:World} {g B:Nat} {v v2 vc vd:Value} {wl:List WaitM} {rows:List (List Value)} {x:WaitM} (h:WtI wr g B v wl rows) (hg:wr.grownBy u2 v.ownBlock) (ho:OwnS u2 B 66 8 v2 (rows ++ [wtL x vc vd])) (hn:v2.ownBlock=v.ownBlock∨v2.ownBlock=some wr.heap.size)
  (hx:x.op.good) (hc:SlC wr vc x.op.cases) (hd:SlI wr .i64 vd x.op.draws) (h3:offB g vc) (h4:offB g vd) (h5:∀j,v.ownBlock=some j→offB j vc∧offB j vd):WtI u2 g B v2 (wl ++ [x]) (rows ++ [wtL x vc vd]):=by
 have hkc:∀(vc:Value) (l:List CaseM),SlC wr vc l→(∀j,v.ownBlock=some j→offB j vc)→SlC u2 vc l:=fun vc l hc hj=>by
  cases hv:v.ownBlock with
  | none=>rw [hv] at hg; exact hc.below ((Below.refl wr.heap.size wr).grown hg (Nat.le_refl _) (fun j hj=>by cases hj))
  | some j=>rw [hv] at hg; exact hc.grown hg (hj j hv)
 have hkd:∀(vd:Value) (l:List Int),SlI wr .i64 vd l→(∀j,v.ownBlock=some j→offB j vd)→SlI u2 .i64 vd l:=fun vd l hc hj=>by
  cases hv:v.ownBlock with
  | none=>rw [hv] at hg; exact hc.below ((Below.refl wr.heap.size wr).grown hg (Nat.le_refl _) (fun j hj=>by cases hj))
  | some j=>rw [hv] at hg; exact hc.grown hg (hj j hv)
 have hoff:∀(vc vd:Value) (lc:List CaseM) (ld:List Int),SlC wr vc lc→SlI wr .i64 vd ld→(∀j,v.ownBlock=some j→offB j vc∧offB j vd)→∀j,v2.ownBlock=some j→offB j vc∧offB j vd:=fun vc vd lc ld h1 h2 h6 j hj=>by
  rcases hn with hn | hn
  ·exact h6 j (hn.symm.trans hj)
  ·rw [hn] at hj
   cases hj;exact ⟨h1.offOf (Nat.le_refl _),h2.offOf (Nat.le_refl _)⟩
 refine ⟨by rw [List.length_append,List.length_append,h.len]; rfl,ho,fun i hi=>?_,fun i hi=>?_,h.gB,Nat.le_trans h.Bw hg.size⟩
 ·rw [List.length_append] at hi
  have hi':i<wl.length+1:=hi;by_cases hil:i<wl.length
  ·rw [wat_snoc_old _ _ _ hil]
   obtain ⟨wc,wd,e,k1,k2,k3,k4,k5⟩:=h.row i hil;refine ⟨wc,wd,?_,hkc _ _ k1 (fun j hj=>(k5 j hj).1),hkd _ _ k2 (fun j hj=>(k5 j hj).2),k3,k4,hoff _ _ _ _ k1 k2 k5⟩;rw [List.getD_eq_getElem?_getD,List.getElem?_append_left (by rw [h.len]; exact hil),← List.getD_eq_getElem?_getD];exact e
  ·have he:i=wl.length:=by omega
   subst he;rw [wat_snoc_new];refine ⟨vc,vd,?_,hkc _ _ hc (fun j hj=>(h5 j hj).1),hkd _ _ hd (fun j hj=>(h5 j hj).2),h3,h4,hoff _ _ _ _ hc hd h5⟩;rw [List.getD_eq_getElem?_getD,List.getElem?_append_right (by rw [h.len]; exact Nat.le_refl _),h.len];simp
 ·rw [List.length_append] at hi
  have hi':i<wl.length+1:=hi;by_cases hil:i<wl.length
  ·rw [wat_snoc_old _ _ _ hil]; exact h.good i hil
  ·have he:i=wl.length:=by omega
   subst he;rw [wat_snoc_new]; exact hx
theorem row_below3 {a b:World} {j:Nat} {ob:Obj} (hb:Below a.heap.size a b) (h:a.heap[j]?=some ob):b.heap[j]?=some ob:=(hb.block j (Array.getElem?_eq_some_iff.1 h).1).trans h
def leaveD (d:DeskM) (k:Nat):DeskM:={ d with wait:=d.wait.take k ++ d.wait.drop (k+1) }
theorem getD_erase {α:Type} {l:List α} {k j:Nat} {d:α} (hk:k<l.length):(l.take k ++ l.drop (k+1)).getD j d=if j<k then l.getD j d else l.getD (j+1) d:=by
 have hl:(l.take k).length=k:=by rw [List.length_take]; omega
 by_cases h:j<k
 ·rw [if_pos h,List.getD_eq_getElem?_getD,List.getD_eq_getElem?_getD,List.getElem?_append_left (by omega),List.getElem?_take,if_pos h]
 ·rw [if_neg h,List.getD_eq_getElem?_getD,List.getD_eq_getElem?_getD,List.getElem?_append_right (by omega),List.getElem?_drop,hl,show k+1+(j - k)=j+1 by omega]
theorem SlWX.erase {P:Nat→Prop} {w w':World} {v':Value} {l:List WaitM} {rows:List (List Value)} {k:Nat} (hk:k<l.length) (h1:rows.length=l.length) (h3:∀i,i<l.length→∃vc vd,rows.getD i []=wtL (wat l i) vc vd∧SlC w vc (wat l i).op.cases∧SlI w .i64 vd (wat l i).op.draws∧atP P vc∧atP P vd) (hb:Below w.heap.size w w') (hs:SlS w' 8 v' (rows.take k ++ rows.drop (k+1))) (ha:atP P v'):SlWX P w' v' (l.take k ++ l.drop (k+1)):=by
 have hl:(l.take k ++ l.drop (k+1)).length=l.length - 1:=by simp; omega
 refine ⟨_,by rw [hl]; simp; omega,hs,fun i hi=>?_,ha⟩;rw [hl] at hi;have e:wat (l.take k ++ l.drop (k+1)) i=if i<k then wat l i else wat l (i+1):=getD_erase hk
 rw [e,getD_erase (by rw [h1]; exact hk)];have hd:∀j,j<l.length→∃vc vd,rows.getD j []=wtL (wat l j) vc vd∧SlC w' vc (wat l j).op.cases∧SlI w' .i64 vd (wat l j).op.draws∧atP P vc∧atP P vd:=fun j hj=>by
  obtain ⟨vc,vd,e,k1,k2,k3,k4⟩:=h3 j hj;exact ⟨vc,vd,e,k1.below hb,k2.below hb,k3,k4⟩
 by_cases h:i<k
 ·rw [if_pos h,if_pos h]; exact hd i (by omega)
 ·rw [if_neg h,if_neg h]; exact hd (i+1) (by omega)
theorem own_sh {w:World} {base s:Nat} {e:TypeId} {v:Value} {rows:List (List Value)} (h:OwnS w base e s v rows):∃p n q,v=.slice p n q:=by
 obtain ⟨a,c,rfl⟩:=h.len;exact ⟨_,_,_,rfl⟩
set_option maxRecDepth 100000 in
set_option maxHeartbeats 16000000 in
theorem rleave_any (P:Nat→Prop) (v:Value) (d:DeskM) (i:Nat) (w:World) (h:DeskX P w v d) (hd:d.ok) (hi:i<d.wait.length) (hP:∀b,w.heap.size≤b→P b):Calls Try.prog 43 #[v,.int .i64 (i:Int)] w fun e w'=>∃u,e=.returned u∧DeskX P w' u (leaveD d i)∧Below w.heap.size w w':=by
 obtain ⟨vc,vw,rfl,hch,hwt⟩:=h;obtain ⟨ac,kc,rfl,-⟩:=hch.slH.len;obtain ⟨rows,hrl,hss,hrr,hat⟩:=hwt;have hwl:=hd.wl;obtain ⟨aw,kw,rfl,hkw⟩:=hss.len;obtain ⟨b,off,cap,hve,hbl,-⟩:=hss.open (by omega);simp only [Value.slice.injEq] at hve;obtain ⟨rfl,-,rfl⟩:=hve;have HFIN:Hid (∀w' v' tk,Below w.heap.size w w'→SlS w' 8 v' (rows.take i ++ rows.drop (i+1))→atP P v'→tk=d.tick→DeskX P w' (.agg #[.slice ac d.chans.length kc,v',.int .i64 tk]) (leaveD d i)):=fun w' v' tk hb hs ha ht=>⟨.slice ac d.chans.length kc,v',by rw [ht]; rfl,hch.below hb,SlWX.erase hi hrl hrr hb hs ha⟩;have HSS:=Lib.hid hss;have HP:=Lib.hid hP;have HRI:Hid (i<rows.length∧rows.length≤1000):=⟨by omega,by omega⟩;rw [hrl] at hkw;rw [hrl] at HSS ⊢;obtain ⟨n,hn⟩:∃z,d.wait.length=z:=⟨_,rfl⟩;rw [hn] at HSS hi hkw hwl ⊢;have HN:Hid (rows.length=n):=by show _=_; rw [hrl,hn]
 obtain ⟨cn,hcn⟩:∃z,d.chans.length=z:=⟨_,rfl⟩;obtain ⟨tk,htk⟩:∃z,d.tick=z:=⟨_,rfl⟩;have HF2:=Lib.hid fun w' v' h1 h2 h3=>HFIN.out w' v' tk h1 h2 h3 htk.symm;rw [hcn] at HF2 ⊢;rw [htk];clear HFIN hch hss hrr hat hd hrl hn hcn htk hP;obtain ⟨W,hW,HB,R0,R1,hz⟩:=two_new w (.cells #[.slice ac cn kc,.slice (some ⟨b,off,none⟩) n kw,.int .i64 tk] 34) (.cells #[.slice none 0 0,.slice none 0 0,.int .i64 0] 34);have HW:=Lib.hid hW;clear hW;go_enter Try.func43,Try.ntmps43;go_upto_region 1 with fail
 rw [HW.out];clear HW;obtain ⟨x0_0,x0_1,x0_2⟩:=rowc3 R0.out;have KS:Hid (∀w',Below W.heap.size W w'→(fun w':World=>w'.cell? ⟨w.heap.size,1,none⟩=some (.slice (some ⟨b,off,none⟩) n kw)) w'):=fun w' hb=>(rowc3 (row_below3 hb R0.out)).2.1;have hw1:IntKind.i64.wrap ((i:Int)+1)=(i:Int)+1:=(i64_small _ (by omega) (by omega)).symm;have hi1:(i:Int)+1≤(n:Int):=by omega
 have hi0:0≤(i:Int)+1:=by omega
 have hik:i≤kw:=by omega
 have hin:i≤n:=by omega
 have hik1:i+1≤kw:=by omega
 have hin1:i+1≤n:=by omega
 have hI1:((i:Int)+1).toNat=i+1:=by omega
 obtain ⟨pa,hpa⟩:∃z:Option Addr,(if kw=i+1 then some ⟨b,off,none⟩ else some ⟨b,off+(i+1) * 8,none⟩)=z:=⟨_,rfl⟩;have HPA:=Lib.hid hpa;have hwz:w.heap.size<W.heap.size:=by omega
 clear x0_0 x0_1 x0_2 hpa;refine untilK KS 12 13 (by kernel_rfl) rfl ?_;obtain ⟨u0,hu0,HU0⟩:=drew_pack W;rw [hu0];clear hu0;have hSU0:=KS.out _ HU0.out;apply tkV 0 hSU0 rfl (by kernel_rfl) (fun _ _ _ h=>h) rfl;intro w hSw;(go_simp<;>with_reducible rfl);simp only [J0,J1,J2,J3,J4];apply tkV 1 hSU0 rfl (by kernel_rfl) (fun _ _ _ h=>h) rfl;intro w hSw;(go_simp<;>with_reducible rfl);simp only [J0,J1,J2,J3,J4];apply tkV 2 hSU0 rfl (by kernel_rfl) (fun _ _ _ h=>h) rfl;intro w hSw;(go_simp<;>with_reducible rfl);simp only [J0,J1,J2,J3,J4];apply tkV 3 hSU0 rfl (by kernel_rfl) (fun _ _ _ h=>h) rfl;intro w hSw;(go_simp<;>with_reducible rfl);simp only [J0,J1,J2,J3,J4];apply tkV 5 hSU0 rfl (by kernel_rfl) (fun _ _ _ h=>h) rfl;intro w hSw;(go_simp<;>with_reducible rfl);simp only [J0,J1,J2,J3,J4];apply tkV 6 hSU0 rfl (by kernel_rfl) (fun _ _ _ h=>h) rfl;intro w hSw;(go_simp<;>with_reducible rfl);simp only [J0,J1,J2,J3,J4];apply tkV 7 hSU0 rfl (by kernel_rfl) (fun _ _ _ h=>h) rfl;intro w hSw;(go_simp<;>with_reducible rfl);simp only [J0,J1,J2,J3,J4];apply tkV 8 hSU0 rfl (by kernel_rfl) (fun _ _ _ h=>h) rfl;intro w hSw;(go_simp<;>with_reducible rfl);simp only [J0,J1,J2,J3,J4];apply tkV 9 hSU0 rfl (by kernel_rfl) (fun _ _ _ h=>h) rfl;intro w hSw;(go_simp<;>with_reducible rfl);simp only [J0,J1,J2,J3,J4];refine consU 4 rfl (by kernel_rfl) rfl fun K hK=>?_;refine step_app_ss (w:=u0) 32 (by kernel_rfl) Try.info_wait rfl (by decide) (by decide) (by rfl) _ _ (by rfl) (v0:=.slice none 0 0) (base:=W.heap.size) (by rfl) (by rfl) (OwnS.nil _ _ _ _) (((HSS.out.below (below_then HB.out HU0.out))).take i (by have:=HRI.out; omega)) (by rw [List.length_take]; have:=HRI.out; simp; omega) (by have:=HU0.out.size; omega) ?_;intro v1 u1 ho1 hg1 hn1;rw [List.nil_append] at ho1;obtain ⟨p1,n1,k1,rfl⟩:=own_sh ho1;have HO1:=Lib.hid ho1;have HU1:Hid (Below W.heap.size W u1):=HU0.out.grown hg1 (by have:=HU0.out.size; omega) (fun k hk=>by cases hk);clear ho1 hg1 hn1;refine hK.out _ _ ?_ fun hSU1=>?_;exact KS.out _ HU1.out
 clear hK K hSU0;(try simp only [J0,J1,J2,J3,J4]);refine consU 10 rfl (by kernel_rfl) rfl fun K hK=>?_;have HSD:=Lib.hid ((HSS.out.below (below_then HB.out HU1.out)).drop (i+1) (by have:=HRI.out; omega) HPA.out.symm);refine step_app_ss (w:=u1) 32 (by kernel_rfl) Try.info_wait rfl (by decide) (by decide) (by rfl) _ _ (by rfl) (v0:=.slice p1 n1 k1) (base:=W.heap.size) (by rfl) (by rw [← HPA.out]; rfl) HO1.out HSD.out (by rw [List.length_take,List.length_drop]; have:=HRI.out; omega) (by have:=HU1.out.size; omega) ?_;intro v2 u2 ho2 hg2 hn2;obtain ⟨p2,n2,k2,rfl⟩:=own_sh ho2;have HO2:=Lib.hid ho2;have HU2:Hid (Below W.heap.size W u2):=HU1.out.grown hg2 (by have:=HU1.out.size; omega) (fun k hk=>(HO1.out.lt k hk).1);clear ho2 hg2 hn2 HSD;refine hK.out _ _ ?_ fun hSU2=>?_;exact KS.out _ HU2.out;clear hK K hSU1;(try simp only [J0,J1,J2,J3,J4]);apply tkV 11 hSU2 rfl (by kernel_rfl) (fun _ _ _ h=>h) rfl;intro w hSw;(go_simp<;>with_reducible rfl);simp only [J0,J1,J2,J3,J4];refine freeU 12 rfl (by kernel_rfl) rfl (by kernel_rfl) fun K hK=>?_;have R02:=Lib.hid ((HU2.out.block _ (show w.heap.size<W.heap.size by omega)).trans R0.out);have R12:=Lib.hid ((HU2.out.block _ (show w.heap.size+1<W.heap.size by omega)).trans R1.out);have fz:=frozen_of_row u2 w.heap.size 1 _ _ R02.out;obtain ⟨r0,r1,r2⟩:=rowc3 R02.out;go_simp;clear r0 r1 r2 fz;refine hK.out _ _ ?_;clear hK K hSU2;(try simp only [J0,J1,J2,J3,J4]);refine wpAnyU_done (by kernel_rfl) ?_ _;have r1:=heap_setCell_same u2 w.heap.size 1 _ _ (.slice p2 n2 k2) R02.out;simp at r1;have R03:=Lib.hid r1;have R13:=Lib.hid ((heap_setCell_other u2 ⟨w.heap.size,1,none⟩ (w.heap.size+1) (.slice p2 n2 k2) (by show w.heap.size+1≠w.heap.size; omega)).trans R12.out);have HB3:=Lib.hid ((below_then HB.out HU2.out).setCell (p:=⟨w.heap.size,1,none⟩) (Nat.le_refl _) (.slice p2 n2 k2));have HSF:Hid (SlS (u2.setCell ⟨w.heap.size,1,none⟩ (.slice p2 n2 k2)) 8 (.slice p2 n2 k2) (rows.take i ++ rows.drop (i+1))):=(HO2.out.kept (grownBy_setCell u2 ⟨w.heap.size,1,none⟩ (.slice p2 n2 k2)) (HO2.out.ne (by omega))).sls (by rw [List.length_append,List.length_take,List.length_drop]; have:=HRI.out; omega)
 have HAT:Hid (atP P (.slice p2 n2 k2)):=OwnS.isP HO2.out (fun b hb=>HP.out b (by omega));obtain ⟨w3,hw3⟩:∃w3,u2.setCell ⟨w.heap.size,1,none⟩ (.slice p2 n2 k2)=w3:=⟨_,rfl⟩;rw [hw3] at R03 R13 HB3 HSF;rw [hw3];try rw [HPA.out]
 clear hw3 r1;obtain ⟨x0,x1,x2⟩:=rowc3 R03.out;go_wp2_with (refine wpList_store_row rfl 34 _ _ rfl (w.heap.size+1) _ rfl rfl 34 _ R13.out (by kernel_rfl) rfl (by simp [Value.oneCell']) ?_);refine bodyPost_ret (v:=.agg #[.slice ac cn kc,.slice p2 n2 k2,.int .i64 tk]) (results_cell_row Try.results43 _ _ (w.heap.size+1) 34 _ (0,0) _ rfl (setRow_heap _ _ _ _ 34 (0,0) R13.out) Try.underlying34 rfl (by kernel_rfl)) rfl ?_;have hB4:=row_below HB3.out (show w.heap.size≤w.heap.size+1 by omega) #[.slice ac cn kc,.slice p2 n2 k2,.int .i64 tk];exact ⟨_,rfl,HF2.out _ _ hB4 (HSF.out.off (row_grown w3 (w.heap.size+1) #[.slice ac cn kc,.slice p2 n2 k2,.int .i64 tk]) (OwnS.isP (P:=fun b=>W.heap.size≤b) HO2.out (fun b hb=>hb)) (fun b hb e=>by omega)) HAT.out,hB4⟩
theorem Try.info_done:(Try.prog.info? 75).map (fun i=>(i.zero,i.size,i.bytes))=some (some (.agg #[.int .i64 0,.int .i64 0,.int .i64 0,.int .u64 0,.bool false,.int .i64 0]),6,48):=by kernel_rfl
def addK (l:List DoneM) (thr:Int):Nat→Nat
 | 0=>0
 | k+1=>if thr<(l.getD k doneZ).thr then addK l thr k else k+1
theorem addK_le (l:List DoneM) (thr:Int):∀k,addK l thr k≤k
 | 0=>Nat.le_refl _
 | k+1=>by
  unfold addK;split
  ·exact Nat.le_succ_of_le (addK_le l thr k)
  ·exact Nat.le_refl _
def addE (l:List DoneM) (thr:Int) (r:ResM):List DoneM:=l.take (addK l thr l.length) ++ [⟨thr,r⟩] ++ l.drop (addK l thr l.length)
theorem addE_ne (l:List DoneM) (thr:Int) (r:ResM):addE l thr r≠[]:=by unfold addE; simp
theorem addE_len (l:List DoneM) (thr:Int) (r:ResM):(addE l thr r).length=l.length+1:=by
 have:=addK_le l thr l.length;unfold addE;simp;omega
theorem addE_rows (l:List DoneM) (thr:Int) (r:ResM):doneRows (addE l thr r)=(doneRows l).take (addK l thr l.length) ++ [doneL ⟨thr,r⟩] ++ (doneRows l).drop (addK l thr l.length):=by
 unfold addE doneRows;rw [List.map_append,List.map_append,List.map_take,List.map_drop];rfl
theorem SlS.done {w:World} {v:Value} {l:List DoneM} (h:SlS w 6 v (doneRows l)) (i:Nat) (hi:i<l.length) {x:DoneM} (hx:l.getD i doneZ=x):∃b off cap,v=.slice (some ⟨b,off,none⟩) l.length cap∧b<w.heap.size∧w.cell? ⟨b,off+i * 6,none⟩=some (.int .i64 x.thr)∧w.cell? ⟨b,off+i * 6+1,none⟩=some (.int .i64 x.res.kind)∧w.cell? ⟨b,off+i * 6+2,none⟩=some (.int .i64 x.res.case)∧w.cell? ⟨b,off+i * 6+3,none⟩=some (.int .u64 x.res.val)∧w.cell? ⟨b,off+i * 6+4,none⟩=some (.bool x.res.ok)∧w.cell? ⟨b,off+i * 6+5,none⟩=some (.int .i64 x.res.num):=by
 have hl:=doneRows_length l;obtain ⟨b,off,cap,rfl,hb,hc⟩:=h.open (by omega);have h5:=hc i (by omega);rw [doneRows_get l i hi,hx] at h5;exact ⟨b,off,cap,by rw [hl],hb,h5 0 _ rfl,h5 1 _ rfl,h5 2 _ rfl,h5 3 _ rfl,h5 4 _ rfl,h5 5 _ rfl⟩
set_option maxRecDepth 100000 in
set_option maxHeartbeats 16000000 in
theorem radd_any (v:Value) (l:List DoneM) (thr:Int) (r:ResM) (w:World) (h:SlS w 6 v (doneRows l)) (hl:l.length≤10000) (hv:v=.slice none 0 0∨l≠[]):Calls Try.prog 44 #[v,.int .i64 thr,resW r] w fun e w'=>∃u,e=.returned u∧SlS w' 6 u (doneRows (addE l thr r))∧atP (fun b=>w.heap.size≤b) u∧Below w.heap.size w w':=by
 obtain ⟨rE,hrE⟩:∃z,doneRows (addE l thr r)=z:=⟨_,rfl⟩;rw [hrE];rw [addE_rows] at hrE;obtain ⟨k1,k2,k3,k4,k5⟩:=r;unfold resW;dsimp only;have hrE2:(doneRows l).take (addK l thr l.length) ++ [[.int .i64 thr,.int .i64 k1,.int .i64 k2,.int .u64 k3,.bool k4,.int .i64 k5]] ++ (doneRows l).drop (addK l thr l.length)=rE:=hrE;clear hrE;by_cases hne:l=[]
 ·subst hne
  have hvn:v=.slice none 0 0:=by
   rcases hv with h | h
   ·exact h
   ·exact absurd rfl h
  subst hvn;have HFR:Hid (([] ++ [[.int .i64 thr,.int .i64 k1,.int .i64 k2,.int .u64 k3,.bool k4,.int .i64 k5]] ++ []:List (List Value))=rE):=hrE2;clear h hv hrE2 hl;obtain ⟨W,hW,HB,R0,hz⟩:=one_new w (.cells #[.int .i64 k1,.int .i64 k2,.int .u64 k3,.bool k4,.int .i64 k5] 73);have HW:=Lib.hid hW;clear hW;go_enter Try.func44,Try.ntmps44;go_upto_region 1 with fail
  rw [HW.out];clear HW;obtain ⟨x0_0,x0_1,x0_2,x0_3,x0_4⟩:=rowc5 R0.out;go_upto_block 0 with fail
  go_cut [7] (fun s7 wx=>s7=.int .i64 0∧Hid (wx=W))
  case first=>
   go_wp2_with fail;go_loopw [7] (fun u7 wr=>u7=.int .i64 0∧Hid (wr=W)) (fun u7 _=>0)
   case atStart=>exact ⟨rfl,rfl⟩
   case round=>
    obtain ⟨rfl,HWr⟩:=hrel;obtain ⟨wo,rfl⟩:∃wo:World,wo=wr:=⟨_,rfl⟩;go_wp2_with fail;go_meet;exact ⟨rfl,HWr⟩
  case rest=>
  obtain ⟨rfl,hwc⟩:=hcut;have hw9:=hwc.out;clear hwc;have hw10:W=wc:=hw9.symm;clear hw9;subst hw10;obtain ⟨v1,w1,hrun,ho1,hg1,-⟩:=run_app_ss W 37 37 (by kernel_rfl) Try.info_done rfl (by decide) (by decide) (OwnS.nil W W.heap.size 75 6) (SlS.nil W 6) (by simp) (Nat.le_refl _);rw [List.nil_append] at ho1;obtain ⟨p1,n1,q1,rfl⟩:=own_sh ho1;have HRUN:=Lib.hid hrun;have HO1:=Lib.hid ho1;have HB1:Hid (Below W.heap.size W w1):=(Below.refl W.heap.size W).grown hg1 (Nat.le_refl _) (fun k hk=>by cases hk);have R01:=Lib.hid (row_below3 HB1.out R0.out);clear hrun ho1 hg1 x0_0 x0_1 x0_2 x0_3 x0_4;go_upto_region 5 with (at_builtin; refine Lib.wpList_append_run _ rfl _ _ _ _ rfl _ _ rfl rfl _ _ HRUN.out ?_)
  clear HRUN;have KS:Hid (∀w',Below w1.heap.size w1 w'→(fun w':World=>w'.cell? ⟨w.heap.size,0,none⟩=some (.int .i64 k1)∧w'.cell? ⟨w.heap.size,1,none⟩=some (.int .i64 k2)∧w'.cell? ⟨w.heap.size,2,none⟩=some (.int .u64 k3)∧w'.cell? ⟨w.heap.size,3,none⟩=some (.bool k4)∧w'.cell? ⟨w.heap.size,4,none⟩=some (.int .i64 k5)) w'):=fun w' hb=>rowc5 (row_below3 hb R01.out);refine untilK KS 10 11 (by kernel_rfl) rfl ?_;obtain ⟨u0,hu0,HU0⟩:=drew_pack w1;rw [hu0];clear hu0;have hSU0:=KS.out _ HU0.out;apply tkV 0 hSU0 rfl (by kernel_rfl) (fun _ _ _ h=>h) rfl;intro w hSw;(go_simp<;>with_reducible rfl);simp only [J0,J1,J2,J3,J4];apply tkV 1 hSU0 rfl (by kernel_rfl) (fun _ _ _ h=>h) rfl;intro w hSw;(go_simp<;>with_reducible rfl);simp only [J0,J1,J2,J3,J4];apply tkV 2 hSU0 rfl (by kernel_rfl) (fun _ _ _ h=>h) rfl;intro w hSw;(go_simp<;>with_reducible rfl);simp only [J0,J1,J2,J3,J4];apply tkV 3 hSU0 rfl (by kernel_rfl) (fun _ _ _ h=>h) rfl;intro w hSw;(go_simp<;>with_reducible rfl);simp only [J0,J1,J2,J3,J4];apply tkV 6 hSU0 rfl (by kernel_rfl) (fun _ _ _ h=>h) rfl;intro w hSw;(go_simp<;>with_reducible rfl);simp only [J0,J1,J2,J3,J4];apply tkV 7 hSU0 rfl (by kernel_rfl) (fun _ _ _ h=>h) rfl;intro w hSw;(go_simp<;>with_reducible rfl);simp only [J0,J1,J2,J3,J4];apply tkV 8 hSU0 rfl (by kernel_rfl) (fun _ _ _ h=>h) rfl;intro w hSw;(go_simp<;>with_reducible rfl);simp only [J0,J1,J2,J3,J4];refine consU 4 rfl (by kernel_rfl) rfl fun K hK=>?_;go_simp;obtain ⟨u1,nb,hv1,hX1,RN,hbn,ltn⟩:=alloc_pack u0 (.cells #[.int .i64 thr,.int .i64 k1,.int .i64 k2,.int .u64 k3,.bool k4,.int .i64 k5] 75);rw [hv1,hX1];have HU1:=Lib.hid (below_then HU0.out hbn.out);clear hv1 hX1 hbn ltn;refine hK.out _ _ ?_ fun hSU1=>?_;exact KS.out _ HU1.out;clear hK K hSU0;(try simp only [J0,J1,J2,J3,J4]);refine consU 5 rfl (by kernel_rfl) rfl fun K hK=>?_;refine step_append_s (w:=u1) 37 (by kernel_rfl) Try.info_done rfl (by decide) (by decide) (by rfl) _ _ (by rfl) (by rfl) (HO1.out.below HU1.out) [.int .i64 thr,.int .i64 k1,.int .i64 k2,.int .u64 k3,.bool k4,.int .i64 k5] rfl (by intro u hu; simp only [List.mem_cons,List.not_mem_nil,or_false] at hu; rcases hu with rfl | rfl | rfl | rfl | rfl | rfl <;> rfl) nb (by rfl) RN.out (by simp) (by have:=HB1.out.size; have:=HU1.out.size; omega) ?_
  intro v2 u2 ho2 hg2 hn2;obtain ⟨p2,n2,q2,rfl⟩:=own_sh ho2;have HO2:=Lib.hid ho2;have HU2:Hid (Below W.heap.size W u2):=(below_then HB1.out HU1.out).grown hg2 (by have:=HB1.out.size; have:=HU1.out.size; omega) (fun k hk=>(HO1.out.lt k hk).1);have R02:=Lib.hid (row_below3 HU2.out R0.out);clear ho2 hg2 hn2;refine hK.out _ _ ?_ fun hSU2=>?_;exact rowc5 R02.out;clear hK K hSU1;(try simp only [J0,J1,J2,J3,J4]);refine consU 9 rfl (by kernel_rfl) rfl fun K hK=>?_;refine step_app_ss (w:=u2) 37 (by kernel_rfl) Try.info_done rfl (by decide) (by decide) (by rfl) _ _ (by rfl) (v0:=.slice p2 n2 q2) (base:=W.heap.size) (by rfl) (by rfl) HO2.out (SlS.nil u2 6) (by simp) (by have:=HU2.out.size; omega) ?_;intro v3 u3 ho3 hg3 hn3;obtain ⟨p3,n3,q3,rfl⟩:=own_sh ho3;have HO3:=Lib.hid ho3;have HU3:Hid (Below W.heap.size W u3):=HU2.out.grown hg3 (by have:=HU2.out.size; omega) (fun k hk=>(HO2.out.lt k hk).1);have R03:=Lib.hid (row_below3 HU3.out R0.out);clear ho3 hg3 hn3;refine hK.out _ _ ?_ fun hSU3=>?_;exact rowc5 R03.out;clear hK K hSU2;(try simp only [J0,J1,J2,J3,J4]);refine freeU 10 rfl (by kernel_rfl) rfl (by kernel_rfl) fun K hK=>?_;go_simp;refine hK.out _ _ ?_;clear hK K hSU3;(try simp only [J0,J1,J2,J3,J4]);refine wpAnyU_done (by kernel_rfl) ?_ _;go_wp2_with fail;go_ret;exact ⟨_,rfl,HFR.out▸HO3.out.sls (by simp),OwnS.isP HO3.out (fun b hb=>by have:=HB.out.size; omega),below_then HB.out HU3.out⟩
 obtain ⟨b,off,kd,hve,hbl,-⟩:=h.open (by rw [doneRows_length]; exact List.length_pos_iff.2 hne);rw [doneRows_length] at hve;subst hve;have HSS:=Lib.hid h;have HCE:Hid (∀w',Below w.heap.size w w'→∀i,i<l.length→w'.cell? ⟨b,off+i * 6,none⟩=some (.int .i64 (l.getD i doneZ).thr)):=fun w' hb i hi=>by
  obtain ⟨b2,off2,cap2,e2,-,c0,-⟩:=(h.below hb).done i hi rfl;simp only [Value.slice.injEq,Option.some.injEq,Addr.mk.injEq] at e2;obtain ⟨⟨rfl,rfl,-⟩,-,-⟩:=e2;exact c0
 have HAK:Hid (∀k,k+1≤l.length→addK l thr (k+1)=if thr<(l.getD k doneZ).thr then addK l thr k else k+1):=fun k _=>rfl;have HRL:Hid ((doneRows l).length=l.length):=doneRows_length l;have HRR:Hid (doneRows l=doneRows l):=rfl;obtain ⟨rows,hrows⟩:∃z,doneRows l=z:=⟨_,rfl⟩;rw [hrows] at HSS HRL hrE2;have hkc:l.length≤kd:=by
  obtain ⟨-,-,a',cap',e2,h9,-⟩:=HSS.out;simp only [Value.slice.injEq] at e2;rw [HRL.out] at h9;omega
 have HFR0:=Lib.hid hrE2;obtain ⟨n,hn⟩:∃z,l.length=z:=⟨_,rfl⟩;rw [hn] at HSS HCE HAK HRL HFR0 hkc hl ⊢;clear h hv hrE2 hne hrows HRR hn;obtain ⟨W,hW,HB,R0,hz⟩:=one_new w (.cells #[.int .i64 k1,.int .i64 k2,.int .u64 k3,.bool k4,.int .i64 k5] 73);have HW:=Lib.hid hW;clear hW;go_enter Try.func44,Try.ntmps44;go_upto_region 1 with fail
 rw [HW.out];clear HW;obtain ⟨x0_0,x0_1,x0_2,x0_3,x0_4⟩:=rowc5 R0.out;go_upto_block 0 with fail
 go_cut [7] (fun s7 wx=>∃kk:Nat,s7=.int .i64 kk∧Hid (kk=addK l thr n)∧kk≤n∧Hid (wx=W))
 case first=>
  go_wp2_with fail;go_loopw [7] (fun u7 wr=>∃k:Nat,u7=.int .i64 k∧k≤n∧Hid (addK l thr k=addK l thr n)∧Hid (wr=W)) (fun u7 _=>(intOf u7).toNat)
  case atStart=>exact ⟨n,rfl,Nat.le_refl _,rfl,rfl⟩
  case round=>
   obtain ⟨k,rfl,hk,HKK,HWr⟩:=hrel;obtain ⟨wo,rfl⟩:∃wo:World,wo=wr:=⟨_,rfl⟩;have hw:=HWr.out;clear HWr;subst hw;cases k with
   | zero=>
    have HK0:Hid (0=addK l thr n):=HKK.out;go_wp2_with fail;go_meet;exact ⟨0,rfl,HK0,by omega,rfl⟩
   | succ k=>
    have c0:=HCE.out _ HB.out k (by omega);obtain ⟨z,hz⟩:∃z,(l.getD k doneZ).thr=z:=⟨_,rfl⟩;have HA2:=Lib.hid (HAK.out k hk);rw [hz] at c0 HA2;have hk0:(0:Int)<((k+1:Nat):Int):=by omega
    have hks:(((k+1:Nat):Int) - 1)=(k:Int):=by omega
    have hksw:IntKind.i64.wrap ((k:Int)+1 - 1)=(k:Int):=by rw [show (k:Int)+1 - 1=(k:Int) by omega]; exact (i64_small _ (by omega) (by omega)).symm
    have hkI:(k:Int)<(n:Int):=by omega
    clear hz;by_cases hzz:thr<z
    ·have HA3:Hid (addK l thr k=addK l thr n):=by show _=_; rw [← HKK.out,HA2.out,if_pos hzz]
     have hzg:z > thr:=hzz;clear HA2;go_wp2_with fail;go_roundw
     case rel=>exact ⟨k,by go_num,by omega,HA3,Lib.hid trivial⟩
     case measure=>first | (simp [intOf]; done) | (simp [intOf]; omega)
    ·have HA3:Hid (k+1=addK l thr n):=by show _=_; rw [← HKK.out,HA2.out,if_neg hzz]
     have hzg:¬z > thr:=hzz;clear HA2;go_wp2_with fail;go_meet;exact ⟨k+1,by go_num,HA3,hk,rfl⟩
 case rest=>
 obtain ⟨kk,rfl,hkk,hkn,hwc⟩:=hcut;have hw10:W=wc:=hwc.out.symm;clear hwc;subst hw10;have HFR:Hid (rows.take kk ++ [[.int .i64 thr,.int .i64 k1,.int .i64 k2,.int .u64 k3,.bool k4,.int .i64 k5]] ++ rows.drop kk=rE):=by show _=_; rw [hkk.out]; exact HFR0.out
 have hknI:(kk:Int)≤(n:Int):=by omega
 have hkdc:kk≤kd:=by omega
 obtain ⟨pa,hpa⟩:∃z:Option Addr,(if kd=kk then some ⟨b,off,none⟩ else some ⟨b,off+kk * 6,none⟩)=z:=⟨_,rfl⟩;have HPA:=Lib.hid hpa;clear hpa hkk HFR0 HAK HCE;obtain ⟨v1,w1,hrun,ho1,hg1,-⟩:=run_app_ss W 37 37 (by kernel_rfl) Try.info_done rfl (by decide) (by decide) (OwnS.nil W W.heap.size 75 6) (((HSS.out.below HB.out).take kk (by rw [HRL.out]; exact hkn))) (by rw [List.length_take]; simp; have:=HRL.out; omega) (Nat.le_refl _);rw [List.nil_append] at ho1;obtain ⟨p1,n1,q1,rfl⟩:=own_sh ho1;have HRUN:=Lib.hid hrun;have HO1:=Lib.hid ho1;have HB1:Hid (Below W.heap.size W w1):=(Below.refl W.heap.size W).grown hg1 (Nat.le_refl _) (fun k hk=>by cases hk);have R01:=Lib.hid (row_below3 HB1.out R0.out);clear hrun ho1 hg1 x0_0 x0_1 x0_2 x0_3 x0_4;go_upto_region 5 with (at_builtin; refine Lib.wpList_append_run _ rfl _ _ _ _ rfl _ _ rfl rfl _ _ HRUN.out ?_)
 clear HRUN;have KS:Hid (∀w',Below w1.heap.size w1 w'→(fun w':World=>w'.cell? ⟨w.heap.size,0,none⟩=some (.int .i64 k1)∧w'.cell? ⟨w.heap.size,1,none⟩=some (.int .i64 k2)∧w'.cell? ⟨w.heap.size,2,none⟩=some (.int .u64 k3)∧w'.cell? ⟨w.heap.size,3,none⟩=some (.bool k4)∧w'.cell? ⟨w.heap.size,4,none⟩=some (.int .i64 k5)) w'):=fun w' hb=>rowc5 (row_below3 hb R01.out);refine untilK KS 10 11 (by kernel_rfl) rfl ?_;obtain ⟨u0,hu0,HU0⟩:=drew_pack w1;rw [hu0];clear hu0;have hSU0:=KS.out _ HU0.out;apply tkV 0 hSU0 rfl (by kernel_rfl) (fun _ _ _ h=>h) rfl;intro w hSw;(go_simp<;>with_reducible rfl);simp only [J0,J1,J2,J3,J4];apply tkV 1 hSU0 rfl (by kernel_rfl) (fun _ _ _ h=>h) rfl;intro w hSw;(go_simp<;>with_reducible rfl);simp only [J0,J1,J2,J3,J4];apply tkV 2 hSU0 rfl (by kernel_rfl) (fun _ _ _ h=>h) rfl;intro w hSw;(go_simp<;>with_reducible rfl);simp only [J0,J1,J2,J3,J4];apply tkV 3 hSU0 rfl (by kernel_rfl) (fun _ _ _ h=>h) rfl;intro w hSw;(go_simp<;>with_reducible rfl);simp only [J0,J1,J2,J3,J4];apply tkV 6 hSU0 rfl (by kernel_rfl) (fun _ _ _ h=>h) rfl;intro w hSw;(go_simp<;>with_reducible rfl);simp only [J0,J1,J2,J3,J4];apply tkV 7 hSU0 rfl (by kernel_rfl) (fun _ _ _ h=>h) rfl;intro w hSw;(go_simp<;>with_reducible rfl);simp only [J0,J1,J2,J3,J4];apply tkV 8 hSU0 rfl (by kernel_rfl) (fun _ _ _ h=>h) rfl;intro w hSw;(go_simp<;>with_reducible rfl);simp only [J0,J1,J2,J3,J4];refine consU 4 rfl (by kernel_rfl) rfl fun K hK=>?_;go_simp;obtain ⟨u1,nb,hv1,hX1,RN,hbn,ltn⟩:=alloc_pack u0 (.cells #[.int .i64 thr,.int .i64 k1,.int .i64 k2,.int .u64 k3,.bool k4,.int .i64 k5] 75);rw [hv1,hX1];have HU1:=Lib.hid (below_then HU0.out hbn.out);clear hv1 hX1 hbn ltn;refine hK.out _ _ ?_ fun hSU1=>?_;exact KS.out _ HU1.out;clear hK K hSU0;(try simp only [J0,J1,J2,J3,J4]);refine consU 5 rfl (by kernel_rfl) rfl fun K hK=>?_;refine step_append_s (w:=u1) 37 (by kernel_rfl) Try.info_done rfl (by decide) (by decide) (by rfl) _ _ (by rfl) (by rfl) (HO1.out.below HU1.out) [.int .i64 thr,.int .i64 k1,.int .i64 k2,.int .u64 k3,.bool k4,.int .i64 k5] rfl (by intro u hu; simp only [List.mem_cons,List.not_mem_nil,or_false] at hu; rcases hu with rfl | rfl | rfl | rfl | rfl | rfl <;> rfl) nb (by rfl) RN.out (by rw [List.length_take]; have:=HRL.out; omega) (by have:=HB1.out.size; have:=HU1.out.size; omega) ?_
 intro v2 u2 ho2 hg2 hn2;obtain ⟨p2,n2,q2,rfl⟩:=own_sh ho2;have HO2:=Lib.hid ho2;have HU2:Hid (Below W.heap.size W u2):=(below_then HB1.out HU1.out).grown hg2 (by have:=HB1.out.size; have:=HU1.out.size; omega) (fun k hk=>(HO1.out.lt k hk).1);have R02:=Lib.hid (row_below3 HU2.out R0.out);clear ho2 hg2 hn2;refine hK.out _ _ ?_ fun hSU2=>?_;exact rowc5 R02.out;clear hK K hSU1;(try simp only [J0,J1,J2,J3,J4]);refine consU 9 rfl (by kernel_rfl) rfl fun K hK=>?_;have HSD:=Lib.hid ((HSS.out.below (below_then HB.out HU2.out)).drop kk (by rw [HRL.out]; exact hkn) HPA.out.symm);refine step_app_ss (w:=u2) 37 (by kernel_rfl) Try.info_done rfl (by decide) (by decide) (by rfl) _ _ (by rfl) (v0:=.slice p2 n2 q2) (base:=W.heap.size) (by rfl) (by rw [← HPA.out]; rfl) HO2.out (HSD.out) (by rw [List.length_append,List.length_take,List.length_drop]; simp; have:=HRL.out; omega) (by have:=HU2.out.size; omega) ?_;intro v3 u3 ho3 hg3 hn3;obtain ⟨p3,n3,q3,rfl⟩:=own_sh ho3;have HO3:=Lib.hid ho3;have HU3:Hid (Below W.heap.size W u3):=HU2.out.grown hg3 (by have:=HU2.out.size; omega) (fun k hk=>(HO2.out.lt k hk).1);have R03:=Lib.hid (row_below3 HU3.out R0.out);clear ho3 hg3 hn3;refine hK.out _ _ ?_ fun hSU3=>?_;exact rowc5 R03.out;clear hK K hSU2;(try simp only [J0,J1,J2,J3,J4]);refine freeU 10 rfl (by kernel_rfl) rfl (by kernel_rfl) fun K hK=>?_;go_simp;refine hK.out _ _ ?_;clear hK K hSU3;(try simp only [J0,J1,J2,J3,J4]);refine wpAnyU_done (by kernel_rfl) ?_ _;try rw [HPA.out]
 go_wp2_with fail;go_ret;exact ⟨_,rfl,HFR.out▸HO3.out.sls (by rw [List.length_append,List.length_append,List.length_take,List.length_drop]; simp; have:=HRL.out; omega),OwnS.isP HO3.out (fun b hb=>by have:=HB.out.size; omega),below_then HB.out HU3.out⟩
end Go.Proofs.Ytiekicailidhcaa
