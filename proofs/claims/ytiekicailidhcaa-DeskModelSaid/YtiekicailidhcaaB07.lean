import Derived.Deep.DeepCutAuto
import Derived.Deep.CutBlock
import Derived.Deep.MidRow
import Derived.Test.YtiekicailidhcaaB06
import Derived.Test.YtiekicailidhcaaB03
import Derived.Test.YtiekicailidhcaaB05
import Derived.Test.YtiekicailidhcaaB01
import Derived.Test.YtiekicailidhcaaB02
set_option linter.unusedVariables false
set_option linter.unusedSimpArgs false
namespace Go.Proofs.Ytiekicailidhcaa
open Go.ChangeShapes Go.WideShapes Go.ChangeAt Go.RowKit
set_option maxRecDepth 100000
structure OpInv (w0 w:World) (g:Nat) (cc:Array Value):Prop where
 lt:g<w0.heap.size
 size:w0.heap.size+2≤w.heap.size
 codes:CodesE w g
 grown:w0.grownBy w (some g)
 box:w.heap[w0.heap.size]?=some (.cells cc 29 (0,0))
 res:w.heap[w0.heap.size+1]?=some (.cells zeroOp 44 (0,0))
theorem OpInv.next {w0 w w':World} {g:Nat} {cc:Array Value} (h:OpInv w0 w g cc) (hc:CodesE w' g) (hg:w.grownBy w' (some g)):OpInv w0 w' g cc:=by
 have hs:=h.size;have hl:=h.lt;exact ⟨hl,Nat.le_trans hs hg.size,hc,grownBy_trans h.grown hg,(hg.block _ (by omega) (by simp; omega)).trans h.box,(hg.block _ (by omega) (by simp; omega)).trans h.res⟩
theorem OpInv.start {w:World} {g:Nat} (cc:Array Value) (h:CodesE w g):OpInv w ((w.alloc (.cells cc 29)).alloc (.cells zeroOp 44)) g cc:=by
 have hb:=below_new (below_new (Below.refl w.heap.size w) (.cells cc 29)) (.cells zeroOp 44);exact ⟨h.lt,by simp,h.kept h.lt hb,grown_of_below hb,heap_alloc2_old _ _ _,heap_alloc2_new _ _ _⟩
theorem OpInv.fin {w0 w:World} {g:Nat} {cc:Array Value} (h:OpInv w0 w g cc) (cells:Array Value):CodesE (w.setRow (w0.heap.size+1) cells) g∧w0.grownBy (w.setRow (w0.heap.size+1) cells) (some g):=
 ⟨h.codes.kept (B:=w0.heap.size) h.lt (below_setRow (Below.refl _ w) (by omega) cells),grownBy_of_new h.grown (grownBy_setRow w _ cells) (fun k hk=>by cases hk; omega)⟩
theorem OpN.bare (w:World) (B:Nat) (kd m ch vl d:Int):OpN w B (.agg #[.int .i64 kd,.int .i64 m,.int .i64 ch,.int .u64 vl,.int .i64 d,.slice none 0 0,.slice none 0 0]) ⟨kd,m,ch,vl,d,[],[]⟩:=
 ⟨_,_,rfl,SlC.nil _,SlI.nil _ _,newB.nil _,newB.nil _⟩
set_option maxRecDepth 100000 in
set_option maxHeartbeats 4000000 in
theorem opE (g:Nat) (v:Value) (c:ConfM) (w:World) (h:CodesE w g) (hv:ConfX w g v c) (hc:c.caps.length≤8) :
  Calls Try.prog 19 #[.pointer (some ⟨g,0,none⟩),v] w fun e w'=>∃u op,e=.returned u∧OpN w' w.heap.size u op∧op.good∧CodesE w' g∧w.grownBy w' (some g):=by
 have HX:=Lib.hid hv;obtain ⟨vc,vs,rfl,h1,h2,-⟩:=hv;have ST:=Lib.hid (OpInv.start #[vc,vs,.int .i64 c.threads] h);obtain ⟨a,cap,rfl,-⟩:=h1.len;obtain ⟨a2,cap2,rfl,-⟩:=h2.len;have hlt:=h.lt;clear h1 h2 h;obtain ⟨W,hW⟩:∃W,((w.alloc (.cells #[.slice a c.caps.length cap,.slice a2 c.starts.length cap2,.int .i64 c.threads] 29)).alloc (.cells zeroOp 44))=W:=⟨_,rfl⟩;rw [hW] at ST;have HW:=Lib.hid hW;clear hW;go_enter Try.func19,Try.ntmps19;go_wp2_with fail;rw [show (#[.int .i64 0,.int .i64 0,.int .i64 0,.int .u64 0,.int .i64 0,.slice none 0 0,.slice none 0 0]:Array Value)=zeroOp from rfl,HW.out];clear HW;refine (nextE g 20 _ ST.out.codes (by omega) (by omega)).mono ?_; rintro e w1 ⟨k,rfl,hk0,hk1,hc1,hg1⟩;have hI1:=Lib.hid (ST.out.next hc1 hg1);clear hc1 hg1 ST;obtain ⟨b0,b1,b2⟩:=row3 hI1.out.box;have CHA:=Lib.hid fun w' h h2=>channelE g (.agg #[.slice a c.caps.length cap,.slice a2 c.starts.length cap2,.int .i64 c.threads]) c w' h h2 hc;rcases (show k<7∨(¬k<7∧k<14)∨(¬k<7∧¬k<14∧k<17)∨k=17∨k=18∨k=19 by omega) with h | ⟨h,h'⟩ | ⟨h,h',h''⟩ | rfl | rfl | rfl
 ·skip
  go_wp2_with fail;refine (CHA.out _ hI1.out.codes (HX.out.grown hI1.out.grown)).mono ?_; rintro e w2 ⟨z,rfl,hz0,hz1,hc2,hg2⟩;have hI2:=Lib.hid (hI1.out.next hc2 hg2);clear hc2 hg2;obtain ⟨b0,b1,b2⟩:=row3 hI2.out.box;go_wp2_with fail;refine (valueE g _ hI2.out.codes).mono ?_; rintro e w3 ⟨val,rfl,hval,hc3,hg3⟩;have hI3:=Lib.hid (hI2.out.next hc3 hg3);have HVL:=Lib.hid hval;clear hval hc3 hg3;go_wp2_with fail;refine (modeE g 1 0 z val 0 (.slice none 0 0) (.slice none 0 0) [] [] _ hI3.out.codes (SlC.nil _) (SlI.nil _ _)).mono ?_; rintro e w4 ⟨m,d,rfl,hmd,hc4,hg4⟩;have hI4:=Lib.hid (hI3.out.next hc4 hg4);have HMD:=Lib.hid hmd;clear hmd hc4 hg4;go_wp2_with (refine wpList_store_row rfl 44 _ _ rfl (w.heap.size+1) _ rfl rfl 44 zeroOp hI4.out.res (by kernel_rfl) rfl (all7 rfl rfl) ?_);refine bodyPost_ret (v:=.agg #[.int .i64 1,.int .i64 m,.int .i64 z,.int .u64 val,.int .i64 d,.slice none 0 0,.slice none 0 0]) (results_cell_row Try.results19 _ _ (w.heap.size+1) 44 _ (0,0) _ rfl (setRow_heap _ _ _ _ 44 (0,0) hI4.out.res) Try.underlying44 rfl (by kernel_rfl)) rfl ?_;obtain ⟨f2,f3⟩:=hI4.out.fin #[.int .i64 1,.int .i64 m,.int .i64 z,.int .u64 val,.int .i64 d,.slice none 0 0,.slice none 0 0];exact ⟨_,_,rfl,OpN.bare _ _ 1 m z val d,good_one 1 m z val d (by omega) (by omega) (HMD.out.imp id fun h=>⟨by omega,h⟩) ⟨hz0,hz1⟩ (HVL.out) (.inl rfl),f2,f3⟩
 ·skip
  go_wp2_with fail;refine (CHA.out _ hI1.out.codes (HX.out.grown hI1.out.grown)).mono ?_; rintro e w2 ⟨z,rfl,hz0,hz1,hc2,hg2⟩;have hI2:=Lib.hid (hI1.out.next hc2 hg2);clear hc2 hg2;obtain ⟨b0,b1,b2⟩:=row3 hI2.out.box;go_wp2_with fail;refine (modeE g 2 0 z 0 0 (.slice none 0 0) (.slice none 0 0) [] [] _ hI2.out.codes (SlC.nil _) (SlI.nil _ _)).mono ?_; rintro e w4 ⟨m,d,rfl,hmd,hc4,hg4⟩;have hI4:=Lib.hid (hI2.out.next hc4 hg4);have HMD:=Lib.hid hmd;clear hmd hc4 hg4;go_wp2_with (refine wpList_store_row rfl 44 _ _ rfl (w.heap.size+1) _ rfl rfl 44 zeroOp hI4.out.res (by kernel_rfl) rfl (all7 rfl rfl) ?_);refine bodyPost_ret (v:=.agg #[.int .i64 2,.int .i64 m,.int .i64 z,.int .u64 0,.int .i64 d,.slice none 0 0,.slice none 0 0]) (results_cell_row Try.results19 _ _ (w.heap.size+1) 44 _ (0,0) _ rfl (setRow_heap _ _ _ _ 44 (0,0) hI4.out.res) Try.underlying44 rfl (by kernel_rfl)) rfl ?_;obtain ⟨f2,f3⟩:=hI4.out.fin #[.int .i64 2,.int .i64 m,.int .i64 z,.int .u64 0,.int .i64 d,.slice none 0 0,.slice none 0 0];exact ⟨_,_,rfl,OpN.bare _ _ 2 m z 0 d,good_one 2 m z 0 d (by omega) (by omega) (HMD.out.imp id fun h=>⟨by omega,h⟩) ⟨hz0,hz1⟩ (u64_ok 0 (by omega) (by omega)) (.inr rfl),f2,f3⟩
 ·go_wp2_with fail
  refine (selectE g 4 _ c _ hI1.out.codes (HX.out.grown hI1.out.grown) hc (by omega)).mono ?_; rintro e w2 ⟨u,op,rfl,ho,hgood,hc2,hg2⟩;have hI2:=Lib.hid (hI1.out.next hc2 hg2);have HO:=Lib.hid ho;have HGD:=Lib.hid hgood;obtain ⟨vc2,vd2,rfl,hsc,hsd,-⟩:=ho;obtain ⟨a7,c7,rfl⟩:=hsc.len;obtain ⟨a8,c8,rfl,-⟩:=hsd.len;have hz1:=hI1.out.size;clear hsc hsd hgood hc2 hg2;go_wp2_with (refine wpList_store_row rfl 44 _ _ rfl (w.heap.size+1) _ rfl rfl 44 zeroOp hI2.out.res (by kernel_rfl) rfl (all7 rfl rfl) ?_);refine bodyPost_ret (v:=.agg #[.int .i64 op.kind,.int .i64 op.mode,.int .i64 op.chan,.int .u64 op.val,.int .i64 op.dl,.slice a7 op.cases.length c7,.slice a8 op.draws.length c8]) (results_cell_row Try.results19 _ _ (w.heap.size+1) 44 _ (0,0) _ rfl (setRow_heap _ _ _ _ 44 (0,0) hI2.out.res) Try.underlying44 rfl (by kernel_rfl)) rfl ?_;obtain ⟨f2,f3⟩:=hI2.out.fin #[.int .i64 op.kind,.int .i64 op.mode,.int .i64 op.chan,.int .u64 op.val,.int .i64 op.dl,.slice a7 op.cases.length c7,.slice a8 op.draws.length c8];exact ⟨_,op,rfl,(HO.out.grown (grownBy_setRow w2 (w.heap.size+1) _) (by omega)).mono (by omega),HGD.out,f2,f3⟩
 ·skip
  go_wp2_with fail;refine (CHA.out _ hI1.out.codes (HX.out.grown hI1.out.grown)).mono ?_; rintro e w2 ⟨z,rfl,hz0,hz1,hc2,hg2⟩;have hI2:=Lib.hid (hI1.out.next hc2 hg2);clear hc2 hg2;obtain ⟨b0,b1,b2⟩:=row3 hI2.out.box;go_wp2_with (refine wpList_store_row rfl 44 _ _ rfl (w.heap.size+1) _ rfl rfl 44 zeroOp hI2.out.res (by kernel_rfl) rfl (all7 rfl rfl) ?_);refine bodyPost_ret (v:=.agg #[.int .i64 3,.int .i64 0,.int .i64 z,.int .u64 0,.int .i64 0,.slice none 0 0,.slice none 0 0]) (results_cell_row Try.results19 _ _ (w.heap.size+1) 44 _ (0,0) _ rfl (setRow_heap _ _ _ _ 44 (0,0) hI2.out.res) Try.underlying44 rfl (by kernel_rfl)) rfl ?_;obtain ⟨f2,f3⟩:=hI2.out.fin #[.int .i64 3,.int .i64 0,.int .i64 z,.int .u64 0,.int .i64 0,.slice none 0 0,.slice none 0 0];exact ⟨_,_,rfl,OpN.bare _ _ 3 0 z 0 0,good_one 3 0 z 0 0 (by omega) (by omega) (.inl ⟨rfl,rfl⟩) ⟨hz0,hz1⟩ (u64_ok 0 (by omega) (by omega)) (.inr rfl),f2,f3⟩
 ·skip
  go_wp2_with fail;refine (CHA.out _ hI1.out.codes (HX.out.grown hI1.out.grown)).mono ?_; rintro e w2 ⟨z,rfl,hz0,hz1,hc2,hg2⟩;have hI2:=Lib.hid (hI1.out.next hc2 hg2);clear hc2 hg2;obtain ⟨b0,b1,b2⟩:=row3 hI2.out.box;go_wp2_with (refine wpList_store_row rfl 44 _ _ rfl (w.heap.size+1) _ rfl rfl 44 zeroOp hI2.out.res (by kernel_rfl) rfl (all7 rfl rfl) ?_);refine bodyPost_ret (v:=.agg #[.int .i64 5,.int .i64 0,.int .i64 z,.int .u64 0,.int .i64 0,.slice none 0 0,.slice none 0 0]) (results_cell_row Try.results19 _ _ (w.heap.size+1) 44 _ (0,0) _ rfl (setRow_heap _ _ _ _ 44 (0,0) hI2.out.res) Try.underlying44 rfl (by kernel_rfl)) rfl ?_;obtain ⟨f2,f3⟩:=hI2.out.fin #[.int .i64 5,.int .i64 0,.int .i64 z,.int .u64 0,.int .i64 0,.slice none 0 0,.slice none 0 0];exact ⟨_,_,rfl,OpN.bare _ _ 5 0 z 0 0,good_one 5 0 z 0 0 (by omega) (by omega) (.inl ⟨rfl,rfl⟩) ⟨hz0,hz1⟩ (u64_ok 0 (by omega) (by omega)) (.inr rfl),f2,f3⟩
 ·skip
  go_wp2_with fail;refine (CHA.out _ hI1.out.codes (HX.out.grown hI1.out.grown)).mono ?_; rintro e w2 ⟨z,rfl,hz0,hz1,hc2,hg2⟩;have hI2:=Lib.hid (hI1.out.next hc2 hg2);clear hc2 hg2;obtain ⟨b0,b1,b2⟩:=row3 hI2.out.box;go_wp2_with (refine wpList_store_row rfl 44 _ _ rfl (w.heap.size+1) _ rfl rfl 44 zeroOp hI2.out.res (by kernel_rfl) rfl (all7 rfl rfl) ?_);refine bodyPost_ret (v:=.agg #[.int .i64 6,.int .i64 0,.int .i64 z,.int .u64 0,.int .i64 0,.slice none 0 0,.slice none 0 0]) (results_cell_row Try.results19 _ _ (w.heap.size+1) 44 _ (0,0) _ rfl (setRow_heap _ _ _ _ 44 (0,0) hI2.out.res) Try.underlying44 rfl (by kernel_rfl)) rfl ?_;obtain ⟨f2,f3⟩:=hI2.out.fin #[.int .i64 6,.int .i64 0,.int .i64 z,.int .u64 0,.int .i64 0,.slice none 0 0,.slice none 0 0];exact ⟨_,_,rfl,OpN.bare _ _ 6 0 z 0 0,good_one 6 0 z 0 0 (by omega) (by omega) (.inl ⟨rfl,rfl⟩) ⟨hz0,hz1⟩ (u64_ok 0 (by omega) (by omega)) (.inr rfl),f2,f3⟩
theorem Try.info_wait:(Try.prog.info? 66).map (fun i=>(i.zero,i.size,i.bytes))=some (some (.agg #[.int .i64 0,.int .i64 0,.int .i64 0,.int .i64 0,.int .u64 0,.int .i64 0,.slice none 0 0,.slice none 0 0]),8,96):=by kernel_rfl
structure WtI (wr:World) (g B:Nat) (v:Value) (wl:List WaitM) (rows:List (List Value)):Prop where
 len:rows.length=wl.length
 own:OwnS wr B 66 8 v rows
 row:∀i,i<wl.length→∃vc vd,rows.getD i []=wtL (wat wl i) vc vd∧SlC wr vc (wat wl i).op.cases∧SlI wr .i64 vd (wat wl i).op.draws∧offB g vc∧offB g vd∧∀j,v.ownBlock=some j→offB j vc∧offB j vd
 good:∀i,i<wl.length→(wat wl i).op.good
 gB:g<B
 Bw:B≤wr.heap.size
theorem WtI.draw {wr w2:World} {g B:Nat} {v:Value} {wl:List WaitM} {rows:List (List Value)} (h:WtI wr g B v wl rows) (hg:wr.grownBy w2 (some g)):WtI w2 g B v wl rows:=
 ⟨h.len,h.own.kept hg (h.own.ne h.gB),fun i hi=>by
  obtain ⟨vc,vd,e,h1,h2,h3,h4,h5⟩:=h.row i hi;exact ⟨vc,vd,e,h1.grown hg h3,h2.grown hg h4,h3,h4,h5⟩,h.good,h.gB,Nat.le_trans h.Bw hg.size⟩
theorem WtI.below {wr w2:World} {g B:Nat} {v:Value} {wl:List WaitM} {rows:List (List Value)} (h:WtI wr g B v wl rows) (hb:Below wr.heap.size wr w2):WtI w2 g B v wl rows:=
 ⟨h.len,h.own.below hb,fun i hi=>by
  obtain ⟨vc,vd,e,h1,h2,h3,h4,h5⟩:=h.row i hi;exact ⟨vc,vd,e,h1.below hb,h2.below hb,h3,h4,h5⟩,h.good,h.gB,Nat.le_trans h.Bw hb.size⟩
theorem WtI.slW {wr:World} {g B:Nat} {v:Value} {wl:List WaitM} {rows:List (List Value)} (h:WtI wr g B v wl rows) (hl:wl.length≤1000):SlW wr v wl:=
 ⟨rows,h.len,h.own.sls (by rw [h.len]; omega),fun i hi=>by
  obtain ⟨vc,vd,e,h1,h2,-⟩:=h.row i hi;exact ⟨vc,vd,e,h1,h2⟩⟩
theorem wat_snoc_old (wl:List WaitM) (x:WaitM) (i:Nat) (hi:i<wl.length):wat (wl ++ [x]) i=wat wl i:=by
 unfold wat;rw [List.getD_eq_getElem?_getD,List.getD_eq_getElem?_getD,List.getElem?_append_left hi]
theorem wat_snoc_new (wl:List WaitM) (x:WaitM):wat (wl ++ [x]) wl.length=x:=by
 unfold wat;rw [List.getD_eq_getElem?_getD,List.getElem?_append_right (Nat.le_refl _)];simp
theorem WtI.push {wr u2:World} {g B:Nat} {v v2 vc vd:Value} {wl:List WaitM} {rows:List (List Value)} {x:WaitM} (h:WtI wr g B v wl rows) (hg:wr.grownBy u2 v.ownBlock) (ho:OwnS u2 B 66 8 v2 (rows ++ [wtL x vc vd])) (hn:v2.ownBlock=v.ownBlock∨v2.ownBlock=some wr.heap.size)
  (hx:x.op.good) (hc:SlC wr vc x.op.cases) (hd:SlI wr .i64 vd x.op.draws) (h3:offB g vc) (h4:offB g vd) (h5:∀j,v.ownBlock=some j→offB j vc∧offB j vd):WtI u2 g B v2 (wl ++ [x]) (rows ++ [wtL x vc vd]):=by
 have hkc:∀(vc:Value) (l:List CaseM),SlC wr vc l→(∀j,v.ownBlock=some j→offB j vc)→SlC u2 vc l:=fun vc l hc hj=>by
  cases hv:v.ownBlock with
  | none=>rw [hv] at hg; exact hc.below ((Below.refl wr.heap.size wr).grown hg (Nat.le_refl _) (fun j hj=>by cases hj))
  | some j=>rw [hv] at hg; exact hc.grown hg (hj j hv)
 have hkd:∀(vd:Value) (l:List Int),SlI wr .i64 vd l→(∀j,v.ownBlock=some j→offB j vd)→SlI u2 .i64 vd l:=fun vd l hc hj=>by
  cases hv:v.ownBlock with
  | none=>rw [hv] at hg; exact hc.below ((Below.refl wr.heap.size wr).grown hg (Nat.le_refl _) (fun j hj=>by cases hj))
  | some j=>rw [hv] at hg; exact hc.grown hg (hj j hv)
 have hoff:∀(vc vd:Value) (lc:List CaseM) (ld:List Int),SlC wr vc lc→SlI wr .i64 vd ld→(∀j,v.ownBlock=some j→offB j vc∧offB j vd)→∀j,v2.ownBlock=some j→offB j vc∧offB j vd:=fun vc vd lc ld h1 h2 h6 j hj=>by
  rcases hn with hn | hn
  ·exact h6 j (hn.symm.trans hj)
  ·rw [hn] at hj
   cases hj;exact ⟨h1.offOf (Nat.le_refl _),h2.offOf (Nat.le_refl _)⟩
 refine ⟨by rw [List.length_append,List.length_append,h.len]; rfl,ho,fun i hi=>?_,fun i hi=>?_,h.gB,Nat.le_trans h.Bw hg.size⟩
 ·rw [List.length_append] at hi
  have hi':i<wl.length+1:=hi;by_cases hil:i<wl.length
  ·rw [wat_snoc_old _ _ _ hil]
   obtain ⟨wc,wd,e,k1,k2,k3,k4,k5⟩:=h.row i hil;refine ⟨wc,wd,?_,hkc _ _ k1 (fun j hj=>(k5 j hj).1),hkd _ _ k2 (fun j hj=>(k5 j hj).2),k3,k4,hoff _ _ _ _ k1 k2 k5⟩;rw [List.getD_eq_getElem?_getD,List.getElem?_append_left (by rw [h.len]; exact hil),← List.getD_eq_getElem?_getD];exact e
  ·have he:i=wl.length:=by omega
   subst he;rw [wat_snoc_new];refine ⟨vc,vd,?_,hkc _ _ hc (fun j hj=>(h5 j hj).1),hkd _ _ hd (fun j hj=>(h5 j hj).2),h3,h4,hoff _ _ _ _ hc hd h5⟩;rw [List.getD_eq_getElem?_getD,List.getElem?_append_right (by rw [h.len]; exact Nat.le_refl _),h.len];simp
 ·rw [List.length_append] at hi
  have hi':i<wl.length+1:=hi;by_cases hil:i<wl.length
  ·rw [wat_snoc_old _ _ _ hil]; exact h.good i hil
  ·have he:i=wl.length:=by omega
   subst he;rw [wat_snoc_new]; exact hx
theorem row_below3 {a b:World} {j:Nat} {ob:Obj} (hb:Below a.heap.size a b) (h:a.heap[j]?=some ob):b.heap[j]?=some ob:=(hb.block j (Array.getElem?_eq_some_iff.1 h).1).trans h
def leaveD (d:DeskM) (k:Nat):DeskM:={ d with wait:=d.wait.take k ++ d.wait.drop (k+1) }
theorem getD_erase {α:Type} {l:List α} {k j:Nat} {d:α} (hk:k<l.length):(l.take k ++ l.drop (k+1)).getD j d=if j<k then l.getD j d else l.getD (j+1) d:=by
 have hl:(l.take k).length=k:=by rw [List.length_take]; omega
 by_cases h:j<k
 ·rw [if_pos h,List.getD_eq_getElem?_getD,List.getD_eq_getElem?_getD,List.getElem?_append_left (by omega),List.getElem?_take,if_pos h]
 ·rw [if_neg h,List.getD_eq_getElem?_getD,List.getD_eq_getElem?_getD,List.getElem?_append_right (by omega),List.getElem?_drop,hl,show k+1+(j - k)=j+1 by omega]
theorem SlWX.erase {P:Nat→Prop} {w w':World} {v':Value} {l:List WaitM} {rows:List (List Value)} {k:Nat} (hk:k<l.length) (h1:rows.length=l.length) (h3:∀i,i<l.length→∃vc vd,rows.getD i []=wtL (wat l i) vc vd∧SlC w vc (wat l i).op.cases∧SlI w .i64 vd (wat l i).op.draws∧atP P vc∧atP P vd) (hb:Below w.heap.size w w') (hs:SlS w' 8 v' (rows.take k ++ rows.drop (k+1))) (ha:atP P v'):SlWX P w' v' (l.take k ++ l.drop (k+1)):=by
 have hl:(l.take k ++ l.drop (k+1)).length=l.length - 1:=by simp; omega
 refine ⟨_,by rw [hl]; simp; omega,hs,fun i hi=>?_,ha⟩;rw [hl] at hi;have e:wat (l.take k ++ l.drop (k+1)) i=if i<k then wat l i else wat l (i+1):=getD_erase hk
 rw [e,getD_erase (by rw [h1]; exact hk)];have hd:∀j,j<l.length→∃vc vd,rows.getD j []=wtL (wat l j) vc vd∧SlC w' vc (wat l j).op.cases∧SlI w' .i64 vd (wat l j).op.draws∧atP P vc∧atP P vd:=fun j hj=>by
  obtain ⟨vc,vd,e,k1,k2,k3,k4⟩:=h3 j hj;exact ⟨vc,vd,e,k1.below hb,k2.below hb,k3,k4⟩
 by_cases h:i<k
 ·rw [if_pos h,if_pos h]; exact hd i (by omega)
 ·rw [if_neg h,if_neg h]; exact hd (i+1) (by omega)
theorem own_sh {w:World} {base s:Nat} {e:TypeId} {v:Value} {rows:List (List Value)} (h:OwnS w base e s v rows):∃p n q,v=.slice p n q:=by
 obtain ⟨a,c,rfl⟩:=h.len;exact ⟨_,_,_,rfl⟩
set_option maxRecDepth 100000 in
set_option maxHeartbeats 16000000 in
theorem rleave_any (P:Nat→Prop) (v:Value) (d:DeskM) (i:Nat) (w:World) (h:DeskX P w v d) (hd:d.ok) (hi:i<d.wait.length) (hP:∀b,w.heap.size≤b→P b):Calls Try.prog 43 #[v,.int .i64 (i:Int)] w fun e w'=>∃u,e=.returned u∧DeskX P w' u (leaveD d i)∧Below w.heap.size w w':=by
 obtain ⟨vc,vw,rfl,hch,hwt⟩:=h;obtain ⟨ac,kc,rfl,-⟩:=hch.slH.len;obtain ⟨rows,hrl,hss,hrr,hat⟩:=hwt;have hwl:=hd.wl;obtain ⟨aw,kw,rfl,hkw⟩:=hss.len;obtain ⟨b,off,cap,hve,hbl,-⟩:=hss.open (by omega);simp only [Value.slice.injEq] at hve;obtain ⟨rfl,-,rfl⟩:=hve;have HFIN:Hid (∀w' v' tk,Below w.heap.size w w'→SlS w' 8 v' (rows.take i ++ rows.drop (i+1))→atP P v'→tk=d.tick→DeskX P w' (.agg #[.slice ac d.chans.length kc,v',.int .i64 tk]) (leaveD d i)):=fun w' v' tk hb hs ha ht=>⟨.slice ac d.chans.length kc,v',by rw [ht]; rfl,hch.below hb,SlWX.erase hi hrl hrr hb hs ha⟩;have HSS:=Lib.hid hss;have HP:=Lib.hid hP;have HRI:Hid (i<rows.length∧rows.length≤1000):=⟨by omega,by omega⟩;rw [hrl] at hkw;rw [hrl] at HSS ⊢;obtain ⟨n,hn⟩:∃z,d.wait.length=z:=⟨_,rfl⟩;rw [hn] at HSS hi hkw hwl ⊢;have HN:Hid (rows.length=n):=by show _=_; rw [hrl,hn]
 obtain ⟨cn,hcn⟩:∃z,d.chans.length=z:=⟨_,rfl⟩;obtain ⟨tk,htk⟩:∃z,d.tick=z:=⟨_,rfl⟩;have HF2:=Lib.hid fun w' v' h1 h2 h3=>HFIN.out w' v' tk h1 h2 h3 htk.symm;rw [hcn] at HF2 ⊢;rw [htk];clear HFIN hch hss hrr hat hd hrl hn hcn htk hP;obtain ⟨W,hW,HB,R0,R1,hz⟩:=two_new w (.cells #[.slice ac cn kc,.slice (some ⟨b,off,none⟩) n kw,.int .i64 tk] 34) (.cells #[.slice none 0 0,.slice none 0 0,.int .i64 0] 34);have HW:=Lib.hid hW;clear hW;go_enter Try.func43,Try.ntmps43;go_upto_region 1 with fail
 rw [HW.out];clear HW;obtain ⟨x0_0,x0_1,x0_2⟩:=rowc3 R0.out;have KS:Hid (∀w',Below W.heap.size W w'→(fun w':World=>w'.cell? ⟨w.heap.size,1,none⟩=some (.slice (some ⟨b,off,none⟩) n kw)) w'):=fun w' hb=>(rowc3 (row_below3 hb R0.out)).2.1;have hw1:IntKind.i64.wrap ((i:Int)+1)=(i:Int)+1:=(i64_small _ (by omega) (by omega)).symm;have hi1:(i:Int)+1≤(n:Int):=by omega
 have hi0:0≤(i:Int)+1:=by omega
 have hik:i≤kw:=by omega
 have hin:i≤n:=by omega
 have hik1:i+1≤kw:=by omega
 have hin1:i+1≤n:=by omega
 have hI1:((i:Int)+1).toNat=i+1:=by omega
 obtain ⟨pa,hpa⟩:∃z:Option Addr,(if kw=i+1 then some ⟨b,off,none⟩ else some ⟨b,off+(i+1) * 8,none⟩)=z:=⟨_,rfl⟩;have HPA:=Lib.hid hpa;have hwz:w.heap.size<W.heap.size:=by omega
 clear x0_0 x0_1 x0_2 hpa;refine untilK KS 12 13 (by kernel_rfl) rfl ?_;obtain ⟨u0,hu0,HU0⟩:=drew_pack W;rw [hu0];clear hu0;have hSU0:=KS.out _ HU0.out;apply tkV 0 hSU0 rfl (by kernel_rfl) (fun _ _ _ h=>h) rfl;intro w hSw;(go_simp<;>with_reducible rfl);simp only [J0,J1,J2,J3,J4];apply tkV 1 hSU0 rfl (by kernel_rfl) (fun _ _ _ h=>h) rfl;intro w hSw;(go_simp<;>with_reducible rfl);simp only [J0,J1,J2,J3,J4];apply tkV 2 hSU0 rfl (by kernel_rfl) (fun _ _ _ h=>h) rfl;intro w hSw;(go_simp<;>with_reducible rfl);simp only [J0,J1,J2,J3,J4];apply tkV 3 hSU0 rfl (by kernel_rfl) (fun _ _ _ h=>h) rfl;intro w hSw;(go_simp<;>with_reducible rfl);simp only [J0,J1,J2,J3,J4];apply tkV 5 hSU0 rfl (by kernel_rfl) (fun _ _ _ h=>h) rfl;intro w hSw;(go_simp<;>with_reducible rfl);simp only [J0,J1,J2,J3,J4];apply tkV 6 hSU0 rfl (by kernel_rfl) (fun _ _ _ h=>h) rfl;intro w hSw;(go_simp<;>with_reducible rfl);simp only [J0,J1,J2,J3,J4];apply tkV 7 hSU0 rfl (by kernel_rfl) (fun _ _ _ h=>h) rfl;intro w hSw;(go_simp<;>with_reducible rfl);simp only [J0,J1,J2,J3,J4];apply tkV 8 hSU0 rfl (by kernel_rfl) (fun _ _ _ h=>h) rfl;intro w hSw;(go_simp<;>with_reducible rfl);simp only [J0,J1,J2,J3,J4];apply tkV 9 hSU0 rfl (by kernel_rfl) (fun _ _ _ h=>h) rfl;intro w hSw;(go_simp<;>with_reducible rfl);simp only [J0,J1,J2,J3,J4];refine consU 4 rfl (by kernel_rfl) rfl fun K hK=>?_;refine step_app_ss (w:=u0) 32 (by kernel_rfl) Try.info_wait rfl (by decide) (by decide) (by rfl) _ _ (by rfl) (v0:=.slice none 0 0) (base:=W.heap.size) (by rfl) (by rfl) (OwnS.nil _ _ _ _) (((HSS.out.below (below_then HB.out HU0.out))).take i (by have:=HRI.out; omega)) (by rw [List.length_take]; have:=HRI.out; simp; omega) (by have:=HU0.out.size; omega) ?_;intro v1 u1 ho1 hg1 hn1;rw [List.nil_append] at ho1;obtain ⟨p1,n1,k1,rfl⟩:=own_sh ho1;have HO1:=Lib.hid ho1;have HU1:Hid (Below W.heap.size W u1):=HU0.out.grown hg1 (by have:=HU0.out.size; omega) (fun k hk=>by cases hk);clear ho1 hg1 hn1;refine hK.out _ _ ?_ fun hSU1=>?_;exact KS.out _ HU1.out
 clear hK K hSU0;(try simp only [J0,J1,J2,J3,J4]);refine consU 10 rfl (by kernel_rfl) rfl fun K hK=>?_;have HSD:=Lib.hid ((HSS.out.below (below_then HB.out HU1.out)).drop (i+1) (by have:=HRI.out; omega) HPA.out.symm);refine step_app_ss (w:=u1) 32 (by kernel_rfl) Try.info_wait rfl (by decide) (by decide) (by rfl) _ _ (by rfl) (v0:=.slice p1 n1 k1) (base:=W.heap.size) (by rfl) (by rw [← HPA.out]; rfl) HO1.out HSD.out (by rw [List.length_take,List.length_drop]; have:=HRI.out; omega) (by have:=HU1.out.size; omega) ?_;intro v2 u2 ho2 hg2 hn2;obtain ⟨p2,n2,k2,rfl⟩:=own_sh ho2;have HO2:=Lib.hid ho2;have HU2:Hid (Below W.heap.size W u2):=HU1.out.grown hg2 (by have:=HU1.out.size; omega) (fun k hk=>(HO1.out.lt k hk).1);clear ho2 hg2 hn2 HSD;refine hK.out _ _ ?_ fun hSU2=>?_;exact KS.out _ HU2.out;clear hK K hSU1;(try simp only [J0,J1,J2,J3,J4]);apply tkV 11 hSU2 rfl (by kernel_rfl) (fun _ _ _ h=>h) rfl;intro w hSw;(go_simp<;>with_reducible rfl);simp only [J0,J1,J2,J3,J4];refine freeU 12 rfl (by kernel_rfl) rfl (by kernel_rfl) fun K hK=>?_;have R02:=Lib.hid ((HU2.out.block _ (show w.heap.size<W.heap.size by omega)).trans R0.out);have R12:=Lib.hid ((HU2.out.block _ (show w.heap.size+1<W.heap.size by omega)).trans R1.out);have fz:=frozen_of_row u2 w.heap.size 1 _ _ R02.out;obtain ⟨r0,r1,r2⟩:=rowc3 R02.out;go_simp;clear r0 r1 r2 fz;refine hK.out _ _ ?_;clear hK K hSU2;(try simp only [J0,J1,J2,J3,J4]);refine wpAnyU_done (by kernel_rfl) ?_ _;have r1:=heap_setCell_same u2 w.heap.size 1 _ _ (.slice p2 n2 k2) R02.out;simp at r1;have R03:=Lib.hid r1;have R13:=Lib.hid ((heap_setCell_other u2 ⟨w.heap.size,1,none⟩ (w.heap.size+1) (.slice p2 n2 k2) (by show w.heap.size+1≠w.heap.size; omega)).trans R12.out);have HB3:=Lib.hid ((below_then HB.out HU2.out).setCell (p:=⟨w.heap.size,1,none⟩) (Nat.le_refl _) (.slice p2 n2 k2));have HSF:Hid (SlS (u2.setCell ⟨w.heap.size,1,none⟩ (.slice p2 n2 k2)) 8 (.slice p2 n2 k2) (rows.take i ++ rows.drop (i+1))):=(HO2.out.kept (grownBy_setCell u2 ⟨w.heap.size,1,none⟩ (.slice p2 n2 k2)) (HO2.out.ne (by omega))).sls (by rw [List.length_append,List.length_take,List.length_drop]; have:=HRI.out; omega)
 have HAT:Hid (atP P (.slice p2 n2 k2)):=OwnS.isP HO2.out (fun b hb=>HP.out b (by omega));obtain ⟨w3,hw3⟩:∃w3,u2.setCell ⟨w.heap.size,1,none⟩ (.slice p2 n2 k2)=w3:=⟨_,rfl⟩;rw [hw3] at R03 R13 HB3 HSF;rw [hw3];try rw [HPA.out]
 clear hw3 r1;obtain ⟨x0,x1,x2⟩:=rowc3 R03.out;go_wp2_with (refine wpList_store_row rfl 34 _ _ rfl (w.heap.size+1) _ rfl rfl 34 _ R13.out (by kernel_rfl) rfl (by simp [Value.oneCell']) ?_);refine bodyPost_ret (v:=.agg #[.slice ac cn kc,.slice p2 n2 k2,.int .i64 tk]) (results_cell_row Try.results43 _ _ (w.heap.size+1) 34 _ (0,0) _ rfl (setRow_heap _ _ _ _ 34 (0,0) R13.out) Try.underlying34 rfl (by kernel_rfl)) rfl ?_;have hB4:=row_below HB3.out (show w.heap.size≤w.heap.size+1 by omega) #[.slice ac cn kc,.slice p2 n2 k2,.int .i64 tk];exact ⟨_,rfl,HF2.out _ _ hB4 (HSF.out.off (row_grown w3 (w.heap.size+1) #[.slice ac cn kc,.slice p2 n2 k2,.int .i64 tk]) (OwnS.isP (P:=fun b=>W.heap.size≤b) HO2.out (fun b hb=>hb)) (fun b hb e=>by omega)) HAT.out,hB4⟩
theorem Try.info_done:(Try.prog.info? 75).map (fun i=>(i.zero,i.size,i.bytes))=some (some (.agg #[.int .i64 0,.int .i64 0,.int .i64 0,.int .u64 0,.bool false,.int .i64 0]),6,48):=by kernel_rfl
def addK (l:List DoneM) (thr:Int):Nat→Nat
 | 0=>0
 | k+1=>if thr<(l.getD k doneZ).thr then addK l thr k else k+1
theorem addK_le (l:List DoneM) (thr:Int):∀k,addK l thr k≤k
 | 0=>Nat.le_refl _
 | k+1=>by
  unfold addK;split
  ·exact Nat.le_succ_of_le (addK_le l thr k)
  ·exact Nat.le_refl _
def addE (l:List DoneM) (thr:Int) (r:ResM):List DoneM:=l.take (addK l thr l.length) ++ [⟨thr,r⟩] ++ l.drop (addK l thr l.length)
theorem addE_ne (l:List DoneM) (thr:Int) (r:ResM):addE l thr r≠[]:=by unfold addE; simp
theorem addE_len (l:List DoneM) (thr:Int) (r:ResM):(addE l thr r).length=l.length+1:=by
 have:=addK_le l thr l.length;unfold addE;simp;omega
theorem addE_rows (l:List DoneM) (thr:Int) (r:ResM):doneRows (addE l thr r)=(doneRows l).take (addK l thr l.length) ++ [doneL ⟨thr,r⟩] ++ (doneRows l).drop (addK l thr l.length):=by
 unfold addE doneRows;rw [List.map_append,List.map_append,List.map_take,List.map_drop];rfl
theorem SlS.done {w:World} {v:Value} {l:List DoneM} (h:SlS w 6 v (doneRows l)) (i:Nat) (hi:i<l.length) {x:DoneM} (hx:l.getD i doneZ=x):∃b off cap,v=.slice (some ⟨b,off,none⟩) l.length cap∧b<w.heap.size∧w.cell? ⟨b,off+i * 6,none⟩=some (.int .i64 x.thr)∧w.cell? ⟨b,off+i * 6+1,none⟩=some (.int .i64 x.res.kind)∧w.cell? ⟨b,off+i * 6+2,none⟩=some (.int .i64 x.res.case)∧w.cell? ⟨b,off+i * 6+3,none⟩=some (.int .u64 x.res.val)∧w.cell? ⟨b,off+i * 6+4,none⟩=some (.bool x.res.ok)∧w.cell? ⟨b,off+i * 6+5,none⟩=some (.int .i64 x.res.num):=by
 have hl:=doneRows_length l;obtain ⟨b,off,cap,rfl,hb,hc⟩:=h.open (by omega);have h5:=hc i (by omega);rw [doneRows_get l i hi,hx] at h5;exact ⟨b,off,cap,by rw [hl],hb,h5 0 _ rfl,h5 1 _ rfl,h5 2 _ rfl,h5 3 _ rfl,h5 4 _ rfl,h5 5 _ rfl⟩
set_option maxRecDepth 100000 in
set_option maxHeartbeats 16000000 in
theorem radd_any (v:Value) (l:List DoneM) (thr:Int) (r:ResM) (w:World) (h:SlS w 6 v (doneRows l)) (hl:l.length≤10000) (hv:v=.slice none 0 0∨l≠[]):Calls Try.prog 44 #[v,.int .i64 thr,resW r] w fun e w'=>∃u,e=.returned u∧SlS w' 6 u (doneRows (addE l thr r))∧atP (fun b=>w.heap.size≤b) u∧Below w.heap.size w w':=by
 obtain ⟨rE,hrE⟩:∃z,doneRows (addE l thr r)=z:=⟨_,rfl⟩;rw [hrE];rw [addE_rows] at hrE;obtain ⟨k1,k2,k3,k4,k5⟩:=r;unfold resW;dsimp only;have hrE2:(doneRows l).take (addK l thr l.length) ++ [[.int .i64 thr,.int .i64 k1,.int .i64 k2,.int .u64 k3,.bool k4,.int .i64 k5]] ++ (doneRows l).drop (addK l thr l.length)=rE:=hrE;clear hrE;by_cases hne:l=[]
 ·subst hne
  have hvn:v=.slice none 0 0:=by
   rcases hv with h | h
   ·exact h
   ·exact absurd rfl h
  subst hvn;have HFR:Hid (([] ++ [[.int .i64 thr,.int .i64 k1,.int .i64 k2,.int .u64 k3,.bool k4,.int .i64 k5]] ++ []:List (List Value))=rE):=hrE2;clear h hv hrE2 hl;obtain ⟨W,hW,HB,R0,hz⟩:=one_new w (.cells #[.int .i64 k1,.int .i64 k2,.int .u64 k3,.bool k4,.int .i64 k5] 73);have HW:=Lib.hid hW;clear hW;go_enter Try.func44,Try.ntmps44;go_upto_region 1 with fail
  rw [HW.out];clear HW;obtain ⟨x0_0,x0_1,x0_2,x0_3,x0_4⟩:=rowc5 R0.out;go_upto_block 0 with fail
  go_cut [7] (fun s7 wx=>s7=.int .i64 0∧Hid (wx=W))
  case first=>
   go_wp2_with fail;go_loopw [7] (fun u7 wr=>u7=.int .i64 0∧Hid (wr=W)) (fun u7 _=>0)
   case atStart=>exact ⟨rfl,rfl⟩
   case round=>
    obtain ⟨rfl,HWr⟩:=hrel;obtain ⟨wo,rfl⟩:∃wo:World,wo=wr:=⟨_,rfl⟩;go_wp2_with fail;go_meet;exact ⟨rfl,HWr⟩
  case rest=>
  obtain ⟨rfl,hwc⟩:=hcut;have hw9:=hwc.out;clear hwc;have hw10:W=wc:=hw9.symm;clear hw9;subst hw10;obtain ⟨v1,w1,hrun,ho1,hg1,-⟩:=run_app_ss W 37 37 (by kernel_rfl) Try.info_done rfl (by decide) (by decide) (OwnS.nil W W.heap.size 75 6) (SlS.nil W 6) (by simp) (Nat.le_refl _);rw [List.nil_append] at ho1;obtain ⟨p1,n1,q1,rfl⟩:=own_sh ho1;have HRUN:=Lib.hid hrun;have HO1:=Lib.hid ho1;have HB1:Hid (Below W.heap.size W w1):=(Below.refl W.heap.size W).grown hg1 (Nat.le_refl _) (fun k hk=>by cases hk);have R01:=Lib.hid (row_below3 HB1.out R0.out);clear hrun ho1 hg1 x0_0 x0_1 x0_2 x0_3 x0_4;go_upto_region 5 with (at_builtin; refine Lib.wpList_append_run _ rfl _ _ _ _ rfl _ _ rfl rfl _ _ HRUN.out ?_)
  clear HRUN;have KS:Hid (∀w',Below w1.heap.size w1 w'→(fun w':World=>w'.cell? ⟨w.heap.size,0,none⟩=some (.int .i64 k1)∧w'.cell? ⟨w.heap.size,1,none⟩=some (.int .i64 k2)∧w'.cell? ⟨w.heap.size,2,none⟩=some (.int .u64 k3)∧w'.cell? ⟨w.heap.size,3,none⟩=some (.bool k4)∧w'.cell? ⟨w.heap.size,4,none⟩=some (.int .i64 k5)) w'):=fun w' hb=>rowc5 (row_below3 hb R01.out);refine untilK KS 10 11 (by kernel_rfl) rfl ?_;obtain ⟨u0,hu0,HU0⟩:=drew_pack w1;rw [hu0];clear hu0;have hSU0:=KS.out _ HU0.out;apply tkV 0 hSU0 rfl (by kernel_rfl) (fun _ _ _ h=>h) rfl;intro w hSw;(go_simp<;>with_reducible rfl);simp only [J0,J1,J2,J3,J4];apply tkV 1 hSU0 rfl (by kernel_rfl) (fun _ _ _ h=>h) rfl;intro w hSw;(go_simp<;>with_reducible rfl);simp only [J0,J1,J2,J3,J4];apply tkV 2 hSU0 rfl (by kernel_rfl) (fun _ _ _ h=>h) rfl;intro w hSw;(go_simp<;>with_reducible rfl);simp only [J0,J1,J2,J3,J4];apply tkV 3 hSU0 rfl (by kernel_rfl) (fun _ _ _ h=>h) rfl;intro w hSw;(go_simp<;>with_reducible rfl);simp only [J0,J1,J2,J3,J4];apply tkV 6 hSU0 rfl (by kernel_rfl) (fun _ _ _ h=>h) rfl;intro w hSw;(go_simp<;>with_reducible rfl);simp only [J0,J1,J2,J3,J4];apply tkV 7 hSU0 rfl (by kernel_rfl) (fun _ _ _ h=>h) rfl;intro w hSw;(go_simp<;>with_reducible rfl);simp only [J0,J1,J2,J3,J4];apply tkV 8 hSU0 rfl (by kernel_rfl) (fun _ _ _ h=>h) rfl;intro w hSw;(go_simp<;>with_reducible rfl);simp only [J0,J1,J2,J3,J4];refine consU 4 rfl (by kernel_rfl) rfl fun K hK=>?_;go_simp;obtain ⟨u1,nb,hv1,hX1,RN,hbn,ltn⟩:=alloc_pack u0 (.cells #[.int .i64 thr,.int .i64 k1,.int .i64 k2,.int .u64 k3,.bool k4,.int .i64 k5] 75);rw [hv1,hX1];have HU1:=Lib.hid (below_then HU0.out hbn.out);clear hv1 hX1 hbn ltn;refine hK.out _ _ ?_ fun hSU1=>?_;exact KS.out _ HU1.out;clear hK K hSU0;(try simp only [J0,J1,J2,J3,J4]);refine consU 5 rfl (by kernel_rfl) rfl fun K hK=>?_;refine step_append_s (w:=u1) 37 (by kernel_rfl) Try.info_done rfl (by decide) (by decide) (by rfl) _ _ (by rfl) (by rfl) (HO1.out.below HU1.out) [.int .i64 thr,.int .i64 k1,.int .i64 k2,.int .u64 k3,.bool k4,.int .i64 k5] rfl (by intro u hu; simp only [List.mem_cons,List.not_mem_nil,or_false] at hu; rcases hu with rfl | rfl | rfl | rfl | rfl | rfl <;> rfl) nb (by rfl) RN.out (by simp) (by have:=HB1.out.size; have:=HU1.out.size; omega) ?_
  intro v2 u2 ho2 hg2 hn2;obtain ⟨p2,n2,q2,rfl⟩:=own_sh ho2;have HO2:=Lib.hid ho2;have HU2:Hid (Below W.heap.size W u2):=(below_then HB1.out HU1.out).grown hg2 (by have:=HB1.out.size; have:=HU1.out.size; omega) (fun k hk=>(HO1.out.lt k hk).1);have R02:=Lib.hid (row_below3 HU2.out R0.out);clear ho2 hg2 hn2;refine hK.out _ _ ?_ fun hSU2=>?_;exact rowc5 R02.out;clear hK K hSU1;(try simp only [J0,J1,J2,J3,J4]);refine consU 9 rfl (by kernel_rfl) rfl fun K hK=>?_;refine step_app_ss (w:=u2) 37 (by kernel_rfl) Try.info_done rfl (by decide) (by decide) (by rfl) _ _ (by rfl) (v0:=.slice p2 n2 q2) (base:=W.heap.size) (by rfl) (by rfl) HO2.out (SlS.nil u2 6) (by simp) (by have:=HU2.out.size; omega) ?_;intro v3 u3 ho3 hg3 hn3;obtain ⟨p3,n3,q3,rfl⟩:=own_sh ho3;have HO3:=Lib.hid ho3;have HU3:Hid (Below W.heap.size W u3):=HU2.out.grown hg3 (by have:=HU2.out.size; omega) (fun k hk=>(HO2.out.lt k hk).1);have R03:=Lib.hid (row_below3 HU3.out R0.out);clear ho3 hg3 hn3;refine hK.out _ _ ?_ fun hSU3=>?_;exact rowc5 R03.out;clear hK K hSU2;(try simp only [J0,J1,J2,J3,J4]);refine freeU 10 rfl (by kernel_rfl) rfl (by kernel_rfl) fun K hK=>?_;go_simp;refine hK.out _ _ ?_;clear hK K hSU3;(try simp only [J0,J1,J2,J3,J4]);refine wpAnyU_done (by kernel_rfl) ?_ _;go_wp2_with fail;go_ret;exact ⟨_,rfl,HFR.out▸HO3.out.sls (by simp),OwnS.isP HO3.out (fun b hb=>by have:=HB.out.size; omega),below_then HB.out HU3.out⟩
 obtain ⟨b,off,kd,hve,hbl,-⟩:=h.open (by rw [doneRows_length]; exact List.length_pos_iff.2 hne);rw [doneRows_length] at hve;subst hve;have HSS:=Lib.hid h;have HCE:Hid (∀w',Below w.heap.size w w'→∀i,i<l.length→w'.cell? ⟨b,off+i * 6,none⟩=some (.int .i64 (l.getD i doneZ).thr)):=fun w' hb i hi=>by
  obtain ⟨b2,off2,cap2,e2,-,c0,-⟩:=(h.below hb).done i hi rfl;simp only [Value.slice.injEq,Option.some.injEq,Addr.mk.injEq] at e2;obtain ⟨⟨rfl,rfl,-⟩,-,-⟩:=e2;exact c0
 have HAK:Hid (∀k,k+1≤l.length→addK l thr (k+1)=if thr<(l.getD k doneZ).thr then addK l thr k else k+1):=fun k _=>rfl;have HRL:Hid ((doneRows l).length=l.length):=doneRows_length l;have HRR:Hid (doneRows l=doneRows l):=rfl;obtain ⟨rows,hrows⟩:∃z,doneRows l=z:=⟨_,rfl⟩;rw [hrows] at HSS HRL hrE2;have hkc:l.length≤kd:=by
  obtain ⟨-,-,a',cap',e2,h9,-⟩:=HSS.out;simp only [Value.slice.injEq] at e2;rw [HRL.out] at h9;omega
 have HFR0:=Lib.hid hrE2;obtain ⟨n,hn⟩:∃z,l.length=z:=⟨_,rfl⟩;rw [hn] at HSS HCE HAK HRL HFR0 hkc hl ⊢;clear h hv hrE2 hne hrows HRR hn;obtain ⟨W,hW,HB,R0,hz⟩:=one_new w (.cells #[.int .i64 k1,.int .i64 k2,.int .u64 k3,.bool k4,.int .i64 k5] 73);have HW:=Lib.hid hW;clear hW;go_enter Try.func44,Try.ntmps44;go_upto_region 1 with fail
 rw [HW.out];clear HW;obtain ⟨x0_0,x0_1,x0_2,x0_3,x0_4⟩:=rowc5 R0.out;go_upto_block 0 with fail
 go_cut [7] (fun s7 wx=>∃kk:Nat,s7=.int .i64 kk∧Hid (kk=addK l thr n)∧kk≤n∧Hid (wx=W))
 case first=>
  go_wp2_with fail;go_loopw [7] (fun u7 wr=>∃k:Nat,u7=.int .i64 k∧k≤n∧Hid (addK l thr k=addK l thr n)∧Hid (wr=W)) (fun u7 _=>(intOf u7).toNat)
  case atStart=>exact ⟨n,rfl,Nat.le_refl _,rfl,rfl⟩
  case round=>
   obtain ⟨k,rfl,hk,HKK,HWr⟩:=hrel;obtain ⟨wo,rfl⟩:∃wo:World,wo=wr:=⟨_,rfl⟩;have hw:=HWr.out;clear HWr;subst hw;cases k with
   | zero=>
    have HK0:Hid (0=addK l thr n):=HKK.out;go_wp2_with fail;go_meet;exact ⟨0,rfl,HK0,by omega,rfl⟩
   | succ k=>
    have c0:=HCE.out _ HB.out k (by omega);obtain ⟨z,hz⟩:∃z,(l.getD k doneZ).thr=z:=⟨_,rfl⟩;have HA2:=Lib.hid (HAK.out k hk);rw [hz] at c0 HA2;have hk0:(0:Int)<((k+1:Nat):Int):=by omega
    have hks:(((k+1:Nat):Int) - 1)=(k:Int):=by omega
    have hksw:IntKind.i64.wrap ((k:Int)+1 - 1)=(k:Int):=by rw [show (k:Int)+1 - 1=(k:Int) by omega]; exact (i64_small _ (by omega) (by omega)).symm
    have hkI:(k:Int)<(n:Int):=by omega
    clear hz;by_cases hzz:thr<z
    ·have HA3:Hid (addK l thr k=addK l thr n):=by show _=_; rw [← HKK.out,HA2.out,if_pos hzz]
     have hzg:z > thr:=hzz;clear HA2;go_wp2_with fail;go_roundw
     case rel=>exact ⟨k,by go_num,by omega,HA3,Lib.hid trivial⟩
     case measure=>first | (simp [intOf]; done) | (simp [intOf]; omega)
    ·have HA3:Hid (k+1=addK l thr n):=by show _=_; rw [← HKK.out,HA2.out,if_neg hzz]
     have hzg:¬z > thr:=hzz;clear HA2;go_wp2_with fail;go_meet;exact ⟨k+1,by go_num,HA3,hk,rfl⟩
 case rest=>
 obtain ⟨kk,rfl,hkk,hkn,hwc⟩:=hcut;have hw10:W=wc:=hwc.out.symm;clear hwc;subst hw10;have HFR:Hid (rows.take kk ++ [[.int .i64 thr,.int .i64 k1,.int .i64 k2,.int .u64 k3,.bool k4,.int .i64 k5]] ++ rows.drop kk=rE):=by show _=_; rw [hkk.out]; exact HFR0.out
 have hknI:(kk:Int)≤(n:Int):=by omega
 have hkdc:kk≤kd:=by omega
 obtain ⟨pa,hpa⟩:∃z:Option Addr,(if kd=kk then some ⟨b,off,none⟩ else some ⟨b,off+kk * 6,none⟩)=z:=⟨_,rfl⟩;have HPA:=Lib.hid hpa;clear hpa hkk HFR0 HAK HCE;obtain ⟨v1,w1,hrun,ho1,hg1,-⟩:=run_app_ss W 37 37 (by kernel_rfl) Try.info_done rfl (by decide) (by decide) (OwnS.nil W W.heap.size 75 6) (((HSS.out.below HB.out).take kk (by rw [HRL.out]; exact hkn))) (by rw [List.length_take]; simp; have:=HRL.out; omega) (Nat.le_refl _);rw [List.nil_append] at ho1;obtain ⟨p1,n1,q1,rfl⟩:=own_sh ho1;have HRUN:=Lib.hid hrun;have HO1:=Lib.hid ho1;have HB1:Hid (Below W.heap.size W w1):=(Below.refl W.heap.size W).grown hg1 (Nat.le_refl _) (fun k hk=>by cases hk);have R01:=Lib.hid (row_below3 HB1.out R0.out);clear hrun ho1 hg1 x0_0 x0_1 x0_2 x0_3 x0_4;go_upto_region 5 with (at_builtin; refine Lib.wpList_append_run _ rfl _ _ _ _ rfl _ _ rfl rfl _ _ HRUN.out ?_)
 clear HRUN;have KS:Hid (∀w',Below w1.heap.size w1 w'→(fun w':World=>w'.cell? ⟨w.heap.size,0,none⟩=some (.int .i64 k1)∧w'.cell? ⟨w.heap.size,1,none⟩=some (.int .i64 k2)∧w'.cell? ⟨w.heap.size,2,none⟩=some (.int .u64 k3)∧w'.cell? ⟨w.heap.size,3,none⟩=some (.bool k4)∧w'.cell? ⟨w.heap.size,4,none⟩=some (.int .i64 k5)) w'):=fun w' hb=>rowc5 (row_below3 hb R01.out);refine untilK KS 10 11 (by kernel_rfl) rfl ?_;obtain ⟨u0,hu0,HU0⟩:=drew_pack w1;rw [hu0];clear hu0;have hSU0:=KS.out _ HU0.out;apply tkV 0 hSU0 rfl (by kernel_rfl) (fun _ _ _ h=>h) rfl;intro w hSw;(go_simp<;>with_reducible rfl);simp only [J0,J1,J2,J3,J4];apply tkV 1 hSU0 rfl (by kernel_rfl) (fun _ _ _ h=>h) rfl;intro w hSw;(go_simp<;>with_reducible rfl);simp only [J0,J1,J2,J3,J4];apply tkV 2 hSU0 rfl (by kernel_rfl) (fun _ _ _ h=>h) rfl;intro w hSw;(go_simp<;>with_reducible rfl);simp only [J0,J1,J2,J3,J4];apply tkV 3 hSU0 rfl (by kernel_rfl) (fun _ _ _ h=>h) rfl;intro w hSw;(go_simp<;>with_reducible rfl);simp only [J0,J1,J2,J3,J4];apply tkV 6 hSU0 rfl (by kernel_rfl) (fun _ _ _ h=>h) rfl;intro w hSw;(go_simp<;>with_reducible rfl);simp only [J0,J1,J2,J3,J4];apply tkV 7 hSU0 rfl (by kernel_rfl) (fun _ _ _ h=>h) rfl;intro w hSw;(go_simp<;>with_reducible rfl);simp only [J0,J1,J2,J3,J4];apply tkV 8 hSU0 rfl (by kernel_rfl) (fun _ _ _ h=>h) rfl;intro w hSw;(go_simp<;>with_reducible rfl);simp only [J0,J1,J2,J3,J4];refine consU 4 rfl (by kernel_rfl) rfl fun K hK=>?_;go_simp;obtain ⟨u1,nb,hv1,hX1,RN,hbn,ltn⟩:=alloc_pack u0 (.cells #[.int .i64 thr,.int .i64 k1,.int .i64 k2,.int .u64 k3,.bool k4,.int .i64 k5] 75);rw [hv1,hX1];have HU1:=Lib.hid (below_then HU0.out hbn.out);clear hv1 hX1 hbn ltn;refine hK.out _ _ ?_ fun hSU1=>?_;exact KS.out _ HU1.out;clear hK K hSU0;(try simp only [J0,J1,J2,J3,J4]);refine consU 5 rfl (by kernel_rfl) rfl fun K hK=>?_;refine step_append_s (w:=u1) 37 (by kernel_rfl) Try.info_done rfl (by decide) (by decide) (by rfl) _ _ (by rfl) (by rfl) (HO1.out.below HU1.out) [.int .i64 thr,.int .i64 k1,.int .i64 k2,.int .u64 k3,.bool k4,.int .i64 k5] rfl (by intro u hu; simp only [List.mem_cons,List.not_mem_nil,or_false] at hu; rcases hu with rfl | rfl | rfl | rfl | rfl | rfl <;> rfl) nb (by rfl) RN.out (by rw [List.length_take]; have:=HRL.out; omega) (by have:=HB1.out.size; have:=HU1.out.size; omega) ?_
 intro v2 u2 ho2 hg2 hn2;obtain ⟨p2,n2,q2,rfl⟩:=own_sh ho2;have HO2:=Lib.hid ho2;have HU2:Hid (Below W.heap.size W u2):=(below_then HB1.out HU1.out).grown hg2 (by have:=HB1.out.size; have:=HU1.out.size; omega) (fun k hk=>(HO1.out.lt k hk).1);have R02:=Lib.hid (row_below3 HU2.out R0.out);clear ho2 hg2 hn2;refine hK.out _ _ ?_ fun hSU2=>?_;exact rowc5 R02.out;clear hK K hSU1;(try simp only [J0,J1,J2,J3,J4]);refine consU 9 rfl (by kernel_rfl) rfl fun K hK=>?_;have HSD:=Lib.hid ((HSS.out.below (below_then HB.out HU2.out)).drop kk (by rw [HRL.out]; exact hkn) HPA.out.symm);refine step_app_ss (w:=u2) 37 (by kernel_rfl) Try.info_done rfl (by decide) (by decide) (by rfl) _ _ (by rfl) (v0:=.slice p2 n2 q2) (base:=W.heap.size) (by rfl) (by rw [← HPA.out]; rfl) HO2.out (HSD.out) (by rw [List.length_append,List.length_take,List.length_drop]; simp; have:=HRL.out; omega) (by have:=HU2.out.size; omega) ?_;intro v3 u3 ho3 hg3 hn3;obtain ⟨p3,n3,q3,rfl⟩:=own_sh ho3;have HO3:=Lib.hid ho3;have HU3:Hid (Below W.heap.size W u3):=HU2.out.grown hg3 (by have:=HU2.out.size; omega) (fun k hk=>(HO2.out.lt k hk).1);have R03:=Lib.hid (row_below3 HU3.out R0.out);clear ho3 hg3 hn3;refine hK.out _ _ ?_ fun hSU3=>?_;exact rowc5 R03.out;clear hK K hSU2;(try simp only [J0,J1,J2,J3,J4]);refine freeU 10 rfl (by kernel_rfl) rfl (by kernel_rfl) fun K hK=>?_;go_simp;refine hK.out _ _ ?_;clear hK K hSU3;(try simp only [J0,J1,J2,J3,J4]);refine wpAnyU_done (by kernel_rfl) ?_ _;try rw [HPA.out]
 go_wp2_with fail;go_ret;exact ⟨_,rfl,HFR.out▸HO3.out.sls (by rw [List.length_append,List.length_append,List.length_take,List.length_drop]; simp; have:=HRL.out; omega),OwnS.isP HO3.out (fun b hb=>by have:=HB.out.size; omega),below_then HB.out HU3.out⟩
def waitsD (d:DeskM) (thr:Int):Bool:=d.wait.any fun x=>x.thr == thr
set_option maxRecDepth 100000 in
set_option maxHeartbeats 16000000 in
theorem waits_any (v:Value) (d:DeskM) (thr:Int) (w:World) (h:DeskV w v d):Calls Try.prog 20 #[v,.int .i64 thr] w fun e w'=>e=.returned (.bool (waitsD d thr))∧Below w.heap.size w w':=by
 obtain ⟨vc,vw,rfl,hch,hwt⟩:=h;obtain ⟨ac,kc,rfl,-⟩:=hch.len;obtain ⟨aw,kw,rfl,-⟩:=hwt.len;have HWT:=Lib.hid hwt;obtain ⟨q,hq⟩:∃z,waitsD d thr=z:=⟨_,rfl⟩;rw [hq];have HQ1:Hid (∀i,i<d.wait.length→(wat d.wait i).thr=thr→q=true):=fun i hi h=>by
  rw [← hq];unfold waitsD;rw [List.any_eq_true];refine ⟨wat d.wait i,?_,by simpa using h⟩;unfold wat;rw [getD_lt hi];exact List.getElem_mem hi
 have HQ2:Hid ((∀j,j<d.wait.length→(wat d.wait j).thr≠thr)→q=false):=fun h=>by
  rw [← hq];unfold waitsD;rw [List.any_eq_false];intro x hx;obtain ⟨j,hj,rfl⟩:=List.mem_iff_getElem.1 hx;have:=h j hj;unfold wat at this;rw [getD_lt hj] at this;simpa using this
 obtain ⟨cn,hcn⟩:∃z,d.chans.length=z:=⟨_,rfl⟩;obtain ⟨wl,hwl⟩:∃z,d.wait=z:=⟨_,rfl⟩;obtain ⟨tk,htk⟩:∃z,d.tick=z:=⟨_,rfl⟩;have hbd:=hwt.bound;rw [hwl] at HWT HQ1 HQ2 hbd ⊢;rw [hcn,htk];clear hch hwt hq hcn hwl htk;obtain ⟨W,hW,HB,R0,hz⟩:=one_new w (.cells #[.slice ac cn kc,.slice aw wl.length kw,.int .i64 tk] 34);have HW:=Lib.hid hW;clear hW;go_enter Try.func20,Try.ntmps20;go_upto_region 1 with fail
 rw [HW.out];clear HW;obtain ⟨x0_0,x0_1,x0_2⟩:=rowc3 R0.out;go_wp2_with fail;go_loopw [9] (fun u9 wr=>∃i:Nat,u9=.int .i64 i∧i≤wl.length∧Hid (wr=W)∧Hid (∀j,j<i→(wat wl j).thr≠thr)) (fun u9 _=>wl.length - (intOf u9).toNat)
 case atStart=>exact ⟨0,rfl,by omega,rfl,fun j hj=>by omega⟩
 case round=>
  obtain ⟨i,rfl,hi,HWr,HP⟩:=hrel;obtain ⟨wo,rfl⟩:∃wo:World,wo=wr:=⟨_,rfl⟩;have hw:=HWr.out;clear HWr;subst hw;by_cases hlt:i<wl.length
  ·have hltI:(i:Int)<(wl.length:Int):=by omega
   obtain ⟨b,off,cap,wc1,wd1,hve,hb,c0,-⟩:=(HWT.out.below HB.out).at i hlt;simp only [Value.slice.injEq] at hve;obtain ⟨rfl,-,rfl⟩:=hve;obtain ⟨tt,htt⟩:∃z,(wat wl i).thr=z:=⟨_,rfl⟩;have HQ:=Lib.hid (HQ1.out i hlt);rw [htt] at c0 HQ;have HT:=Lib.hid htt;clear htt;by_cases hz:tt=thr
   ·have HF:=Lib.hid (HQ.out hz)
    have hzb:(tt == thr)=true:=by simpa using hz
    clear HQ1 HQ2 HQ hz;go_wp2_with fail;go_ret;exact ⟨by rw [HF.out]; rfl,HB.out⟩
   ·have hzb:(tt == thr)=false:=by simpa using hz
    have HZ:=Lib.hid hz;clear HQ hz;go_wp2_with fail;go_roundw
    case rel=>exact ⟨i+1,by go_num,by omega,Lib.hid trivial,fun j hj=>by
     rcases Nat.lt_or_ge j i with h | h
     ·exact HP.out j h
     ·rw [show j=i by omega,HT.out]; exact HZ.out⟩
    case measure=>simp [intOf]; omega
  ·have hge:¬(i:Int)<(wl.length:Int):=by omega
   have HF:=Lib.hid (HQ2.out (fun j hj=>HP.out j (by omega)));clear HQ1 HQ2;go_wp2_with fail;go_ret;exact ⟨by rw [HF.out]; rfl,HB.out⟩
set_option maxRecDepth 100000 in
set_option maxHeartbeats 16000000 in
theorem rNewD_any (v:Value) (c:ConfM) (w:World) (h:ConfV w v c) (hg:c.good):Calls Try.prog 13 #[v] w fun e w'=>∃u,e=.returned u∧DeskX (fun b=>w.heap.size≤b) w' u ⟨nchE c.caps,[],0⟩∧Below w.heap.size w w':=by
 have TN:=Lib.hid fun w' (hb:Below w.heap.size w w')=>rNew_any v c w' (h.below hb) hg.len;obtain ⟨vc,vs,rfl,h1,h2⟩:=h;have HCW:Hid (∀x∈c.caps,x=IntKind.i64.wrap x):=fun x hx=>i64_small _ (by have:=(hg.caps x hx).1; omega) (by have:=(hg.caps x hx).2; omega);have hcl:=hg.len;obtain ⟨a1,cap1,rfl,-⟩:=h1.len;obtain ⟨a2,cap2,rfl,-⟩:=h2.len;obtain ⟨caps,starts,thr⟩:=c;dsimp only at *;clear h1 h2 hg;obtain ⟨W,hW,HB,R0,R1,hz⟩:=two_new w (.cells #[.slice a1 caps.length cap1,.slice a2 starts.length cap2,.int .i64 thr] 29) (.cells #[.slice none 0 0,.slice none 0 0,.int .i64 0] 34);have HW:=Lib.hid hW;clear hW;go_enter Try.func13,Try.ntmps13;go_upto_region 1 with fail
 rw [HW.out];clear HW;obtain ⟨x0_0,x0_1,x0_2⟩:=rowc3 R0.out;go_wp2_with fail;refine (TN.out _ HB.out).mono ?_; rintro e w1 ⟨u,rfl,ho,hb1⟩;have HB1:=Lib.hid (below_then HB.out hb1);have R11:=Lib.hid (row_below3 hb1 R1.out);obtain ⟨p,n,q,rfl⟩:=own_sh ho;have HO:=Lib.hid ho;clear x0_0 x0_1 x0_2 ho hb1 TN;go_wp2_with (refine wpList_store_row rfl 34 _ _ rfl (w.heap.size+1) _ rfl rfl 34 _ R11.out (by kernel_rfl) rfl (by simp [Value.oneCell']) ?_);refine bodyPost_ret (v:=.agg #[.slice p n q,.slice none 0 0,.int .i64 0]) (results_cell_row Try.results13 _ _ (w.heap.size+1) 34 _ (0,0) _ rfl (setRow_heap _ _ _ _ 34 (0,0) R11.out) Try.underlying34 rfl (by kernel_rfl)) rfl ?_;have hB4:=row_below HB1.out (show w.heap.size≤w.heap.size+1 by omega) #[.slice p n q,.slice none 0 0,.int .i64 0];refine ⟨_,rfl,⟨_,_,rfl,OwnS.slHX (HO.out.kept (row_grown w1 (w.heap.size+1) #[.slice p n q,.slice none 0 0,.int .i64 0]) (HO.out.ne (show w.heap.size+1<W.heap.size by omega))) (by rw [nchE_length]; simp [nils]) (by rw [nchE_length]; omega) (fun i hi=>?_) (fun c hc=>?_) (fun b hb=>by omega),⟨[],rfl,SlS.nil _ _,fun i hi=>by simp at hi,fun a n c e=>by simp at e⟩⟩,hB4⟩
 ·rw [nchE_length] at hi
  rw [nchE_get caps i hi,nils_get];exact ⟨SlU.nil _,fun a n c e=>by simp at e⟩
 ·obtain ⟨x,hx,rfl⟩:=List.mem_map.1 hc
  exact HCW.out x hx
def lateB (t:Int) (x:WaitM):Bool:=x.op.mode == 2 && decide (x.op.dl≤t)
def toR:ResM:=⟨4,-1,0,false,0⟩
def newT (t n:Int):Int:=if n > 1099511627776 - t then 1099511627776 else t+n
def stayL (t:Int) (l:List WaitM) (p:Nat):List WaitM:=(l.take p).filter fun x=>!lateB t x
def goneL (t:Int) (l:List WaitM) (p:Nat):List DoneM:=((l.take p).filter (lateB t)).foldl (fun o x=>addE o x.thr toR) []
def tickD (d:DeskM) (n:Int):DeskM × List DoneM:=if n<1 then (d,[]) else (⟨d.chans,d.wait.filter (fun x=>!lateB (newT d.tick n) x),newT d.tick n⟩,(d.wait.filter (lateB (newT d.tick n))).foldl (fun o x=>addE o x.thr toR) [])
theorem stay_end (t:Int) (l:List WaitM):stayL t l l.length=l.filter fun x=>!lateB t x:=by unfold stayL; rw [List.take_length]
theorem gone_end (t:Int) (l:List WaitM):goneL t l l.length=(l.filter (lateB t)).foldl (fun o x=>addE o x.thr toR) []:=by unfold goneL; rw [List.take_length]
theorem take_one {α:Type} {l:List α} {p:Nat} (hp:p<l.length):l.take (p+1)=l.take p ++ [l[p]]:=List.take_succ_eq_append_getElem hp
theorem stay_next {t:Int} {l:List WaitM} {p:Nat} (hp:p<l.length):stayL t l (p+1)=stayL t l p ++ (if lateB t (wat l p)=true then [] else [wat l p]):=by
 unfold stayL;rw [take_one hp,List.filter_append];unfold wat;rw [getD_lt hp];cases h:lateB t l[p] <;> simp [h]
theorem gone_next {t:Int} {l:List WaitM} {p:Nat} (hp:p<l.length):goneL t l (p+1)=if lateB t (wat l p)=true then addE (goneL t l p) (wat l p).thr toR else goneL t l p:=by
 unfold goneL;rw [take_one hp,List.filter_append];unfold wat;rw [getD_lt hp];cases h:lateB t l[p] <;> simp [h]
theorem gone_len (t:Int) (l:List WaitM):∀p,(goneL t l p).length≤p
 | 0=>by simp [goneL]
 | p+1=>by
  have ih:=gone_len t l p;by_cases hp:p<l.length
  ·rw [gone_next hp]
   split
   ·rw [addE_len]; omega
   ·omega
  ·have e:goneL t l (p+1)=goneL t l p:=by
    unfold goneL;rw [List.take_of_length_le (by omega),List.take_of_length_le (by omega)]
   rw [e]; omega
def nowL (t:Int) (l:List WaitM) (p:Nat):List WaitM:=stayL t l p ++ l.drop p
theorem now_at {t:Int} {l:List WaitM} {p:Nat} (hp:p<l.length):wat (nowL t l p) (stayL t l p).length=wat l p∧(stayL t l p).length<(nowL t l p).length:=by
 unfold nowL;refine ⟨?_,by simp; omega⟩;unfold wat;rw [List.getD_eq_getElem?_getD,List.getElem?_append_right (Nat.le_refl _),Nat.sub_self,List.getElem?_drop,Nat.add_zero,← List.getD_eq_getElem?_getD]
theorem now_stay {t:Int} {l:List WaitM} {p:Nat} (hp:p<l.length) (h:lateB t (wat l p)=false):nowL t l (p+1)=nowL t l p∧(stayL t l (p+1)).length=(stayL t l p).length+1:=by
 unfold nowL;rw [stay_next hp,if_neg (by rw [h]; decide)];refine ⟨?_,by simp⟩;rw [List.append_assoc];congr 1;unfold wat;rw [getD_lt hp];exact (List.drop_eq_getElem_cons hp).symm
theorem now_go {t:Int} {l:List WaitM} {p:Nat} (hp:p<l.length) (h:lateB t (wat l p)=true):nowL t l (p+1)=(nowL t l p).take (stayL t l p).length ++ (nowL t l p).drop ((stayL t l p).length+1)∧stayL t l (p+1)=stayL t l p:=by
 have e:stayL t l (p+1)=stayL t l p:=by rw [stay_next hp,if_pos h,List.append_nil]
 refine ⟨?_,e⟩;unfold nowL;rw [e,List.take_left,List.drop_append,show (stayL t l p).drop ((stayL t l p).length+1)=[] from List.drop_of_length_le (by omega),List.nil_append,show (stayL t l p).length+1 - (stayL t l p).length=1 by omega,List.drop_drop]
theorem now_end (t:Int) (l:List WaitM):nowL t l l.length=stayL t l l.length:=by unfold nowL; rw [List.drop_length,List.append_nil]
theorem now_mem {t:Int} {l:List WaitM} {p:Nat} {x:WaitM} (h:x∈nowL t l p):x∈l:=by
 unfold nowL at h;rcases List.mem_append.1 h with h | h
 ·exact List.mem_of_mem_take (List.mem_filter.1 h).1
 ·exact List.mem_of_mem_drop h
theorem now_len (t:Int) (l:List WaitM) (p:Nat):(nowL t l p).length≤l.length:=by
 unfold nowL stayL;rw [List.length_append,List.length_drop];have:=List.length_filter_le (fun x=>!lateB t x) (l.take p);rw [List.length_take] at this;omega
def lenC (o:Option Value):Nat:=match o with | some (.slice _ n _)=>n | _=>0
theorem SlS.inB {w:World} {s:Nat} {v:Value} {rows:List (List Value)} (h:SlS w s v rows):atP (fun b=>b<w.heap.size) v:=fun a n c e=>by
 obtain ⟨-,-,a',cap,e2,-,h4⟩:=h;rw [e2] at e;simp only [Value.slice.injEq] at e;obtain ⟨rfl,hn,-⟩:=e;rcases Nat.eq_zero_or_pos rows.length with h0 | h0
 ·exact .inl (by omega)
 ·obtain ⟨b,off,e3,hb,-⟩:=h4 0 h0
  simp only [Option.some.injEq] at e3;rw [e3];exact .inr hb
theorem SlC.inB {w:World} {v:Value} {l:List CaseM} (h:SlC w v l):atP (fun b=>b<w.heap.size) v:=fun a n c e=>by
 obtain ⟨-,-,a',cap,e2,-,h4⟩:=h;rw [e2] at e;simp only [Value.slice.injEq] at e;obtain ⟨rfl,hn,-⟩:=e;rcases Nat.eq_zero_or_pos l.length with h0 | h0
 ·exact .inl (by omega)
 ·obtain ⟨b,off,e3,hb,-⟩:=h4 0 h0
  simp only [Option.some.injEq] at e3;rw [e3];exact .inr hb
theorem SlI.inB {w:World} {k:IntKind} {v:Value} {l:List Int} (h:SlI w k v l):atP (fun b=>b<w.heap.size) v:=fun a n c e=>by
 obtain ⟨-,-,a',cap,e2,-,h4⟩:=h;rw [e2] at e;simp only [Value.slice.injEq] at e;obtain ⟨rfl,hn,-⟩:=e;rcases Nat.eq_zero_or_pos l.length with h0 | h0
 ·exact .inl (by omega)
 ·obtain ⟨b,off,e3,hb,-⟩:=h4 0 h0
  simp only [Option.some.injEq] at e3;rw [e3];exact .inr hb
theorem atP.and {P Q:Nat→Prop} {v:Value} (h:atP P v) (h2:atP Q v):atP (fun b=>P b∧Q b) v:=fun a n c e=>by
 rcases h a n c e with h1 | h1
 ·exact .inl h1
 ·rcases h2 a n c e with h3 | h3
  ·exact .inl h3
  ·exact .inr ⟨h1,h3⟩
theorem DeskX.tight {P:Nat→Prop} {w:World} {v:Value} {d:DeskM} (h:DeskX P w v d):DeskX (fun b=>P b∧b<w.heap.size) w v d:=by
 obtain ⟨vc,vw,e,⟨us,h1,h2,h3,h4,h5,h6⟩,⟨rows,k1,k2,k3,k4⟩⟩:=h;exact ⟨vc,vw,e,⟨us,h1,h2,fun i hi=>⟨(h3 i hi).1,(h3 i hi).2.and (h3 i hi).1.2.isP⟩,h4,h5,h6.and h5.isP⟩,⟨rows,k1,k2,fun i hi=>by
  obtain ⟨a,b,e,q1,q2,q3,q4⟩:=k3 i hi;exact ⟨a,b,e,q1,q2,q3.and q1.inB,q4.and q2.inB⟩,k4.and k2.inB⟩⟩
def nilOr (v:Value) (l:List DoneM):Prop:=v=.slice none 0 0∨l≠[]
def TikQ (P:Nat→Prop) (d:DeskM) (l:List DoneM) (w:World) (e:Ending) (w':World):Prop:=∃u v,e=.returned (.tuple #[u,v])∧DeskX P w' u d∧SlS w' 6 v (doneRows l)∧nilOr v l∧atP (fun b=>w.heap.size≤b) v∧Below w.heap.size w w'
theorem SlHX.sh {P:Nat→Prop} {w:World} {v:Value} {l:List ChanM} (h:SlHX P w v l):∃p n q,v=.slice p n q:=by
 obtain ⟨a,c,e,-⟩:=h.slH.len;exact ⟨_,_,_,e⟩
theorem DeskM.ok.now {d:DeskM} (h:d.ok) (t:Int) (p:Nat):DeskM.ok ⟨d.chans,nowL t d.wait p,t⟩:=
 ⟨h.cl,by have:=now_len t d.wait p; have:=h.wl; show (nowL t d.wait p).length≤1000; omega,h.bf,fun x hx=>h.wop x (now_mem hx)⟩
set_option maxRecDepth 100000 in
set_option maxHeartbeats 16000000 in
theorem rtick_any (P:Nat→Prop) (v:Value) (d:DeskM) (n:Int) (w:World) (h:DeskX P w v d) (hd:d.ok) (ht:0≤d.tick∧d.tick≤1099511627776) (hP:∀b,w.heap.size≤b→P b):Calls Try.prog 18 #[v,.int .i64 n] w (TikQ P (tickD d n).1 (tickD d n).2 w):=by
 have hX:=h.tight;obtain ⟨vc,vw,rfl,hch,hwt⟩:=h;have HD:=Lib.hid hd;have HP:=Lib.hid hP;obtain ⟨ac,kc,rfl,-⟩:=hch.slH.len;obtain ⟨aw,kw,rfl,-⟩:=hwt.slW.len;have HX:=Lib.hid hX;obtain ⟨td,htd⟩:∃z,(tickD d n).1=z:=⟨_,rfl⟩;obtain ⟨tl,htl⟩:∃z,(tickD d n).2=z:=⟨_,rfl⟩;have HE1:Hid (n<1→d=td∧tl=[]):=fun h=>by rw [← htd,← htl]; unfold tickD; rw [if_pos h]; exact ⟨rfl,rfl⟩
 have HE2:Hid (¬n<1→∀t,newT d.tick n=t→(⟨d.chans,nowL t d.wait d.wait.length,t⟩:DeskM)=td∧goneL t d.wait d.wait.length=tl):=fun h t e=>by
  rw [← htd,← htl,now_end,stay_end,gone_end,← e];unfold tickD;rw [if_neg h];exact ⟨rfl,rfl⟩
 rw [htd,htl];obtain ⟨TQ,hTQ⟩:∃z,TikQ P td tl w=z:=⟨_,rfl⟩;have HT:Hid (∀w' u v,DeskX P w' u td→SlS w' 6 v (doneRows tl)→nilOr v tl→atP (fun b=>w.heap.size≤b) v→Below w.heap.size w w'→TQ (.returned (.tuple #[u,v])) w'):=fun w' u v h1 h2 h3 h4 h5=>by rw [← hTQ]; exact ⟨u,v,rfl,h1,h2,h3,h4,h5⟩
 rw [hTQ];obtain ⟨t,htt⟩:∃z,d.tick=z:=⟨_,rfl⟩;have HTT:=Lib.hid htt;obtain ⟨cn,hcn⟩:∃z,d.chans.length=z:=⟨_,rfl⟩;obtain ⟨wn,hwn⟩:∃z,d.wait.length=z:=⟨_,rfl⟩;have HWN:=Lib.hid hwn;have hwl:=hd.wl;have HCN:=Lib.hid hcn;rw [hwn] at hwl;rw [htt] at ht;rw [hcn,hwn,htt] at HX ⊢;clear htd htl hTQ htt hcn hwn hch hwt hd hP hX;obtain ⟨W,hW,HB,R0,R1,hz⟩:=two_new w (.cells #[.slice ac cn kc,.slice aw wn kw,.int .i64 t] 34) (.cells #[.slice none 0 0,.slice none 0 0,.int .i64 0] 34);have HW:=Lib.hid hW;clear hW;go_enter Try.func18,Try.ntmps18;go_upto_region 1 with fail
 rw [HW.out];clear HW;obtain ⟨x0_0,x0_1,x0_2⟩:=rowc3 R0.out;by_cases hn:n<1
 ·obtain ⟨hd1,hd2⟩:=HE1.out hn
  subst hd1;subst hd2;have hR:=row_below HB.out (show w.heap.size≤w.heap.size+1 by omega) #[.slice ac cn kc,.slice aw wn kw,.int .i64 t];have HF:=Lib.hid (HT.out _ _ _ ((HX.out.below hR).mono fun b hb=>hb.1) (SlS.nil (W.setRow (w.heap.size+1) #[.slice ac cn kc,.slice aw wn kw,.int .i64 t]) 6) (.inl rfl) (fun a n c e=>by simp at e) hR);clear HE1 HE2 HT hR HX;go_wp2_with (refine wpList_store_row rfl 34 _ _ rfl (w.heap.size+1) _ rfl rfl 34 _ R1.out (by kernel_rfl) rfl (by simp [Value.oneCell']) ?_);refine bodyPost_ret (v:=.tuple #[(.agg #[.slice ac cn kc,.slice aw wn kw,.int .i64 t]),.slice none 0 0]) (results_cell_tmp Try.results18 _ _ (w.heap.size+1) 34 _ (0,0) _ rfl (setRow_heap _ _ _ _ 34 (0,0) R1.out) Try.underlying34 rfl (by kernel_rfl) _ rfl) rfl ?_;exact HF.out
 obtain ⟨t2,ht2⟩:∃z,newT t n=z:=⟨_,rfl⟩;obtain ⟨hf1,hf2⟩:=HE2.out hn t2 (by rw [HTT.out]; exact ht2);have HFD:=Lib.hid hf1;have HFL:=Lib.hid hf2;clear HE1 HE2 hf1 hf2;have hwm:IntKind.i64.wrap (1099511627776 - t)=1099511627776 - t:=(i64_small _ (by omega) (by omega)).symm;have HB2:=Lib.hid (HB.out.setCell (p:=⟨w.heap.size,2,none⟩) (Nat.le_refl _) (.int .i64 t2));have fz:=frozen_of_row W w.heap.size 2 _ _ R0.out;have r1:=heap_setCell_same W w.heap.size 2 _ _ (.int .i64 t2) R0.out;simp at r1;have R12:=Lib.hid ((heap_setCell_other W ⟨w.heap.size,2,none⟩ (w.heap.size+1) (.int .i64 t2) (by show w.heap.size+1≠w.heap.size; omega)).trans R1.out);obtain ⟨w2,hw2⟩:∃w2,W.setCell ⟨w.heap.size,2,none⟩ (.int .i64 t2)=w2:=⟨_,rfl⟩;rw [hw2] at r1 R12 HB2;have R02:=Lib.hid r1;have HW2:=Lib.hid hw2;clear r1 hw2;have HV2:Hid (∃vc vw,Value.agg #[.slice ac cn kc,.slice aw wn kw,.int .i64 t]=.agg #[vc,vw,.int .i64 t]∧vc=.slice ac cn kc∧vw=.slice aw wn kw):=⟨_,_,rfl,rfl,rfl⟩;obtain ⟨PP,hPP⟩:∃z:Nat→Prop,(fun b=>P b∧b≠w.heap.size∧b≠w.heap.size+1)=z:=⟨_,rfl⟩;have HPP:Hid ((∀b,PP b→P b)∧(∀b,PP b→b≠w.heap.size)∧(∀b,PP b→b≠w.heap.size+1)∧∀b,w.heap.size+2≤b→PP b):=by
  rw [← hPP];exact ⟨fun b hb=>hb.1,fun b hb=>hb.2.1,fun b hb=>hb.2.2,fun b hb=>⟨HP.out b (by omega),by omega,by omega⟩⟩
 have HX2:Hid (DeskX PP w2 (.agg #[.slice ac cn kc,.slice aw wn kw,.int .i64 t2]) ⟨d.chans,nowL t2 d.wait 0,t2⟩):=by
  have h1:=(HX.out.mono (Q:=PP) (fun b hb=>by rw [← hPP]; exact ⟨hb.1,by have:=hb.2; omega,by have:=hb.2; omega⟩)).below HB2.out;obtain ⟨vc,vw,e,h2,h3⟩:=h1;simp only [Value.agg.injEq,Array.mk.injEq,List.cons.injEq,and_true] at e;obtain ⟨rfl,rfl,-⟩:=e;exact ⟨_,_,rfl,h2,h3⟩
 have HOKN:=Lib.hid fun p=>HD.out.now t2 p;have HF:Hid (∀vc vw vl wr,DeskX PP wr (.agg #[vc,vw,.int .i64 t2]) ⟨d.chans,nowL t2 d.wait wn,t2⟩→SlS wr 6 vl (doneRows (goneL t2 d.wait wn))→nilOr vl (goneL t2 d.wait wn)→atP (fun b=>w.heap.size+2≤b) vl→Below w.heap.size w wr→TQ (.returned (.tuple #[.agg #[vc,vw,.int .i64 t2],vl])) (wr.setRow (w.heap.size+1) #[vc,vw,.int .i64 t2])):=fun vc vw vl wr h1 h2 h3 h5 h4=>by
  have hg:=row_grown wr (w.heap.size+1) #[vc,vw,.int .i64 t2];have hb:=row_below h4 (show w.heap.size≤w.heap.size+1 by omega) #[vc,vw,.int .i64 t2];rw [← HWN.out] at h1 h2 h3;rw [HFD.out] at h1;rw [HFL.out] at h2 h3;refine HT.out _ _ _ ((h1.off hg HPP.out.2.2.1).mono HPP.out.1) (SlS.off h2 hg h5 (fun b hb=>by omega)) h3 (h5.mono fun b hb=>by omega) hb
 have HV0:Hid (SlS w2 6 (.slice none 0 0) (doneRows (goneL t2 d.wait 0))∧nilOr (.slice none 0 0) (goneL t2 d.wait 0)∧atP (fun b=>w.heap.size+2≤b) (.slice none 0 0)):=⟨SlS.nil _ _,.inl rfl,fun a n c e=>by simp at e⟩;by_cases hgt:n > 1099511627776 - t
 all_goals (
  have hnt:t2=if n > 1099511627776 - t then 1099511627776 else t+n:=ht2.symm
  first | (have htv:t2=1099511627776:=by rw [hnt,if_pos hgt]) | (have htv:t2=t+n:=by rw [hnt,if_neg hgt])
  try (have hwa:IntKind.i64.wrap (t+n)=t2:=by rw [htv]; exact (i64_small _ (by omega) (by omega)).symm)
  have HTV:=Lib.hid htv;clear hnt ht2 htv;go_upto_region 6 with fail
  try rw [← HTV.out]
  rw [HW2.out];try simp only [Act.put]
  clear x0_0 x0_1 x0_2 fz HW2 HTV hwm;try clear hwa
  go_wp2_with fail;go_loopw [6,7] (fun u6 u7 wr=>∃(p:Nat) (vc vw vl:Value),vl=u6∧u7=.int .i64 ((stayL t2 d.wait p).length:Nat)∧p≤wn∧Hid (wr.heap[w.heap.size]?=some (.cells #[vc,vw,.int .i64 t2] 34 (0,0)))∧Hid (wr.heap[w.heap.size+1]?=some (.cells #[.slice none 0 0,.slice none 0 0,.int .i64 0] 34 (0,0)))∧Hid (DeskX PP wr (.agg #[vc,vw,.int .i64 t2]) ⟨d.chans,nowL t2 d.wait p,t2⟩)∧Hid (SlS wr 6 vl (doneRows (goneL t2 d.wait p))∧nilOr vl (goneL t2 d.wait p)∧atP (fun b=>w.heap.size+2≤b) vl)∧Hid (Below w.heap.size w wr)) (fun _ u7 wr=>lenC (wr.cell? ⟨w.heap.size,1,none⟩) - (intOf u7).toNat)
  case atStart=>exact ⟨0,_,_,_,rfl,by simp [stayL],by omega,R02,R12,HX2,HV0,HB2⟩
  case round=>
   clear HV0 HX2 R02 R12 HB2 HX HB R0 R1 hz;obtain ⟨p,vc,vw,vl,rfl,rfl,hp,RD,RZ,HXr,HVr,HBr⟩:=hrel;obtain ⟨wo,rfl⟩:∃wo:World,wo=wr:=⟨_,rfl⟩;obtain ⟨vc2,vw2,he,hch,hwt⟩:=HXr.out;simp only [Value.agg.injEq,Array.mk.injEq,List.cons.injEq,and_true] at he;obtain ⟨rfl,rfl⟩:=he;have hnl:=now_len t2 d.wait p;dsimp only at hch hwt;obtain ⟨pc2,nc2,kc2,rfl⟩:=SlHX.sh hch;obtain ⟨aw2,kw2,hve,-⟩:=hwt.slW.len;subst hve;have HWT:=Lib.hid hwt.slW;have hwo:w.heap.size+1<wo.heap.size:=(ltR RZ);obtain ⟨x0,x1,x2⟩:=rowc3 RD.out;have HLN:=Lib.hid HWN.out;by_cases hpn:p<wn
   ·have hpd:p<d.wait.length:=by rw [HWN.out]; exact hpn
    obtain ⟨hna,hnb⟩:=now_at (t:=t2) hpd;obtain ⟨i,hi⟩:∃z,(stayL t2 d.wait p).length=z:=⟨_,rfl⟩;obtain ⟨m,hm⟩:∃z,(nowL t2 d.wait p).length=z:=⟨_,rfl⟩;have HI:=Lib.hid hi;have HM:=Lib.hid hm;rw [hi] at hna hnb;rw [hm] at hnb hnl x1 RD HXr HWT;rw [hi];rw [HWN.out] at hnl;have himI:(i:Int)<(m:Int):=by omega
    obtain ⟨b,off,cap,wc1,wd1,hve,hb,c0,c1,c2,c3,c4,c5,c6,c7,hsc,hsd⟩:=HWT.out.at i (by rw [HM.out]; exact hnb);rw [HM.out] at hve;simp only [Value.slice.injEq] at hve;obtain ⟨rfl,-,rfl⟩:=hve;rw [hna] at c0 c1 c2 c3 c4 c5 hsc hsd;obtain ⟨⟨tt,⟨kd,md,oc,ov,odl,cs,ds⟩⟩,hx⟩:∃x,wat d.wait p=x:=⟨_,rfl⟩;rw [hx] at c0 c1 c2 c3 c4 c5 hsc hsd;dsimp only at c0 c1 c2 c3 c4 c5 hsc hsd;obtain ⟨a5,k5,rfl⟩:=hsc.len;obtain ⟨a6,k6,rfl,-⟩:=hsd.len;have HXX:=Lib.hid hx;have HST:=Lib.hid (now_stay (t:=t2) hpd);have HGO:=Lib.hid (now_go (t:=t2) hpd);have HGN:=Lib.hid (gone_next (t:=t2) hpd);rw [hx] at HST HGO HGN;obtain ⟨lb,hlb⟩:∃z,lateB t2 ⟨tt,⟨kd,md,oc,ov,odl,cs,ds⟩⟩=z:=⟨_,rfl⟩;rw [hlb] at HST HGO HGN;obtain ⟨q1,hq1⟩:∃z,(md != 2)=z:=⟨_,rfl⟩;obtain ⟨q2,hq2⟩:∃z,decide (odl > t2)=z:=⟨_,rfl⟩;have HLB:Hid (lb=(!q1 && !q2)):=by
     show _=_;rw [← hlb,← hq1,← hq2];unfold lateB;dsimp only;rw [show (!(md != 2))=(md == 2) by simp [bne],show (!decide (odl > t2))=decide (odl≤t2) by rw [← decide_not]; exact decide_eq_decide.2 (by omega)]
    clear hsc hsd hx hlb hna hch hwt hi hm;obtain ⟨Wy,hWy⟩:∃Wy,(wo.alloc (.cells #[.int .i64 0,.int .i64 0,.int .i64 0,.int .i64 0,.int .u64 0,.int .i64 0,.slice none 0 0,.slice none 0 0] 66)).setRow wo.heap.size #[.int .i64 tt,.int .i64 kd,.int .i64 md,.int .i64 oc,.int .u64 ov,.int .i64 odl,.slice a5 cs.length k5,.slice a6 ds.length k6]=Wy:=⟨_,rfl⟩;have Ny:Hid ((wo.alloc (.cells #[.int .i64 0,.int .i64 0,.int .i64 0,.int .i64 0,.int .u64 0,.int .i64 0,.slice none 0 0,.slice none 0 0] 66)).heap[wo.heap.size]?=some (.cells #[.int .i64 0,.int .i64 0,.int .i64 0,.int .i64 0,.int .u64 0,.int .i64 0,.slice none 0 0,.slice none 0 0] 66 (0,0))):=heap_alloc_new _ _;have HBy:Hid (Below wo.heap.size wo Wy):=hWy▸row_below (below_new (Below.refl _ _) _) (Nat.le_refl _) _;have Ry:Hid (Wy.heap[wo.heap.size]?=some (.cells #[.int .i64 tt,.int .i64 kd,.int .i64 md,.int .i64 oc,.int .u64 ov,.int .i64 odl,.slice a5 cs.length k5,.slice a6 ds.length k6] 66 (0,0))):=hWy▸setRow_heap _ _ _ _ _ (0,0) Ny.out;have HWy:=Lib.hid hWy;clear hWy;go_upto_region 10 with (refine wpList_store_row rfl 66 _ _ rfl (wo.heap.size) _ rfl rfl 66 _ Ny.out (by kernel_rfl) rfl (by simp [Value.oneCell']) ?_)
    rw [HWy.out];try simp only [Act.put]
    clear HWy Ny;obtain ⟨Y,hY⟩:∃Y,wo.heap.size=Y:=⟨_,rfl⟩;rw [hY] at Ry;rw [hY];have hYp:wo.heap.size≤Y:=by omega
    clear hY;have RDy:=Lib.hid (row_below3 HBy.out RD.out);have RZy:=Lib.hid (row_below3 HBy.out RZ.out);have HXy:=Lib.hid (HXr.out.below HBy.out);have HBy2:=Lib.hid (below_then HBr.out HBy.out);have hVy:=HVr.out;have HVy:Hid (SlS Wy 6 vl (doneRows (goneL t2 d.wait p))∧nilOr vl (goneL t2 d.wait p)∧atP (fun b=>w.heap.size+2≤b) vl):=⟨hVy.1.below HBy.out,hVy.2⟩;obtain ⟨y0,y1,y2,y3,y4,y5,y6,y7⟩:=rowc8 Ry.out;obtain ⟨z0,z1,z2⟩:=rowc3 RDy.out;have hYw:Y<Wy.heap.size:=(ltR Ry);clear c0 c1 c2 c3 c4 c5 c6 c7 x0 x1 x2 hVy;have hstay:q1=true∨q2=true∨(q1=false∧q2=false):=by cases q1 <;> cases q2 <;> simp
    rcases hstay with rfl | rfl | ⟨rfl,rfl⟩
    ·have hl:lb=false:=by rw [HLB.out]; rfl
     obtain ⟨hs1,hs2⟩:=HST.out hl;have HG:Hid (goneL t2 d.wait (p+1)=goneL t2 d.wait p):=by show _=_; rw [HGN.out,hl]; rfl
     have HS1:=Lib.hid hs1;have HS2:=Lib.hid hs2;clear hs1 hs2 hl;go_wp2_with fail;go_roundw
     case rel=>exact ⟨p+1,_,_,vl,rfl,by rw [HS2.out,HI.out]; go_num,by omega,RDy,RZy,by rw [HS1.out]; exact HXy.out,by rw [HG.out]; exact HVy.out,HBy2⟩
     case measure=>(rw [(rowc3 RDy.out).2.1,(rowc3 RD.out).2.1]; simp [lenC,intOf]; omega)
    ·have hl:lb=false:=by rw [HLB.out]; cases q1 <;> rfl
     obtain ⟨hs1,hs2⟩:=HST.out hl;have HG:Hid (goneL t2 d.wait (p+1)=goneL t2 d.wait p):=by show _=_; rw [HGN.out,hl]; rfl
     have HS1:=Lib.hid hs1;have HS2:=Lib.hid hs2;clear hs1 hs2 hl;cases q1
     all_goals (
      go_wp2_with fail;go_roundw
      case rel=>exact ⟨p+1,_,_,vl,rfl,by rw [HS2.out,HI.out]; go_num,by omega,RDy,RZy,by rw [HS1.out]; exact HXy.out,by rw [HG.out]; exact HVy.out,HBy2⟩
      case measure=>(rw [(rowc3 RDy.out).2.1,(rowc3 RD.out).2.1]; simp [lenC,intOf]; omega))
    ·have hl:lb=true:=by rw [HLB.out]; rfl
     obtain ⟨hg1,hg2⟩:=HGO.out hl;rw [HI.out] at hg1;have HN1:Hid (leaveD ⟨d.chans,nowL t2 d.wait p,t2⟩ i=⟨d.chans,nowL t2 d.wait (p+1),t2⟩):=by show _=_; unfold leaveD; dsimp only; rw [hg1]
     have HG1:Hid (goneL t2 d.wait (p+1)=addE (goneL t2 d.wait p) tt toR):=by show _=_; rw [HGN.out,hl]; rfl
     have HSL:Hid ((stayL t2 d.wait (p+1)).length=i):=by show _=_; rw [hg2]; exact HI.out
     have HM1:Hid ((nowL t2 d.wait (p+1)).length=m - 1):=by
      have:=HM.out;show _=_;rw [hg1];simp;omega
     have hszy:=HBy.out.size;have TL:=Lib.hid (rleave_any PP _ ⟨d.chans,nowL t2 d.wait p,t2⟩ i Wy HXy.out (HOKN.out p) (by show i<(nowL t2 d.wait p).length; rw [HM.out]; exact hnb) (fun b hb=>HPP.out.2.2.2 b (by omega)));clear hg1 hg2 hl HST HGO HGN;go_wp2_with fail;refine TL.out.mono ?_; rintro e w5 ⟨u5,rfl,hx5,hb5⟩;rw [HN1.out] at hx5;obtain ⟨vc5,vw5,rfl,hc5,hw5⟩:=hx5;dsimp only at hc5 hw5 ⊢;obtain ⟨pc5,nc5,kc5,rfl⟩:=SlHX.sh hc5;obtain ⟨aw5,kw5,hve5,-⟩:=hw5.slW.len;rw [HM1.out] at hve5;subst hve5;have HX5:Hid (DeskX PP w5 (.agg #[.slice pc5 nc5 kc5,.slice aw5 (m - 1) kw5,.int .i64 t2]) ⟨d.chans,nowL t2 d.wait (p+1),t2⟩):=⟨_,_,rfl,hc5,hw5⟩;have RD5:=Lib.hid (row_below3 hb5 RDy.out);have RZ5:=Lib.hid (row_below3 hb5 RZy.out);have Ry5:=Lib.hid (row_below3 hb5 Ry.out);have HB5:=Lib.hid (below_then HBy2.out hb5);have hg6:=row_grown w5 w.heap.size #[.slice pc5 nc5 kc5,.slice aw5 (m - 1) kw5,.int .i64 t2];have RD6:Hid ((w5.setRow w.heap.size #[.slice pc5 nc5 kc5,.slice aw5 (m - 1) kw5,.int .i64 t2]).heap[w.heap.size]?=some (.cells #[.slice pc5 nc5 kc5,.slice aw5 (m - 1) kw5,.int .i64 t2] 34 (0,0))):=setRow_heap _ _ _ _ _ (0,0) RD5.out;have RZ6:=Lib.hid ((setRow_other w5 w.heap.size (w.heap.size+1) #[.slice pc5 nc5 kc5,.slice aw5 (m - 1) kw5,.int .i64 t2] (by omega)).trans RZ5.out);have Ry6:=Lib.hid ((setRow_other w5 w.heap.size Y #[.slice pc5 nc5 kc5,.slice aw5 (m - 1) kw5,.int .i64 t2] (by omega)).trans Ry5.out);have HX6:=Lib.hid (HX5.out.off hg6 HPP.out.2.1);have HB6:=Lib.hid (row_below HB5.out (Nat.le_refl _) #[.slice pc5 nc5 kc5,.slice aw5 (m - 1) kw5,.int .i64 t2]);have HS6:=Lib.hid (SlS.off (HVy.out.1.below hb5) hg6 HVy.out.2.2 (fun b hb=>by omega));obtain ⟨w6,hw6⟩:∃w6,w5.setRow w.heap.size #[.slice pc5 nc5 kc5,.slice aw5 (m - 1) kw5,.int .i64 t2]=w6:=⟨_,rfl⟩;rw [hw6] at RD6 RZ6 Ry6 HX6 HB6 HS6;have HW6:=Lib.hid hw6;clear hw6 hg6 hc5 hw5 hb5 z0 z1 z2 y0 y1 y2 y3 y4 y5 y6 y7 TL;go_upto_region 13 with (refine wpList_store_row rfl 34 _ _ rfl (w.heap.size) _ rfl rfl 34 _ RD5.out (by kernel_rfl) rfl (by simp [Value.oneCell']) ?_)
     rw [HW6.out];try simp only [Act.put]
     clear HW6;have hw6z:w.heap.size+2≤w6.heap.size:=by have:=(ltR RZ6); omega
     have TA:=Lib.hid (radd_any vl (goneL t2 d.wait p) tt toR w6 HS6.out (by have:=gone_len t2 d.wait p; omega) HVy.out.2.1);unfold resW toR at TA;dsimp only at TA;obtain ⟨y0,y1,y2,y3,y4,y5,y6,y7⟩:=rowc8 Ry6.out;go_wp2_with fail;refine TA.out.mono ?_; rintro e w7 ⟨u7,rfl,hs7,hat7,hb7⟩;have RD7:=Lib.hid (row_below3 hb7 RD6.out);have RZ7:=Lib.hid (row_below3 hb7 RZ6.out);have HX7:=Lib.hid (HX6.out.below hb7);have HB7:=Lib.hid (below_then HB6.out hb7);have HV7:Hid (SlS w7 6 u7 (doneRows (goneL t2 d.wait (p+1)))∧nilOr u7 (goneL t2 d.wait (p+1))∧atP (fun b=>w.heap.size+2≤b) u7):=by
      rw [HG1.out];exact ⟨hs7,.inr (addE_ne _ _ _),hat7.mono fun b hb=>by omega⟩
     clear y0 y1 y2 y3 y4 y5 y6 y7 hs7 hat7 hb7 TA;go_wp2_with fail;go_roundw
     case rel=>exact ⟨p+1,_,_,u7,rfl,by rw [HSL.out],by omega,RD7,RZ7,HX7,HV7,HB7⟩
     case measure=>(rw [(rowc3 RD7.out).2.1,(rowc3 RD.out).2.1]; simp [lenC,intOf]; omega)
   ·have hpe:p=wn:=by omega
    subst hpe;have hie:(nowL t2 d.wait p).length=(stayL t2 d.wait p).length:=by rw [← HWN.out,now_end]
    obtain ⟨i,hi⟩:∃z,(stayL t2 d.wait p).length=z:=⟨_,rfl⟩;rw [hi] at hie ⊢;rw [hie] at x1 RD HXr;have HFF:=Lib.hid (HF.out _ _ _ _ HXr.out HVr.out.1 HVr.out.2.1 HVr.out.2.2 HBr.out);clear hie hi HF HFD HFL hch hwt;go_wp2_with (refine wpList_store_row rfl 34 _ _ rfl (w.heap.size+1) _ rfl rfl 34 _ RZ.out (by kernel_rfl) rfl (by simp [Value.oneCell']) ?_);refine bodyPost_ret (v:=.tuple #[(.agg #[.slice pc2 nc2 kc2,.slice aw2 i kw2,.int .i64 t2]),vl]) (results_cell_tmp Try.results18 _ _ (w.heap.size+1) 34 _ (0,0) _ rfl (setRow_heap _ _ _ _ 34 (0,0) RZ.out) Try.underlying34 rfl (by kernel_rfl) _ rfl) rfl ?_;exact HFF.out)
def putD (d:DeskM) (n:Nat) (c:ChanM):DeskM:={ d with chans:=d.chans.set n c }
theorem SlHX.put {P:Nat→Prop} {w W:World} {v' uv:Value} {l:List ChanM} {us:List Value} {n base:Nat} {c:ChanM} (h1:us.length=l.length) (h3:∀i,i<l.length→SlU w (us.getD i (.slice none 0 0)) (l.getD i noChan).buf∧atP P (us.getD i (.slice none 0 0))) (h4:∀c∈l,c.cap=IntKind.i64.wrap c.cap) (hl:l.length≤1000000) (hb:Below w.heap.size w W) (ho:OwnS W base 63 3 v' ((chRows l us).set n (chRow c uv))) (hn:n<l.length) (hu:SlU w uv c.buf) (hau:atP P uv) (hc:c.cap=IntKind.i64.wrap c.cap) (hp:∀b,base≤b→P b):SlHX P W v' (l.set n c):=by
 rw [chRows_set l us n _ _ h1] at ho;refine ho.slHX (by rw [List.length_set,List.length_set]; exact h1) (by rw [List.length_set]; exact hl) (fun j hj=>?_) (fun d hd=>?_) hp
 ·rw [List.length_set] at hj
  rw [getD_setL,getD_setL];by_cases hji:n=j
  ·rw [if_pos ⟨hji,by rw [h1]; exact hj⟩,if_pos ⟨hji,hj⟩]
   exact ⟨hu.below hb,hau⟩
  ·rw [if_neg (fun h=>hji h.1),if_neg (fun h=>hji h.1)]
   exact ⟨(h3 j hj).1.below hb,(h3 j hj).2⟩
 ·rcases List.mem_or_eq_of_mem_set hd with hd | rfl
  ·exact h4 d hd
  ·exact hc
set_option maxRecDepth 100000 in
set_option maxHeartbeats 16000000 in
theorem rput_any (P:Nat→Prop) (v uv:Value) (d:DeskM) (n:Nat) (c:ChanM) (w:World) (h:DeskX P w v d) (hd:d.ok) (hn:n<d.chans.length) (hu:SlU w uv c.buf) (hau:atP P uv) (hcw:c.cap=IntKind.i64.wrap c.cap) (hP:∀b,w.heap.size≤b→P b):Calls Try.prog 80 #[v,.int .i64 (n:Int),.agg #[.int .i64 c.cap,uv,.bool c.closed]] w fun e w'=>∃u,e=.returned u∧DeskX P w' u (putD d n c)∧Below w.heap.size w w':=by
 obtain ⟨vc,vw,rfl,hch,hwt⟩:=h;obtain ⟨us,h1,hss,h3,h4,h5,h6⟩:=hch;obtain ⟨aw,kw,rfl,-⟩:=hwt.slW.len;have hcl:=hd.cl;have hrl:=chRows_length d.chans us h1;have HFIN:Hid (∀W v' tk base,Below w.heap.size w W→OwnS W base 63 3 v' ((chRows d.chans us).set n (chRow c uv))→w.heap.size≤base→tk=d.tick→DeskX P W (.agg #[v',.slice aw d.wait.length kw,.int .i64 tk]) (putD d n c)):=fun W v' tk base hb ho hbs ht=>⟨v',.slice aw d.wait.length kw,by rw [ht]; rfl,SlHX.put h1 h3 h4 (by omega) hb ho hn hu hau hcw (fun b hb=>hP b (by omega)),hwt.below hb⟩;obtain ⟨ac,kc,rfl,-⟩:=hss.len;rw [hrl];rw [hrl] at hss;obtain ⟨rows,hrows⟩:∃z,chRows d.chans us=z:=⟨_,rfl⟩;rw [hrows] at HFIN hss hrl;have HSS:=Lib.hid hss;obtain ⟨cn,hcn⟩:∃z,d.chans.length=z:=⟨_,rfl⟩;rw [hcn] at HSS hrl hn hcl ⊢;obtain ⟨wn,hwn⟩:∃z,d.wait.length=z:=⟨_,rfl⟩;rw [hwn] at HFIN ⊢;obtain ⟨tk,htk⟩:∃z,d.tick=z:=⟨_,rfl⟩;have HF2:=Lib.hid fun W v' base h1 h2 h3=>HFIN.out W v' tk base h1 h2 h3 htk.symm;rw [htk];have HRL:Hid (rows.length=cn):=hrl;obtain ⟨up,un,uc,rfl⟩:∃p n q,uv=.slice p n q:=by
  obtain ⟨a,c,e,-⟩:=hu.1.len;exact ⟨_,_,_,e⟩
 obtain ⟨cc,bf,cl⟩:=c;dsimp only at HF2 ⊢;clear HFIN h1 h3 h4 h5 h6 hu hau hcw hP hd hwt hss hrl hrows hcn hwn htk;obtain ⟨W,hW,HB,R0,R1,R2,hz⟩:=three_new w (.cells #[.slice ac cn kc,.slice aw wn kw,.int .i64 tk] 34) (.cells #[.int .i64 cc,.slice up un uc,.bool cl] 63) (.cells #[.slice none 0 0,.slice none 0 0,.int .i64 0] 34);have HW:=Lib.hid hW;clear hW;go_enter Try.func80,Try.ntmps80;go_upto_region 1 with fail
 rw [HW.out];clear HW;obtain ⟨x0_0,x0_1,x0_2⟩:=rowc3 R0.out;obtain ⟨x1_0,x1_1,x1_2⟩:=rowc3 R1.out;clear x0_0 x0_1 x0_2 x1_0 x1_1 x1_2;obtain ⟨v1,w1,hrun,ho1,hg1,-⟩:=run_app_ss W 31 31 (by kernel_rfl) Try.info_chan rfl (by decide) (by decide) (OwnS.nil W W.heap.size 63 3) (HSS.out.below HB.out) (by rw [HRL.out]; simp; omega) (Nat.le_refl _);rw [List.nil_append] at ho1;have hB1:Below W.heap.size W w1:=(Below.refl W.heap.size W).grown hg1 (Nat.le_refl _) (fun k hk=>by cases hk);have R01:=Lib.hid (row_below3 hB1 R0.out);have R11:=Lib.hid (row_below3 hB1 R1.out);have R21:=Lib.hid (row_below3 hB1 R2.out);obtain ⟨g,c1,rfl,hgb,hgl,-⟩:=ho1.open (by rw [HRL.out]; omega);rw [HRL.out] at ho1 hrun;have HRUN:=Lib.hid hrun;have fz:=frozen_of_row w1 w.heap.size 0 _ _ R01.out;have r1:=heap_setCell_same w1 w.heap.size 0 _ _ (.slice (some ⟨g,0,none⟩) cn c1) R01.out;simp at r1;have R12:=Lib.hid ((heap_setCell_other w1 ⟨w.heap.size,0,none⟩ (w.heap.size+1) (.slice (some ⟨g,0,none⟩) cn c1) (by show w.heap.size+1≠w.heap.size; omega)).trans R11.out);have R22:=Lib.hid ((heap_setCell_other w1 ⟨w.heap.size,0,none⟩ (w.heap.size+2) (.slice (some ⟨g,0,none⟩) cn c1) (by show w.heap.size+2≠w.heap.size; omega)).trans R21.out);have HB2:=Lib.hid ((below_then HB.out hB1).setCell (p:=⟨w.heap.size,0,none⟩) (Nat.le_refl _) (.slice (some ⟨g,0,none⟩) cn c1));have hO2:=ho1.kept (grownBy_setCell w1 ⟨w.heap.size,0,none⟩ (.slice (some ⟨g,0,none⟩) cn c1)) (ho1.ne (show w.heap.size<W.heap.size by omega));obtain ⟨w2,hw2⟩:∃w2,w1.setCell ⟨w.heap.size,0,none⟩ (.slice (some ⟨g,0,none⟩) cn c1)=w2:=⟨_,rfl⟩;rw [hw2] at r1 R12 R22 HB2 hO2;have R02:=Lib.hid r1;have HW2:=Lib.hid hw2;have hth:=(hO2.row n (by rw [HRL.out]; exact hn)).2;have HTH:=Lib.hid hth;have hN:=hO2.setRow n (by rw [HRL.out]; exact hn) (r:=[.int .i64 cc,.slice up un uc,.bool cl]) rfl (by intro u hu; simp only [List.mem_cons,List.not_mem_nil,or_false] at hu; rcases hu with rfl | rfl | rfl <;> rfl);have hgW:w.heap.size+2<g:=by have:=(ltR R2); omega
 have hB3:=below_grown HB2.out (setCells_grown g [.int .i64 cc,.slice up un uc,.bool cl] (n * 3) w2) (by omega);have R03:=Lib.hid ((setCells_other g [.int .i64 cc,.slice up un uc,.bool cl] (n * 3) w2 w.heap.size (by omega)).trans R02.out);have R23:=Lib.hid ((setCells_other g [.int .i64 cc,.slice up un uc,.bool cl] (n * 3) w2 (w.heap.size+2) (by omega)).trans R22.out);obtain ⟨w3,hw3⟩:∃w3,w2.setCells g (n * 3) [.int .i64 cc,.slice up un uc,.bool cl]=w3:=⟨_,rfl⟩;rw [hw3] at hN hB3 R03 R23;have HW3:=Lib.hid hw3;have HN:=Lib.hid (And.intro hN hB3);have hnI:(n:Int)<(cn:Int):=by omega
 obtain ⟨x0,x1,x2⟩:=rowc3 R0.out;clear hrun hg1 hB1 ho1 r1 hw2 hth hN hB3 hw3 hO2;have z1:w1.cell? ⟨w.heap.size,0,none⟩=some (.slice ac cn kc):=(rowc3 R01.out).1;go_upto_region 2 with (at_builtin; refine Lib.wpList_append_run _ rfl _ _ _ _ rfl _ _ rfl rfl _ _ HRUN.out ?_)
 rw [HW2.out];try simp only [Act.put]
 clear x0 x1 x2 z1 fz HW2 HRUN;obtain ⟨x0,x1,x2⟩:=rowc3 R02.out;obtain ⟨y0,y1,y2⟩:=rowc3 R12.out;go_upto_region 3 with (refine wpList_store_mid rfl 63 _ _ rfl g (n * 3) _ rfl rfl HTH.out (by kernel_rfl) (by simp [Value.oneCell']) ?_)
 rw [HW3.out];try simp only [Act.put]
 clear x0 x1 x2 y0 y1 y2 HW3 HTH;obtain ⟨x0,x1,x2⟩:=rowc3 R03.out;go_wp2_with (refine wpList_store_row rfl 34 _ _ rfl (w.heap.size+2) _ rfl rfl 34 _ R23.out (by kernel_rfl) rfl (by simp [Value.oneCell']) ?_);refine bodyPost_ret (v:=.agg #[.slice (some ⟨g,0,none⟩) cn c1,.slice aw wn kw,.int .i64 tk]) (results_cell_row Try.results80 _ _ (w.heap.size+2) 34 _ (0,0) _ rfl (setRow_heap _ _ _ _ 34 (0,0) R23.out) Try.underlying34 rfl (by kernel_rfl)) rfl ?_;have hB4:=row_below HN.out.2 (show w.heap.size≤w.heap.size+2 by omega) #[.slice (some ⟨g,0,none⟩) cn c1,.slice aw wn kw,.int .i64 tk];exact ⟨_,rfl,HF2.out _ _ W.heap.size hB4 (HN.out.1.kept (row_grown w3 (w.heap.size+2) #[.slice (some ⟨g,0,none⟩) cn c1,.slice aw wn kw,.int .i64 tk]) (HN.out.1.ne (by omega))) (by omega),hB4⟩
def stayP (p:WaitM→Bool) (l:List WaitM) (k:Nat):List WaitM:=(l.take k).filter fun x=>!p x
def goneP (p:WaitM→Bool) (r:WaitM→ResM) (o:List DoneM) (l:List WaitM) (k:Nat):List DoneM:=((l.take k).filter p).foldl (fun o x=>addE o x.thr (r x)) o
theorem stayP_end (p:WaitM→Bool) (l:List WaitM):stayP p l l.length=l.filter fun x=>!p x:=by unfold stayP; rw [List.take_length]
theorem goneP_end (p:WaitM→Bool) (r:WaitM→ResM) (o:List DoneM) (l:List WaitM):goneP p r o l l.length=(l.filter p).foldl (fun o x=>addE o x.thr (r x)) o:=by unfold goneP; rw [List.take_length]
theorem stayP_next {p:WaitM→Bool} {l:List WaitM} {k:Nat} (hk:k<l.length):stayP p l (k+1)=stayP p l k ++ (if p (wat l k)=true then [] else [wat l k]):=by
 unfold stayP;rw [take_one hk,List.filter_append];unfold wat;rw [getD_lt hk];cases h:p l[k] <;> simp [h]
theorem goneP_next {p:WaitM→Bool} {r:WaitM→ResM} {o:List DoneM} {l:List WaitM} {k:Nat} (hk:k<l.length):goneP p r o l (k+1)=if p (wat l k)=true then addE (goneP p r o l k) (wat l k).thr (r (wat l k)) else goneP p r o l k:=by
 unfold goneP;rw [take_one hk,List.filter_append];unfold wat;rw [getD_lt hk];cases h:p l[k] <;> simp [h]
theorem goneP_len (p:WaitM→Bool) (r:WaitM→ResM) (o:List DoneM) (l:List WaitM):∀k,(goneP p r o l k).length≤o.length+k
 | 0=>by simp [goneP]
 | k+1=>by
  have ih:=goneP_len p r o l k;by_cases hk:k<l.length
  ·rw [goneP_next hk]
   split
   ·rw [addE_len]; omega
   ·omega
  ·have e:goneP p r o l (k+1)=goneP p r o l k:=by
    unfold goneP;rw [List.take_of_length_le (by omega),List.take_of_length_le (by omega)]
   rw [e]; omega
theorem goneP_ne {p:WaitM→Bool} {r:WaitM→ResM} {o:List DoneM} {l:List WaitM} (ho:o≠[]):∀k,goneP p r o l k≠[]
 | 0=>by simpa [goneP] using ho
 | k+1=>by
  by_cases hk:k<l.length
  ·rw [goneP_next hk]
   split
   ·exact addE_ne _ _ _
   ·exact goneP_ne ho k
  ·have e:goneP p r o l (k+1)=goneP p r o l k:=by
    unfold goneP;rw [List.take_of_length_le (by omega),List.take_of_length_le (by omega)]
   rw [e]; exact goneP_ne ho k
def nowP (p:WaitM→Bool) (l:List WaitM) (k:Nat):List WaitM:=stayP p l k ++ l.drop k
theorem nowP_at {p:WaitM→Bool} {l:List WaitM} {k:Nat} (hk:k<l.length):wat (nowP p l k) (stayP p l k).length=wat l k∧(stayP p l k).length<(nowP p l k).length:=by
 unfold nowP;refine ⟨?_,by simp; omega⟩;unfold wat;rw [List.getD_eq_getElem?_getD,List.getElem?_append_right (Nat.le_refl _),Nat.sub_self,List.getElem?_drop,Nat.add_zero,← List.getD_eq_getElem?_getD]
theorem nowP_stay {p:WaitM→Bool} {l:List WaitM} {k:Nat} (hk:k<l.length) (h:p (wat l k)=false):nowP p l (k+1)=nowP p l k∧(stayP p l (k+1)).length=(stayP p l k).length+1:=by
 unfold nowP;rw [stayP_next hk,if_neg (by rw [h]; decide)];refine ⟨?_,by simp⟩;rw [List.append_assoc];congr 1;unfold wat;rw [getD_lt hk];exact (List.drop_eq_getElem_cons hk).symm
theorem nowP_go {p:WaitM→Bool} {l:List WaitM} {k:Nat} (hk:k<l.length) (h:p (wat l k)=true):nowP p l (k+1)=(nowP p l k).take (stayP p l k).length ++ (nowP p l k).drop ((stayP p l k).length+1)∧stayP p l (k+1)=stayP p l k:=by
 have e:stayP p l (k+1)=stayP p l k:=by rw [stayP_next hk,if_pos h,List.append_nil]
 refine ⟨?_,e⟩;unfold nowP;rw [e,List.take_left,List.drop_append,show (stayP p l k).drop ((stayP p l k).length+1)=[] from List.drop_of_length_le (by omega),List.nil_append,show (stayP p l k).length+1 - (stayP p l k).length=1 by omega,List.drop_drop]
theorem nowP_end (p:WaitM→Bool) (l:List WaitM):nowP p l l.length=stayP p l l.length:=by unfold nowP; rw [List.drop_length,List.append_nil]
theorem nowP_mem {p:WaitM→Bool} {l:List WaitM} {k:Nat} {x:WaitM} (h:x∈nowP p l k):x∈l:=by
 unfold nowP at h;rcases List.mem_append.1 h with h | h
 ·exact List.mem_of_mem_take (List.mem_filter.1 h).1
 ·exact List.mem_of_mem_drop h
theorem nowP_len (p:WaitM→Bool) (l:List WaitM) (k:Nat):(nowP p l k).length≤l.length:=by
 unfold nowP stayP;rw [List.length_append,List.length_drop];have:=List.length_filter_le (fun x=>!p x) (l.take k);rw [List.length_take] at this;omega
theorem DeskM.ok.nowP {d:DeskM} (h:d.ok) (p:WaitM→Bool) (k:Nat):DeskM.ok ⟨d.chans,nowP p d.wait k,d.tick⟩:=
 ⟨h.cl,by have:=nowP_len p d.wait k; have:=h.wl; show (Go.Proofs.Ytiekicailidhcaa.nowP p d.wait k).length≤1000; omega,h.bf,fun x hx=>h.wop x (nowP_mem hx)⟩
def shutB (ch:Int) (pass:Bool) (x:WaitM):Bool:=decide (0≤sideI x.op ch pass)
def shutR (ch:Int) (pass:Bool) (x:WaitM):ResM:=⟨if pass then 5 else 2,namedI x.op (sideI x.op ch pass),0,false,0⟩
def passE (ch:Int) (pass:Bool) (q:DeskM × List DoneM):DeskM × List DoneM:=(⟨q.1.chans,q.1.wait.filter (fun x=>!shutB ch pass x),q.1.tick⟩,(q.1.wait.filter (shutB ch pass)).foldl (fun o x=>addE o x.thr (shutR ch pass x)) q.2)
def panD:ResM:=⟨5,-1,0,false,0⟩
def shutE (d:DeskM) (thr ch:Int):DeskM × List DoneM:=
 if exB d.chans ch=true∧(chE d.chans ch).closed=false then passE ch true (passE ch false (putD d ch.toNat { chE d.chans ch with closed:=true },[⟨thr,⟨6,-1,0,false,0⟩⟩]))
 else (d,[⟨thr,panD⟩])
end Go.Proofs.Ytiekicailidhcaa
