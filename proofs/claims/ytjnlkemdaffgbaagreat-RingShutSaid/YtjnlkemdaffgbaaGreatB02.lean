import Derived.Laws.AppendOwnNone
import Derived.Lib.AppendZeros
import Derived.Shelf.RegionOpenPlain
import Derived.Lib.SliceRun
import Derived.Deep.LoopGhost
import Derived.Deep.QuietTactic
import Derived.BigQuiet
import Derived.RegionTactic
import Derived.Deep.DeepCutAuto
import Derived.BigRegion
import Derived.Test.YtjnlkemdaffgbaaGreatRows
import Derived.Test.YtjnlkemdaffgbaaGreatB01
set_option linter.unusedVariables false
set_option linter.unusedSimpArgs false
namespace Go.Proofs.YtjnlkemdaffgbaaGreat
open Go.ChangeShapes Go.WideShapes Go.ChangeAt Go.RowKit
set_option maxRecDepth 100000
theorem run_append_zero {w:World} {T ty e:TypeId} {i:TypeInfo} (ht:Tryz.prog.underlying T=some (.slice e)) (hi:Tryz.prog.info? e=some i) (A B:Option Addr) (n c c':Nat) (hn:n≤c) :
  (Builtin.append_ #[T,T] ty #[.slice A n c,.slice B 0 c']).run Tryz.prog w=.ok (.slice A n c) w:=by
 cases A <;> cases B <;> simp [Builtin.append_,run_underlying ht,sizeOf,typeInfo,hi,Builtin.lenOf,Builtin.firstCells,storeCells,loadCells,loadCellsFrom,Result.andThen,hn]
theorem run_app_i64 (w:World) (ty:TypeId) (base:Nat) (v:Value) (l:List Int) (hown:OwnI w base 3 .i64 v l) (xv:Value) (l2:List Int) (hS:SlI w .i64 xv l2)
  (hl:l.length≤1000000) (hl2:l2.length≤1000000) (hb:base≤w.heap.size) :
  ∃v' w',(Builtin.append_ #[27,27] ty #[v,xv]).run Tryz.prog w=.ok v' w'∧OwnI w' base 3 .i64 v' (l ++ l2)∧w.grownBy w' v.ownBlock:=by
 obtain ⟨i0,hi,hz0,hz1,hz2⟩:=info_parts Tryz.info_i64;by_cases hne:l2=[]
 ·subst hne
  obtain ⟨B,c',rfl,-⟩:=hS.len;have e:∃A c,v=.slice A l.length c∧l.length≤c:=by
   rcases hown.shape with ⟨rfl,rfl⟩ | ⟨g,cap,rfl,_,_,h,_⟩
   ·exact ⟨_,_,rfl,Nat.le_refl _⟩
   ·exact ⟨_,_,rfl,h⟩
  obtain ⟨A,c,rfl,hc⟩:=e;refine ⟨_,w,run_append_zero (by kernel_rfl) hi A B l.length c c' hc,by simpa using hown,grownBy_refl _ _⟩
 ·obtain ⟨b,off,cap,rfl,hcap,hbk,hc⟩:=hS.open hne
  obtain ⟨v',w',hr,h2,h3,-⟩:=run_append_own (P:=Tryz.prog) w base 27 ty 3 i0 (.int .i64 0) 1 _ (by kernel_rfl) hi hz0 hz1 rfl rfl (by decide) v l.length _ hown ⟨b,off,none⟩ l2.length cap (l2.map (Value.int .i64)) (by simp) (by
   intro j u hj;rw [add_plain];simp only [List.getElem?_map,Option.map_eq_some_iff] at hj;obtain ⟨y,hy,rfl⟩:=hj;have hjl:j<l2.length:=(List.getElem?_eq_some_iff.1 hy).1;rw [hc j hjl,List.getD_eq_getElem?_getD,hy]; rfl) (by intro u hu; simp only [List.mem_map] at hu; obtain ⟨y,_,rfl⟩:=hu; rfl) (by unfold maxLen; omega) (by rw [hz2]; omega) hb
  refine ⟨v',w',hr,?_,h3⟩;unfold OwnI;rw [List.length_append,List.map_append];exact h2
theorem step_app_i64 {w:World} {ops:Array Oper} {o:Oper} {a:Act} {K:Act→World→Prop} {Q:Exit→Act→World→Prop} {E:Prop}
  (hgd:o.guard=none) (s x:Operand) (hop:o.op=Op.call { callee:=Callee.builtin Builtin.append,args:=#[s,x],argTypes:=#[27,27] })
  (base:Nat) (v:Value) (l:List Int) (hs:a.eval s=v) (hown:OwnI w base 3 .i64 v l) (xv:Value) (l2:List Int) (hx:a.eval x=xv) (hS:SlI w .i64 xv l2)
  (hl:l.length≤1000000) (hl2:l2.length≤1000000) (hb:base≤w.heap.size)
  (hK:∀v' w',OwnI w' base 3 .i64 v' (l ++ l2)→w.grownBy w' v.ownBlock→K (a.put o.dst v') w') :
  if Region.wanted o (yielded ops a.tmps)=true then Oper.wp Tryz.prog o a w K Q else E:=by
 have hw:Region.wanted o (yielded ops a.tmps)=true:=by simp [Region.wanted,hgd]
 rw [if_pos hw];obtain ⟨v',w',hr,h1,h2⟩:=run_app_i64 w o.type base v l hown xv l2 hS hl hl2 hb;exact Lib.wp_append_run w s x _ _ hop _ _ hs hx v' w' hr (hK v' w' h1 h2)
theorem run_copy_u64 (w:World) (ty:TypeId) (B:Nat) (hB:B≤w.heap.size) (s:Value) (hs:w.ownsRow B 42 1 s 0 []) (xv:Value) (l:List Int) (hS:SlI w .u64 xv l) (hl:l.length≤1000000) :
  ∃v' w',(Builtin.append_ #[28,28] ty #[s,xv]).run Tryz.prog w=.ok v' w'∧OwnI w' B 42 .u64 v' l∧w.grownBy w' s.ownBlock:=by
 obtain ⟨i0,hi,hz0,hz1,hz2⟩:=info_parts Tryz.info_u64;by_cases hne:l=[]
 ·subst hne
  obtain ⟨B,c',rfl,-⟩:=hS.len;have e:∃A c,s=.slice A 0 c∧0≤c:=by
   rcases hs.2 with ⟨rfl,_⟩ | ⟨g,cap,cur,rfl,_⟩
   ·exact ⟨_,_,rfl,Nat.le_refl _⟩
   ·exact ⟨_,_,rfl,Nat.zero_le _⟩
  obtain ⟨A,c,rfl,hc⟩:=e;exact ⟨_,w,run_append_zero (by kernel_rfl) hi A B 0 c c' hc,hs,grownBy_refl _ _⟩
 ·obtain ⟨b,off,cap,rfl,hcap,hbk,hc⟩:=hS.open hne
  obtain ⟨v',w',hr,h2,h3,-⟩:=run_append_own (P:=Tryz.prog) w B 28 ty 42 i0 (.int .u64 0) 1 _ (by kernel_rfl) hi hz0 hz1 rfl rfl (by decide) s 0 _ hs ⟨b,off,none⟩ l.length cap (l.map (Value.int .u64)) (by simp) (by
   intro j u hj;rw [add_plain];simp only [List.getElem?_map,Option.map_eq_some_iff] at hj;obtain ⟨y,hy,rfl⟩:=hj;have hjl:j<l.length:=(List.getElem?_eq_some_iff.1 hy).1;rw [hc j hjl,List.getD_eq_getElem?_getD,hy]; rfl) (by intro u hu; simp only [List.mem_map] at hu; obtain ⟨y,_,rfl⟩:=hu; rfl) (by unfold maxLen; omega) (by rw [hz2]; omega) hB
  refine ⟨v',w',hr,?_,h3⟩;unfold OwnI;simpa using h2
theorem Tryz.info_li:(Tryz.prog.info? 27).map (fun i=>(i.zero,i.size,i.bytes))=some (some (.slice none 0 0),1,24):=by kernel_rfl
theorem SlI.one {w:World} {k:IntKind} {v:Value} {l:List Int} (h:SlI w k v l):v.oneCell'=true:=by
 obtain ⟨_,_,a,cap,rfl,_⟩:=h; rfl
theorem row_read {w:World} {base:Nat} {v:Value} {us:List Value} {ll:List (List Int)} (h:w.ownsRow base 27 1 v ll.length us) (he:∀t,t<ll.length→SlI w .i64 (us.getD t (.slice none 0 0)) (ll.getD t [])) (hl:ll.length≤140737488351232):SlL w v us ll:=by
 have hus:us.length=ll.length:=by have:=h.1; omega
 refine ⟨hl,hus,?_⟩;have h0:=h;rcases h.2 with ⟨rfl,h2⟩ | ⟨g,cap,cur,rfl,h3,h4,h5,h6,h7,h8⟩
 ·exact ⟨none,0,by rw [h2],by omega,fun t ht=>by omega⟩
 ·refine ⟨some ⟨g,0,none⟩,cap,rfl,h5,fun t ht=>⟨g,0,rfl,(Array.getElem?_eq_some_iff.1 h4).1,?_,he t ht⟩⟩
  rw [Nat.zero_add,World.ownsRow.cellAt h0 t (by omega)];simp [List.getD_eq_getElem?_getD,show t<us.length by omega]
theorem each_set {w:World} {us:List Value} {ll:List (List Int)} (hus:us.length=ll.length) (i:Nat) {u:Value} {l:List Int} (hu:SlI w .i64 u l) (hk:∀t,t<ll.length→SlI w .i64 (us.getD t (.slice none 0 0)) (ll.getD t [])) :
  ∀t,t<(ll.set i l).length→SlI w .i64 ((us.set i u).getD t (.slice none 0 0)) ((ll.set i l).getD t []):=by
 intro t ht;have ht':t<ll.length:=by simpa using ht
 rw [getD_setL,getD_setL];by_cases e:i=t
 ·simpa [e,hus,ht'] using hu
 ·simpa [e] using hk t ht'
theorem SlL.each {w:World} {v:Value} {us:List Value} {ll:List (List Int)} (h:SlL w v us ll):∀t,t<ll.length→SlI w .i64 (us.getD t (.slice none 0 0)) (ll.getD t []):=by
 obtain ⟨_,_,_,_,_,_,h5⟩:=h;intro t ht;obtain ⟨_,_,_,_,_,h⟩:=h5 t ht;exact h
theorem run_copy_li (w:World) (ty:TypeId) (B:Nat) (hB:B≤w.heap.size) (s:Value) (hs:w.ownsRow B 27 1 s 0 []) (xv:Value) (us:List Value) (ll:List (List Int)) (hS:SlL w xv us ll) (hl:ll.length≤1000000) :
  ∃v' w',(Builtin.append_ #[31,31] ty #[s,xv]).run Tryz.prog w=.ok v' w'∧w'.ownsRow B 27 1 v' ll.length us∧w.grownBy w' s.ownBlock:=by
 obtain ⟨i0,hi,hz0,hz1,hz2⟩:=info_parts Tryz.info_li;have hus:=hS.2.1;by_cases hne:ll=[]
 ·subst hne
  obtain rfl:us=[]:=List.length_eq_zero_iff.1 hus;obtain ⟨C,c',rfl,-⟩:=hS.len;have e:∃A c,s=.slice A 0 c∧0≤c:=by
   rcases hs.2 with ⟨rfl,_⟩ | ⟨g,cap,cur,rfl,_⟩
   ·exact ⟨_,_,rfl,Nat.le_refl _⟩
   ·exact ⟨_,_,rfl,Nat.zero_le _⟩
  obtain ⟨A,c,rfl,hc⟩:=e;exact ⟨_,w,run_append_zero (by kernel_rfl) hi A C 0 c c' hc,hs,grownBy_refl _ _⟩
 ·obtain ⟨b,off,cap,rfl,hcap,hbk,hc,hu⟩:=hS.open hne
  obtain ⟨v',w',hr,h2,h3,-⟩:=run_append_own (P:=Tryz.prog) w B 31 ty 27 i0 (.slice none 0 0) 1 _ (by kernel_rfl) hi hz0 hz1 rfl rfl (by decide) s 0 _ hs ⟨b,off,none⟩ ll.length cap us (by omega) (by
   intro j u hj;rw [add_plain];have hjl:j<us.length:=(List.getElem?_eq_some_iff.1 hj).1;rw [hc j (by omega),List.getD_eq_getElem?_getD,hj]; rfl) (by
   intro u hu';obtain ⟨j,hj,rfl⟩:=List.mem_iff_getElem.1 hu';have:=(hu j (by omega)).one;simpa [List.getD_eq_getElem?_getD,hj] using this) (by unfold maxLen; omega) (by rw [hz2]; omega) hB
  refine ⟨v',w',hr,by simpa using h2,h3⟩
structure FstL (l:List Int) (x:Int) (i:Nat):Prop where
 lt:i<l.length
 hit:l.getD i 0=x
 miss:∀j,j<i→l.getD j 0≠x
theorem erase_none (l:List Int) (x:Int) (h:∀j,j<l.length→l.getD j 0≠x):l.erase x=l:=by
 refine List.erase_of_not_mem fun hm=>?_;obtain ⟨j,hj,e⟩:=List.mem_iff_getElem.1 hm;exact h j hj (by simpa [List.getD_eq_getElem?_getD,hj] using e)
theorem FstL.erase {l:List Int} {x:Int} {i:Nat} (h:FstL l x i):l.erase x=l.take i ++ l.drop (i+1):=by
 induction l generalizing i with
 | nil=>exact absurd h.lt (by simp)
 | cons y l ih=>
  cases i with
  | zero=>
   have e:y=x:=by simpa using h.hit
   subst e;simp
  | succ i=>
   have e:y≠x:=by simpa using h.miss 0 (Nat.succ_pos _)
   have hi:FstL l x i:=⟨by simpa using h.lt,by simpa using h.hit,fun j hj=>by simpa using h.miss (j+1) (by omega)⟩;rw [List.erase_cons_tail (by simpa using e),ih hi];simp
theorem rword_any (v:Value) (m:MemM) (x:Int) (w:World) (h:MemV w v m) :
  Calls Tryz.prog 71 #[v,.int .i64 x] w fun e w'=>e=.returned (.bool (hasB m.words.length x))∧Below w.heap.size w w':=by
 obtain ⟨vw,vl,us,rfl,h1,h2⟩:=h;have hl:=h1.1;have hl2:=h2.1;obtain ⟨a,cap,rfl,-⟩:=h1.len;obtain ⟨a2,cap2,rfl,-⟩:=h2.len;clear h1 h2;generalize m.words.length=n at *;generalize m.lists.length=n2 at *;by_cases h0:0≤x
 ·have hd:decide (0≤x)=true:=by simpa using h0
  go_enter Tryz.func71,Tryz.ntmps71;go_wp2;go_ret;exact ⟨ret_bool (by simp [hasB,h0]),below_new (Below.refl _ _) _⟩
 ·have hd:decide (0≤x)=false:=by simpa using h0
  go_enter Tryz.func71,Tryz.ntmps71;go_wp2;go_ret;exact ⟨ret_bool (by simp only [hasB,hd,Bool.false_and]),below_new (Below.refl _ _) _⟩
theorem rlist_any (v:Value) (m:MemM) (x:Int) (w:World) (h:MemV w v m) :
  Calls Tryz.prog 68 #[v,.int .i64 x] w fun e w'=>e=.returned (.bool (hasB m.lists.length x))∧Below w.heap.size w w':=by
 obtain ⟨vw,vl,us,rfl,h1,h2⟩:=h;have hl:=h1.1;have hl2:=h2.1;obtain ⟨a,cap,rfl,-⟩:=h1.len;obtain ⟨a2,cap2,rfl,-⟩:=h2.len;clear h1 h2;generalize m.words.length=n at *;generalize m.lists.length=n2 at *;by_cases h0:0≤x
 ·have hd:decide (0≤x)=true:=by simpa using h0
  go_enter Tryz.func68,Tryz.ntmps68;go_wp2;go_ret;exact ⟨ret_bool (by simp [hasB,h0]),below_new (Below.refl _ _) _⟩
 ·have hd:decide (0≤x)=false:=by simpa using h0
  go_enter Tryz.func68,Tryz.ntmps68;go_wp2;go_ret;exact ⟨ret_bool (by simp only [hasB,hd,Bool.false_and]),below_new (Below.refl _ _) _⟩
def zeroMem:Array Value:=#[.slice none 0 0,.slice none 0 0,.int .i64 0]
set_option maxHeartbeats 1000000 in
theorem rset_any (G:World→Prop) (v:Value) (m:MemM) (i:Nat) (u:Int) (w:World) (hG:G w) (hcl:Wide G) (h:StM G v m) (hi:i<m.words.length) (hm:m.fits) (hu:u=IntKind.u64.wrap u) :
  Calls Tryz.prog 72 #[v,.int .i64 i,.int .u64 u] w fun e w'=>∃v',e=.returned v'∧StM (Nx G w w') v' ⟨m.words.set i u,m.lists,m.tick⟩∧Below w.heap.size w w':=by
 obtain ⟨vw,vl,us,rfl,hall⟩:=h;obtain ⟨h1,h2⟩:=hall w hG;have HW0:=Lib.hid h1;have hw1:=hm.words;obtain ⟨a,cap,rfl,-⟩:=h1.len;obtain ⟨a2,cap2,rfl,-⟩:=h2.len;have HM:=Lib.hid hm;have HU:=Lib.hid hu;have HALL:=Lib.hid hall;clear h1 h2 hm hu hall hG hcl;obtain ⟨W,hW⟩:∃W,(w.alloc (.cells #[.slice a m.words.length cap,.slice a2 m.lists.length cap2,.int .i64 m.tick] 33)).alloc (.cells zeroMem 33)=W:=⟨_,rfl⟩;have HB:Hid (Below w.heap.size w W):=hW▸below_new (below_new (Below.refl w.heap.size w) _) _;have hz:w.heap.size+2≤W.heap.size:=by rw [← hW]; simp
 have R0:Hid (W.heap[w.heap.size]?=some (.cells #[.slice a m.words.length cap,.slice a2 m.lists.length cap2,.int .i64 m.tick] 33 (0,0))):=hW▸heap_alloc2_old _ _ _;have R1:Hid (W.heap[w.heap.size+1]?=some (.cells zeroMem 33 (0,0))):=hW▸heap_alloc2_new _ _ _;have HW:=Lib.hid hW;clear hW;have c0:=cell_of_row _ _ 0 _ _ _ R0.out;simp at c0;go_enter Tryz.func72,Tryz.ntmps72;go_upto_region 1 with fail
 rw [show (#[.slice none 0 0,.slice none 0 0,.int .i64 0]:Array Value)=zeroMem from rfl,HW.out];obtain ⟨v1,w1,hr,ho,hg1⟩:=run_copy_u64 W 28 W.heap.size (Nat.le_refl _) (.slice none 0 0) (World.ownsRow_nil _ _ _ _) _ m.words (HW0.out.below HB.out) (by omega);have hb1:Below W.heap.size W w1:=(Below.refl _ _).grown hg1 (Nat.le_refl _) (fun j hj=>by cases hj);clear hg1;obtain ⟨g,cg,e1⟩:∃g c,v1=.slice (some ⟨g,0,none⟩) m.words.length c:=by
  rcases ho.shape with ⟨_,h⟩ | ⟨g,c,h,_⟩
  ·rw [h] at hi; simp at hi
  ·exact ⟨g,c,h⟩
 subst e1;have hgW:W.heap.size≤g:=ho.own_ge g rfl;have HO:=Lib.hid ho;have S0:=Lib.hid ((hb1.block w.heap.size (by omega)).trans R0.out);have S1:=Lib.hid ((hb1.block (w.heap.size+1) (by omega)).trans R1.out);have HB1:=Lib.hid (HB.out.trans (hb1.mono (by omega)));have hz1:w.heap.size+2≤w1.heap.size:=Nat.le_trans hz hb1.size;clear ho hb1;generalize hn:m.words.length=n at *;have HN:=Lib.hid hn;clear hn;obtain ⟨d0,d1,d2⟩:=rowc3 S0.out;have f0:=frozen_of_row _ _ 0 _ _ S0.out;have T0:=Lib.hid (heap_setCell_same w1 w.heap.size 0 _ _ (.slice (some ⟨g,0,none⟩) n cg) S0.out);simp at T0;obtain ⟨t0,t1,t2⟩:=rowc3 T0.out;have HO2:=Lib.hid (HO.out.setOther ⟨w.heap.size,0,none⟩ (by show g≠w.heap.size; omega) (.slice (some ⟨g,0,none⟩) n cg));obtain ⟨k0,k1⟩:=HO2.out.cell i (by rw [HN.out]; exact hi);have HO3:=Lib.hid (HO2.out.store i u HN.out.symm);have TROW:=Lib.hid ((heap_setCell_other (w1.setCell ⟨w.heap.size,0,none⟩ (.slice (some ⟨g,0,none⟩) n cg)) ⟨g,i,none⟩ (w.heap.size+1) (.int .u64 u) (by show w.heap.size+1≠g; omega)).trans ((heap_setCell_other w1 ⟨w.heap.size,0,none⟩ (w.heap.size+1) (.slice (some ⟨g,0,none⟩) n cg) (by simp)).trans S1.out));go_wp2_with (first | (at_builtin; refine Lib.wpList_append_run _ rfl _ _ _ _ rfl _ _ rfl rfl _ _ hr ?_) | (refine wpList_store_row rfl 33 _ _ rfl (w.heap.size+1) _ rfl rfl 33 zeroMem TROW.out (by kernel_rfl) rfl (by simp [Value.oneCell']) ?_));refine bodyPost_ret (v:=.agg #[.slice (some ⟨g,0,none⟩) n cg,.slice a2 m.lists.length cap2,.int .i64 m.tick]) (results_cell_row Tryz.results72 _ _ (w.heap.size+1) 33 _ (0,0) _ rfl (setRow_heap _ _ _ _ 33 (0,0) TROW.out) Tryz.underlying33 rfl (by kernel_rfl)) rfl ?_;have hbe:=row_below (((HB1.out.setCell (p:=⟨w.heap.size,0,none⟩) (Nat.le_refl _) (.slice (some ⟨g,0,none⟩) n cg)).setCell (p:=⟨g,i,none⟩) (by show w.heap.size≤g; omega) (.int .u64 u))) (Nat.le_succ _) #[.slice (some ⟨g,0,none⟩) n cg,.slice a2 m.lists.length cap2,.int .i64 m.tick];have hfi:=fits_put HM.out i u HU.out;refine ⟨_,rfl,⟨_,_,us,rfl,fun w2 hw2=>⟨((HO3.out.kept (row_grown _ _ _) (HO3.out.ne (by omega))).newPart (by omega) hw2.2).read ?_ hfi.wf,(HALL.out w2 hw2.1).2⟩⟩,hbe⟩
 have:=hfi.words;simp only at this ⊢;omega
set_option maxHeartbeats 1000000 in
theorem rput_any (G:World→Prop) (v:Value) (m:MemM) (i:Nat) (u:Value) (l:List Int) (w:World) (hG:G w) (hcl:Wide G) (h:StM G v m) (hi:i<m.lists.length) (hm:m.fits) (hu:StI G .i64 u l) :
  Calls Tryz.prog 70 #[v,.int .i64 i,u] w fun e w'=>∃v',e=.returned v'∧StM (Nx G w w') v' ⟨m.words,m.lists.set i l,m.tick⟩∧Below w.heap.size w w':=by
 obtain ⟨vw,vl,us,rfl,hall⟩:=h;obtain ⟨h1,h2⟩:=hall w hG;have hu0:=hu w hG;have hus:=h2.2.1;have HL:=Lib.hid h2;have hw1:=hm.lists;obtain ⟨a,cap,rfl,-⟩:=h1.len;obtain ⟨a2,cap2,rfl,-⟩:=h2.len;obtain ⟨ua,uc,rfl,-⟩:=hu0.len;have HALL:=Lib.hid hall;have HU:=Lib.hid hu;clear h1 h2 hm hu0 hall hG hcl hu;obtain ⟨W,hW⟩:∃W,(w.alloc (.cells #[.slice a m.words.length cap,.slice a2 m.lists.length cap2,.int .i64 m.tick] 33)).alloc (.cells zeroMem 33)=W:=⟨_,rfl⟩;have HB:Hid (Below w.heap.size w W):=hW▸below_new (below_new (Below.refl w.heap.size w) _) _;have hz:w.heap.size+2≤W.heap.size:=by rw [← hW]; simp
 have R0:Hid (W.heap[w.heap.size]?=some (.cells #[.slice a m.words.length cap,.slice a2 m.lists.length cap2,.int .i64 m.tick] 33 (0,0))):=hW▸heap_alloc2_old _ _ _;have R1:Hid (W.heap[w.heap.size+1]?=some (.cells zeroMem 33 (0,0))):=hW▸heap_alloc2_new _ _ _;have HW:=Lib.hid hW;clear hW;have c1:=cell_of_row _ _ 1 _ _ _ R0.out;simp at c1;go_enter Tryz.func70,Tryz.ntmps70;go_upto_region 1 with fail
 rw [show (#[.slice none 0 0,.slice none 0 0,.int .i64 0]:Array Value)=zeroMem from rfl,HW.out];obtain ⟨v1,w1,hr,ho,hg1⟩:=run_copy_li W 31 W.heap.size (Nat.le_refl _) (.slice none 0 0) (World.ownsRow_nil _ _ _ _) _ us m.lists (HL.out.below HB.out) (by omega);have hb1:Below W.heap.size W w1:=(Below.refl _ _).grown hg1 (Nat.le_refl _) (fun j hj=>by cases hj);clear hg1;obtain ⟨g,cg,e1,hgW,hg1⟩:∃g c,v1=.slice (some ⟨g,0,none⟩) m.lists.length c∧W.heap.size≤g∧g<w1.heap.size:=by
  rcases ho.2 with ⟨_,h⟩ | ⟨g,c,cur,h,h2,h3,_⟩
  ·omega
  ·exact ⟨g,c,h,h2,(Array.getElem?_eq_some_iff.1 h3).1⟩
 subst e1;have HO:=Lib.hid ho;have S0:=Lib.hid ((hb1.block w.heap.size (by omega)).trans R0.out);have S1:=Lib.hid ((hb1.block (w.heap.size+1) (by omega)).trans R1.out);have HB1:=Lib.hid (HB.out.trans (hb1.mono (by omega)));have hz1:w.heap.size+2≤w1.heap.size:=Nat.le_trans hz hb1.size;clear ho hb1;generalize hn:m.lists.length=n at *;have HN:=Lib.hid hn;clear hn;obtain ⟨d0,d1,d2⟩:=rowc3 S0.out;have f1:=frozen_of_row _ _ 1 _ _ S0.out;have T0:=Lib.hid (heap_setCell_same w1 w.heap.size 1 _ _ (.slice (some ⟨g,0,none⟩) n cg) S0.out);simp at T0;obtain ⟨t0,t1,t2⟩:=rowc3 T0.out;have hne:g≠w.heap.size:=by omega
 have gr1:=grownBy_setCell w1 ⟨w.heap.size,1,none⟩ (.slice (some ⟨g,0,none⟩) n cg);have hrow2:=HO.out.kept gr1 (.inr (by simpa [Value.ownBlock] using hne));have k0:(w1.setCell ⟨w.heap.size,1,none⟩ (.slice (some ⟨g,0,none⟩) n cg)).cell? ⟨g,i,none⟩=some (us.getD i (.slice none 0 0)):=by
  rw [World.ownsRow.cellAt hrow2 i (by omega)];simp [List.getD_eq_getElem?_getD,show i<us.length by omega]
 have k1:=hrow2.frozenAt i;have HR2:=Lib.hid hrow2;obtain ⟨uo,huo⟩:∃uo,us.getD i (.slice none 0 0)=uo:=⟨_,rfl⟩;rw [huo] at k0;clear hrow2 gr1 huo;have TROW:=Lib.hid ((heap_setCell_other (w1.setCell ⟨w.heap.size,1,none⟩ (.slice (some ⟨g,0,none⟩) n cg)) ⟨g,i,none⟩ (w.heap.size+1) (.slice ua l.length uc) (by show w.heap.size+1≠g; omega)).trans ((heap_setCell_other w1 ⟨w.heap.size,1,none⟩ (w.heap.size+1) (.slice (some ⟨g,0,none⟩) n cg) (by simp)).trans S1.out));go_wp2_with (first | (at_builtin; refine Lib.wpList_append_run _ rfl _ _ _ _ rfl _ _ rfl rfl _ _ hr ?_) | (refine wpList_store_row rfl 33 _ _ rfl (w.heap.size+1) _ rfl rfl 33 zeroMem TROW.out (by kernel_rfl) rfl (by simp [Value.oneCell']) ?_));refine bodyPost_ret (v:=.agg #[.slice a m.words.length cap,.slice (some ⟨g,0,none⟩) n cg,.int .i64 m.tick]) (results_cell_row Tryz.results70 _ _ (w.heap.size+1) 33 _ (0,0) _ rfl (setRow_heap _ _ _ _ 33 (0,0) TROW.out) Tryz.underlying33 rfl (by kernel_rfl)) rfl ?_;have hb2:=((HB1.out.setCell (p:=⟨w.heap.size,1,none⟩) (Nat.le_refl _) (.slice (some ⟨g,0,none⟩) n cg)).setCell (p:=⟨g,i,none⟩) (by show w.heap.size≤g; omega) (.slice ua l.length uc));have hbe:=row_below hb2 (Nat.le_succ _) #[.slice a m.words.length cap,.slice (some ⟨g,0,none⟩) n cg,.int .i64 m.tick];have r3:=(World.ownsRow.stored HR2.out i (.slice ua l.length uc)).1.kept (row_grown _ (w.heap.size+1) #[.slice a m.words.length cap,.slice (some ⟨g,0,none⟩) n cg,.int .i64 m.tick]) (.inr (by simp [Value.ownBlock]; omega));refine ⟨_,rfl,⟨_,_,us.set i (.slice ua l.length uc),rfl,fun w2 hw2=>⟨(HALL.out w2 hw2.1).1,?_⟩⟩,hbe⟩;refine row_read (base:=W.heap.size) ?_ (each_set (by rw [hus,HN.out]) i (HU.out w2 hw2.1) (HALL.out w2 hw2.1).2.each) (by rw [List.length_set,HN.out]; omega);rw [List.length_set,HN.out];exact row_newPart r3 (by omega) hw2.2
structure Ext (W:World) where
 wd:World
 below:Below W.heap.size W wd
instance (W:World):Nonempty (Ext W):=⟨⟨W,Below.refl _ _⟩⟩
theorem wp_region_ext {P:Program} {id:Nat} {Q:Exit→Act→World→Prop} {a:Act} {w:World} {l:List Oper} (W:World) (hm:P.follows .mixedOrders=true) (hB:Region.lexB .any l.toArray=true) (hW:Below W.heap.size W w)
  (h:wpQuiet P l.toArray (fun w'=>∃n:Ext W,w'=n.wd) (fun a'=>∀w',(∃n:Ext W,w'=n.wd)→Q .normal a' w') l a):(Code.region id l.toArray true).wp P Q a w:=
 wp_region_quiet (C:=fun w'=>∃n:Ext W,w'=n.wd) hm hB ⟨⟨_,below_drewN hW 1⟩,rfl⟩ (by simpa using h)
theorem calls_ext {P:Program} {f:FuncId} {args:Array Value} {W:World} {n:Ext W} {v:Value}
  (h:Calls P f args n.wd fun e w'=>e=.returned v∧Below n.wd.heap.size n.wd w'):Calls P f args n.wd fun e w''=>e=.returned v∧∃m:Ext W,w''=m.wd:=
 h.mono fun _ w' ⟨he,hm⟩=>⟨he,⟨w',below_then n.below hm⟩,rfl⟩
theorem ext_cell {W:World} (b o:Nat) (h:b<W.heap.size) (v:Value) (hc:W.cell? ⟨b,o,none⟩=some v) (n:Ext W):n.wd.cell? ⟨b,o,none⟩=some v:=(n.below.cell (p:=⟨b,o,none⟩) h).trans hc
theorem ne_beq {x c:Int} (h:x≠c):(x == c)=false:=by simpa using h
theorem hasB_true {n:Nat} {x:Int} (h:hasB n x=true):∃i:Nat,x=i∧i<n:=by
 simp only [hasB,Bool.and_eq_true,decide_eq_true_eq] at h;exact ⟨x.toNat,by omega,by omega⟩
theorem results_cells3 {fn:Func} {P:Program} {p q u:Tmp} {t1 t2:TypeId} (h:fn.results=#[.cell p t1,.cell q t2,.tmp u]) (tmps:Array Value) (w:World) (g1 g2:Nat) (u1 u2:TypeId) (c1 c2:Array Value) (f1 f2:Nat × Nat) (d1 d2:TypeDesc)
  (hp:tmps.getD p undef=.pointer (some ⟨g1,0,none⟩)) (hq:tmps.getD q undef=.pointer (some ⟨g2,0,none⟩)) (hg1:w.heap[g1]?=some (.cells c1 u1 f1)) (hg2:w.heap[g2]?=some (.cells c2 u2 f2))
  (hu1:P.underlying t1=some d1) (hd1:(match d1 with | .struct _ | .array _ _=>true | _=>false)=true) (hi1:(P.info? t1).map (·.size)=some c1.size)
  (hu2:P.underlying t2=some d2) (hd2:(match d2 with | .struct _ | .array _ _=>true | _=>false)=true) (hi2:(P.info? t2).map (·.size)=some c2.size) (x:Value) (hx:tmps.getD u undef=x) :
  (results fn tmps).run P w=.ok (.tuple #[.agg c1,.agg c2,x]) w:=by
 have hp':tmps[p]?.getD undef=.pointer (some ⟨g1,0,none⟩):=by simpa using hp
 have hq':tmps[q]?.getD undef=.pointer (some ⟨g2,0,none⟩):=by simpa using hq
 have hx':tmps[u]?.getD undef=x:=by simpa using hx
 simp [results,h,hp',hq',hx',asAddr,run_loadVar_row w g1 u1 t1 c1 f1 d1 hg1 hu1 hd1 hi1,run_loadVar_row w g2 u2 t2 c2 f2 d2 hg2 hu2 hd2 hi2]
theorem heap_alloc4 (w:World) (A B C D:Obj):let W:=(((w.alloc A).alloc B).alloc C).alloc D
  W.heap[w.heap.size]?=some A∧W.heap[w.heap.size+1]?=some B∧W.heap[w.heap.size+2]?=some C∧W.heap[w.heap.size+3]?=some D∧W.heap.size=w.heap.size+4∧Below w.heap.size w W:=by
 intro W;have hs:((w.alloc A).alloc B).heap.size=w.heap.size+2:=by simp
 have hb:=below_new (below_new (Below.refl ((w.alloc A).alloc B).heap.size ((w.alloc A).alloc B)) C) D;have e2:=heap_alloc2_old ((w.alloc A).alloc B) C D;have e3:=heap_alloc2_new ((w.alloc A).alloc B) C D;rw [hs] at e2 e3 hb;exact ⟨(hb.block _ (by omega)).trans (heap_alloc2_old w A B),(hb.block _ (by omega)).trans (heap_alloc2_new w A B),e2,e3,by simp [W],below_new (below_new (below_new (below_new (Below.refl _ _) _) _) _) _⟩
def zeroAns:Array Value:=#[.int .u64 0,.bool false,.bool false,.slice none 0 0]
theorem word_none {m:MemM} {a:AccM} (h:hasB m.words.length a.addr=false):wordE m a=(m,ansZ):=by simp [wordE,h]
theorem word_put {m:MemM} {k ad old nw til:Int} (h:hasB m.words.length ad=true) (hk:k=2∨k=6):wordE m ⟨k,ad,old,nw,til⟩=(⟨m.words.set ad.toNat nw,m.lists,m.tick⟩,ansZ):=by simp [wordE,h,hk]
theorem word_cas {m:MemM} {ad old nw til:Int} (h:hasB m.words.length ad=true) (hk:m.words.getD ad.toNat 0=old):wordE m ⟨3,ad,old,nw,til⟩=(⟨m.words.set ad.toNat nw,m.lists,m.tick⟩,⟨m.words.getD ad.toNat 0,true,false,[]⟩):=by unfold wordE; simp only [h]; simp only [List.getD_eq_getElem?_getD] at *; simp [hk]
theorem word_miss {m:MemM} {ad old nw til:Int} (h:hasB m.words.length ad=true) (hk:m.words.getD ad.toNat 0≠old):wordE m ⟨3,ad,old,nw,til⟩=(m,⟨m.words.getD ad.toNat 0,false,false,[]⟩):=by unfold wordE; simp only [h]; simp only [List.getD_eq_getElem?_getD] at *; simp [hk]
theorem word_wait {m:MemM} {ad old nw til:Int} (h:hasB m.words.length ad=true):wordE m ⟨4,ad,old,nw,til⟩=(m,⟨m.words.getD ad.toNat 0,false,m.words.getD ad.toNat 0 == old,[]⟩):=by unfold wordE; simp [h]
theorem word_load {m:MemM} {k ad old nw til:Int} (h:hasB m.words.length ad=true) (h2:k≠2) (h3:k≠3) (h4:k≠4) (h6:k≠6):wordE m ⟨k,ad,old,nw,til⟩=(m,⟨m.words.getD ad.toNat 0,false,false,[]⟩):=by unfold wordE; simp [h,h2,h3,h4,h6]
theorem StM.open {G:World→Prop} {v:Value} {m:MemM} (h:StM G v m) (w:World) (hG:G w):∃a cap a2 cap2,v=.agg #[.slice a m.words.length cap,.slice a2 m.lists.length cap2,.int .i64 m.tick]:=by
 obtain ⟨vw,vl,us,rfl,hall⟩:=h;obtain ⟨h1,h2⟩:=hall w hG;obtain ⟨a,cap,rfl,-⟩:=h1.len;obtain ⟨a2,cap2,rfl,-⟩:=h2.len;exact ⟨_,_,_,_,rfl⟩
theorem StM.words {G:World→Prop} {a a2:Option Addr} {n cap n2 cap2:Nat} {t:Int} {m:MemM} (h:StM G (.agg #[.slice a n cap,.slice a2 n2 cap2,.int .i64 t]) m) (w:World) (hG:G w):SlI w .u64 (.slice a n cap) m.words:=by
 obtain ⟨vw,vl,us,e,hall⟩:=h;obtain ⟨h1,h2⟩:=hall w hG;simp only [Value.agg.injEq,Array.mk.injEq,List.cons.injEq,and_true] at e;rw [e.1]; exact h1
theorem StM.listsOf {G:World→Prop} {a a2:Option Addr} {n cap n2 cap2:Nat} {t:Int} {m:MemM} (h:StM G (.agg #[.slice a n cap,.slice a2 n2 cap2,.int .i64 t]) m):∃us,∀w,G w→SlL w (.slice a2 n2 cap2) us m.lists:=by
 obtain ⟨vw,vl,us,e,hall⟩:=h;simp only [Value.agg.injEq,Array.mk.injEq,List.cons.injEq,and_true] at e;exact ⟨us,fun w hG=>by rw [e.2.1]; exact (hall w hG).2⟩
structure ItemM where
 thr:Int
 acc:AccM
 val:Int
 ok:Bool
def noItem:ItemM:=⟨0,⟨0,0,0,0,0⟩,0,false⟩
structure ItemM.good (x:ItemM):Prop where
 thr:x.thr=IntKind.i64.wrap x.thr
 acc:x.acc.ok
 val:x.val=IntKind.u64.wrap x.val
def itemCells (x:ItemM):List Value:=[.int .i64 x.thr,.int .i64 x.acc.kind,.int .i64 x.acc.addr,.int .u64 x.acc.old,.int .u64 x.acc.new,.int .i64 x.acc.til,.int .u64 x.val,.bool x.ok]
def itemV (x:ItemM):Value:=.agg #[.int .i64 x.thr,.int .i64 x.acc.kind,.int .i64 x.acc.addr,.int .u64 x.acc.old,.int .u64 x.acc.new,.int .i64 x.acc.til,.int .u64 x.val,.bool x.ok]
theorem rowc8 {w:World} {g:Nat} {T:TypeId} {v0 v1 v2 v3 v4 v5 v6 v7:Value} (h:w.heap[g]?=some (.cells #[v0,v1,v2,v3,v4,v5,v6,v7] T (0,0))) :
  w.cell? ⟨g,0,none⟩=some v0∧w.cell? ⟨g,1,none⟩=some v1∧w.cell? ⟨g,2,none⟩=some v2∧w.cell? ⟨g,3,none⟩=some v3∧w.cell? ⟨g,4,none⟩=some v4∧w.cell? ⟨g,5,none⟩=some v5∧w.cell? ⟨g,6,none⟩=some v6∧w.cell? ⟨g,7,none⟩=some v7:=
 ⟨cell_of_row _ _ 0 _ _ _ h,cell_of_row _ _ 1 _ _ _ h,cell_of_row _ _ 2 _ _ _ h,cell_of_row _ _ 3 _ _ _ h,cell_of_row _ _ 4 _ _ _ h,cell_of_row _ _ 5 _ _ _ h,cell_of_row _ _ 6 _ _ _ h,cell_of_row _ _ 7 _ _ _ h⟩
def CodesAt (w:World) (g:Nat) (r:List Int) (val:Int):Prop:=
 ∃v l,∃k:Nat,w.heap[g]?=some (.cells #[v,.int .i64 k,.int .u64 val] 95 (0,0))∧SlI w .u8 v l∧k≤l.length∧r=l.drop k∧(l≠[]→∀a n c,v=.slice a n c→∀b,a=some b→b.block<g)
theorem CodesAt.drew {w:World} {g:Nat} {r:List Int} {val:Int} (h:CodesAt w g r val) (n:Nat):CodesAt (w.drewN n) g r val:=h
theorem CodesAt.lt {w:World} {g:Nat} {r:List Int} {val:Int} (h:CodesAt w g r val):g<w.heap.size:=by
 obtain ⟨v,l,k,hg,_⟩:=h;exact (Array.getElem?_eq_some_iff.1 hg).1
theorem CodesAt.kept {w w':World} {g B:Nat} {r:List Int} {val:Int} (h:CodesAt w g r val) (hB:g<B) (hb:Below B w w'):CodesAt w' g r val:=by
 obtain ⟨v,l,k,hg,⟨m1,m2,a,cap,rfl,hcap,h5⟩,hk,hr,h4⟩:=h;refine ⟨_,l,k,(hb.block g hB).trans hg,⟨m1,m2,a,cap,rfl,hcap,fun t ht=>?_⟩,hk,hr,h4⟩;obtain ⟨b,off,e,hlt,hc⟩:=h5 t ht;have hbg:=h4 (by rintro rfl; simp at ht) _ _ _ rfl _ e;exact ⟨b,off,e,Nat.lt_of_lt_of_le hlt hb.size,(hb.cell (p:=⟨b,off+t,none⟩) (by simp at hbg ⊢; omega)).trans hc⟩
def nxt (r:List Int) (n:Int):Int:=match r with | []=>0 | c :: _=>c % n
theorem nxt_bd (r:List Int) (n:Int) (h:1≤n):0≤nxt r n∧nxt r n<n:=by
 unfold nxt;split
 ·omega
 ·exact ⟨Int.emod_nonneg _ (by omega),Int.emod_lt_of_pos _ (by omega)⟩
theorem left_any (g:Nat) (r:List Int) (val:Int) (w:World) (h:CodesAt w g r val) :
  Calls Tryz.prog 23 #[.pointer (some ⟨g,0,none⟩)] w fun e w'=>∃n,e=.returned (.bool (!r.isEmpty))∧w.drewN n=w':=by
 obtain ⟨v,l,k,hg,hl,hk,rfl,_⟩:=h;have hmx:=hl.1;obtain ⟨a,cap,rfl,_⟩:=hl.len;have c0:=cell_of_row w g 0 _ _ _ hg;have c1:=cell_of_row w g 1 _ _ _ hg;simp at c0 c1;clear hg hl;have hr:((l.drop k).isEmpty)=decide (l.length≤k):=by
  rw [Bool.eq_iff_iff]; simp
 have HR:=Lib.hid hr;clear hr;go_enter Tryz.func23,Tryz.ntmps23;go_wp2;go_quiet (fail);go_wp2;go_ret;exact ⟨nq,ret_bool (by rw [HR.out]; by_cases e:k<l.length <;> simp [e] <;> omega),rfl⟩
theorem codes_step {w:World} {g:Nat} {val:Int} {b off n cap k:Nat} {l:List Int}
  (hg:w.heap[g]?=some (.cells #[.slice (some ⟨b,off,none⟩) n cap,.int .i64 k,.int .u64 val] 95 (0,0)))
  (hl:SlI w .u8 (.slice (some ⟨b,off,none⟩) n cap) l) (hlt:k<l.length) (hbg0:b<g) (m:Nat) :
  (CodesAt (w.setCell ⟨g,1,none⟩ (.int .i64 ((k:Int)+1))) g (l.drop k).tail val)∧
  w.grownBy ((w.setCell ⟨g,1,none⟩ (.int .i64 ((k:Int)+1))).drewN m) (some g)∧
  (w.setCell ⟨g,1,none⟩ (.int .i64 ((k:Int)+1))).cell? ⟨g,0,none⟩=some (.slice (some ⟨b,off,none⟩) n cap)∧
  (w.setCell ⟨g,1,none⟩ (.int .i64 ((k:Int)+1))).cell? ⟨g,1,none⟩=some (.int .i64 ((k:Int)+1))∧
  (w.setCell ⟨g,1,none⟩ (.int .i64 ((k:Int)+1))).cell? ⟨b,off+k,none⟩=some (.int .u8 (l.getD k 0)):=by
 have hbg:b≠g:=by omega
 have hs:=heap_setCell_same w g 1 _ _ (.int .i64 ((k:Int)+1)) hg;have ho:∀j,j≠g→(w.setCell ⟨g,1,none⟩ (.int .i64 ((k:Int)+1))).heap[j]?=w.heap[j]?:=fun j hj=>heap_setCell_other w ⟨g,1,none⟩ j _ hj;have e0:=cell_of_row _ g 0 _ _ _ hs;have e1:=cell_of_row _ g 1 _ _ _ hs;have hcell:∀j,(w.setCell ⟨g,1,none⟩ (.int .i64 ((k:Int)+1))).cell? ⟨b,j,none⟩=w.cell? ⟨b,j,none⟩:=fun j=>World.cell?_of_block (ho b hbg);obtain ⟨m1,m2,a',cap',e,hle,h5⟩:=hl;simp only [Value.slice.injEq] at e;obtain ⟨rfl,rfl,rfl⟩:=e;have hsz:(w.setCell ⟨g,1,none⟩ (.int .i64 ((k:Int)+1))).heap.size=w.heap.size:=by simp
 refine ⟨⟨_,l,k+1,by simpa using hs,⟨m1,m2,_,_,rfl,hle,fun t ht=>?_⟩,hlt,by rw [List.tail_drop],?_⟩,⟨rfl,rfl,rfl,by simp,fun j _ hj=>ho j (fun e=>hj (by rw [e]))⟩,by simpa using e0,by simpa using e1,?_⟩
 ·obtain ⟨b1,o1,e2,h6,h7⟩:=h5 t ht
  simp only [Option.some.injEq,Addr.mk.injEq,and_true] at e2;obtain ⟨rfl,rfl⟩:=e2;exact ⟨_,_,rfl,by rw [hsz]; exact h6,(hcell _).trans h7⟩
 ·intro _ a n c e bb e2
  simp only [Value.slice.injEq] at e;rw [← e.1] at e2;cases e2;exact hbg0
 ·obtain ⟨b1,o1,e2,h6,h7⟩:=h5 k hlt
  simp only [Option.some.injEq,Addr.mk.injEq,and_true] at e2;obtain ⟨rfl,rfl⟩:=e2;exact (hcell _).trans h7
theorem next_any (g:Nat) (r:List Int) (val n:Int) (w:World) (h:CodesAt w g r val) (h1:1≤n) (h2:n≤256) :
  Calls Tryz.prog 21 #[.pointer (some ⟨g,0,none⟩),.int .i64 n] w fun e w'=>e=.returned (.int .i64 (nxt r n))∧CodesAt w' g r.tail val∧w.grownBy w' (some g):=by
 have h0:=h;obtain ⟨v,l,k,hg,hl,hk,hr,hv⟩:=h;have hmx:=hl.1;by_cases hlt:k<l.length
 ·obtain ⟨b,off,cap,rfl,hcap,hb,hc⟩:=hl.open (by rintro rfl; simp at hlt)
  have c0:=cell_of_row w g 0 _ _ _ hg;have c1:=cell_of_row w g 1 _ _ _ hg;have f1:=frozen_of_row w g 1 _ _ hg;simp at c0 c1;have hu:=hl.2.1 (l.getD k 0) (by simp [List.getD_eq_getElem?_getD,hlt]);have ST:=Lib.hid fun m q=>codes_step (w:=w.drewN m) hg (hl.drew m) hlt (hv (by rintro rfl; simp at hlt) _ _ _ rfl _ rfl) q;have hre:r.isEmpty=false:=by rw [hr]; simp; omega
  have hn:=Lib.hid (show nxt r n=l.getD k 0 % n by rw [hr,List.drop_eq_getElem_cons hlt]; simp [nxt,List.getD_eq_getElem?_getD,hlt]);have L:=Lib.hid fun w'=>left_any g r val w';have H0:=Lib.hid h0;have HR:=Lib.hid hr;have hkx:k≤140737488351232:=by omega
  generalize l.getD k 0=x at *;have hx:0≤x∧x<256:=by rw [hu,IntKind.wrap_u8]; omega
  obtain ⟨hx0,hx1⟩:=hx;have e1:=Int.tmod_eq_emod_of_nonneg (b:=n) hx0;have e2:=Int.emod_nonneg x (show n≠0 by omega);have e3:=Int.emod_lt_of_pos x (show 0<n by omega);have hltI:(k:Int)<l.length:=by omega
  clear hg hl hc hv hr h0 hu;have EX:=Lib.hid e1;clear e1;go_enter Tryz.func21,Tryz.ntmps21;go_wp2_with (go_at_call 23; refine (L.out _ H0.out).mono ?_; rintro e w' ⟨m,rfl,rfl⟩);obtain ⟨s1,s5,s2,s3,s4⟩:=ST.out m 0;have SS:=Lib.hid (And.intro s1 s5);clear s1 s5 c0 c1 f1;generalize (w.drewN m).setCell _ _=W1 at *;go_quiet (fail);go_wp2;go_ret;exact ⟨ret_i64 (hn.out.symm),by rw [HR.out]; exact SS.out.1,⟨SS.out.2.os,SS.out.2.tape,SS.out.2.output,SS.out.2.size,SS.out.2.block⟩⟩
 ·have hr0:r=[]:=by rw [hr]; simp; omega
  subst hr0;have L:=Lib.hid fun w'=>left_any g [] val w';have H0:=Lib.hid h0;clear hg hl hv hr h0;go_enter Tryz.func21,Tryz.ntmps21;go_wp2_with (go_at_call 23; refine (L.out _ H0.out).mono ?_; rintro e w' ⟨m,rfl,rfl⟩);go_ret;exact ⟨rfl,H0.out,⟨rfl,rfl,rfl,Nat.le_refl _,fun _ _ _=>rfl⟩⟩
theorem new_any (v:Value) (l:List Int) (m:Nat) (w:World) (hl:SlI w .u8 v l) (hm:m≤1000) :
  Calls Tryz.prog 19 #[v,.int .i64 m] w fun e w'=>e=.returned (.pointer (some ⟨w.heap.size,0,none⟩))∧CodesAt w' w.heap.size (l.take m) 0∧Below w.heap.size w w':=by
 have h0:=hl;obtain ⟨m1,m2,a,cap,rfl,hcap,h5⟩:=hl;by_cases hlt:m<l.length
 ·obtain ⟨b,off,rfl,hb,-⟩:=h5 m hlt
  have hlen:(l.take m).length=m:=by simp; omega
  have hfin:SlI (w.alloc (.cells #[.slice (some ⟨b,off,none⟩) m cap,.int .i64 0,.int .u64 0] 95)) .u8 (.slice (some ⟨b,off,none⟩) m cap) (l.take m):=by
   refine ⟨by omega,fun x hx=>m2 x (List.mem_of_mem_take hx),_,cap,by rw [hlen],by omega,fun t ht=>?_⟩;have ht':t<m:=by simp at ht; omega
   obtain ⟨b',off',e,hb',hc⟩:=h5 t (by omega);simp only [Option.some.injEq,Addr.mk.injEq,and_true] at e;obtain ⟨rfl,rfl⟩:=e;refine ⟨b,off,rfl,by simp; omega,?_⟩;rw [World.cell?_alloc_past _ _ _ hb',hc];simp [List.getD_eq_getElem?_getD,ht']
  have HF:=Lib.hid hfin;clear hfin h5;have hmc:(m:Int)≤cap:=by omega
  have hb':b<w.heap.size:=hb;clear hlen h0 m2;go_enter Tryz.func19,Tryz.ntmps19;go_wp2;go_ret;exact ⟨rfl,⟨_,l.take m,0,heap_alloc_new w _,HF.out,Nat.zero_le _,rfl,fun _ a n c e b2 e2=>by
   simp only [Value.slice.injEq] at e;rw [← e.1] at e2;cases e2;exact hb'⟩,(Below.refl _ _).alloc (Nat.le_refl _) _⟩
 ·have e:l.take m=l:=List.take_of_length_le (by omega)
  rw [e];have hfin:SlI (w.alloc (.cells #[.slice a l.length cap,.int .i64 0,.int .u64 0] 95)) .u8 (.slice a l.length cap) l:=h0.below ((Below.refl _ _).alloc (Nat.le_refl _) _);have HF:=Lib.hid hfin;have H5:=Lib.hid h5;clear hfin h5 e h0 m2;go_enter Tryz.func19,Tryz.ntmps19;go_wp2;go_ret;refine ⟨rfl,⟨_,l,0,heap_alloc_new w _,HF.out,Nat.zero_le _,rfl,fun hne a n c e b2 e2=>?_⟩,(Below.refl _ _).alloc (Nat.le_refl _) _⟩;simp only [Value.slice.injEq] at e;obtain ⟨b,off,e3,hb,_⟩:=H5.out 0 (List.length_pos_iff.2 hne);rw [← e.1,e3] at e2;cases e2;exact hb
def ItemAt (w:World) (g off:Nat) (x:ItemM):Prop:=
 w.cell? ⟨g,off+0,none⟩=some (.int .i64 x.thr)∧w.cell? ⟨g,off+1,none⟩=some (.int .i64 x.acc.kind)∧w.cell? ⟨g,off+2,none⟩=some (.int .i64 x.acc.addr)∧w.cell? ⟨g,off+3,none⟩=some (.int .u64 x.acc.old)∧w.cell? ⟨g,off+4,none⟩=some (.int .u64 x.acc.new)∧w.cell? ⟨g,off+5,none⟩=some (.int .i64 x.acc.til)∧w.cell? ⟨g,off+6,none⟩=some (.int .u64 x.val)∧w.cell? ⟨g,off+7,none⟩=some (.bool x.ok)
def SlT (w:World) (v:Value) (l:List ItemM):Prop:=
 l.length≤140737488351232∧(∀x∈l,x.good)∧∃a cap,v=.slice a l.length cap∧l.length≤cap∧∀t,t<l.length→∃b off,a=some ⟨b,off,none⟩∧b<w.heap.size∧ItemAt w b (off+t * 8) (l.getD t noItem)
theorem SlT.below {w w':World} {v:Value} {l:List ItemM} (h:SlT w v l) (hb:Below w.heap.size w w'):SlT w' v l:=by
 obtain ⟨h1,h2,a,cap,h3,h4,h5⟩:=h;refine ⟨h1,h2,a,cap,h3,h4,fun t ht=>?_⟩;obtain ⟨b,off,e,hlt,c0,c1,c2,c3,c4,c5,c6,c7⟩:=h5 t ht;have hc:∀j,w'.cell? ⟨b,j,none⟩=w.cell? ⟨b,j,none⟩:=fun j=>hb.cell (p:=⟨b,j,none⟩) hlt;exact ⟨b,off,e,Nat.lt_of_lt_of_le hlt hb.size,(hc _).trans c0,(hc _).trans c1,(hc _).trans c2,(hc _).trans c3,(hc _).trans c4,(hc _).trans c5,(hc _).trans c6,(hc _).trans c7⟩
theorem SlT.len {w:World} {v:Value} {l:List ItemM} (h:SlT w v l):∃a cap,v=.slice a l.length cap∧l.length≤cap:=by
 obtain ⟨_,_,a,cap,rfl,h4,_⟩:=h;exact ⟨a,cap,rfl,h4⟩
theorem SlT.nil (w:World):SlT w (.slice none 0 0) []:=⟨by simp,by simp,none,0,rfl,Nat.le_refl _,fun t ht=>by simp at ht⟩
theorem SlT.open {w:World} {v:Value} {l:List ItemM} (h:SlT w v l) (hne:l≠[]) :
  ∃b off cap,v=.slice (some ⟨b,off,none⟩) l.length cap∧l.length≤cap∧b<w.heap.size∧∀t,t<l.length→ItemAt w b (off+t * 8) (l.getD t noItem):=by
 obtain ⟨_,_,a,cap,rfl,h4,h5⟩:=h;obtain ⟨b,off,rfl,hlt,_⟩:=h5 0 (List.length_pos_iff.2 hne);refine ⟨b,off,cap,rfl,h4,hlt,fun t ht=>?_⟩;obtain ⟨b',off',e,_,hc⟩:=h5 t ht;simp only [Option.some.injEq,Addr.mk.injEq] at e;obtain ⟨rfl,rfl,_⟩:=e;exact hc
def OwnT (w:World) (base:Nat) (v:Value) (l:List ItemM):Prop:=
 w.ownsRow base 58 8 v l.length (l.flatMap itemCells)
theorem flatT_get (l:List ItemM) (t j:Nat) (ht:t<l.length) (hj:j<8):(l.flatMap itemCells)[t * 8+j]?=(itemCells (l.getD t noItem))[j]?:=by
 induction l generalizing t with
 | nil=>simp at ht
 | cons x l ih=>
  rw [List.flatMap_cons];have hx:(itemCells x).length=8:=rfl;cases t with
  | zero=>rw [List.getElem?_append_left (by rw [hx]; omega)]; simp
  | succ t=>
   rw [List.getElem?_append_right (by rw [hx]; omega),hx,show (t+1) * 8+j - 8=t * 8+j by omega,ih t (by simpa using ht)];simp
theorem OwnT.nil (w:World) (base:Nat):OwnT w base (.slice none 0 0) []:=World.ownsRow_nil w base _ 8
theorem OwnT.shape {w:World} {base:Nat} {v:Value} {l:List ItemM} (h:OwnT w base v l) :
  (v=.slice none 0 0∧l=[])∨∃g cap,v=.slice (some ⟨g,0,none⟩) l.length cap∧base≤g∧g<w.heap.size∧l.length≤cap:=by
 rcases h.2 with ⟨rfl,h2⟩ | ⟨g,cap,cur,rfl,h3,h4,h5,h6,_,_⟩
 ·exact .inl ⟨rfl,List.length_eq_zero_iff.1 h2⟩
 ·exact .inr ⟨g,cap,rfl,h3,(Array.getElem?_eq_some_iff.1 h4).1,h5⟩
theorem OwnT.len {w:World} {base:Nat} {v:Value} {l:List ItemM} (h:OwnT w base v l):∃a cap,v=.slice a l.length cap:=by
 rcases h.shape with ⟨rfl,rfl⟩ | ⟨g,cap,rfl,_⟩
 ·exact ⟨_,_,rfl⟩
 ·exact ⟨_,_,rfl⟩
theorem OwnT.read {w:World} {base:Nat} {v:Value} {l:List ItemM} (h:OwnT w base v l) (hl:l.length≤140737488351232) (hw:∀x∈l,x.good):SlT w v l:=by
 have h0:=h;rcases h.shape with ⟨rfl,rfl⟩ | ⟨g,cap,rfl,h1,h2,h3⟩
 ·exact SlT.nil w
 ·refine ⟨hl,hw,some ⟨g,0,none⟩,cap,rfl,h3,fun t ht=>⟨g,0,rfl,h2,?_⟩⟩
  have hc:∀j,j<8→w.cell? ⟨g,t * 8+j,none⟩=(itemCells (l.getD t noItem))[j]?:=fun j hj=>by
   rw [World.ownsRow.cellAt h0 (t * 8+j) (by omega),flatT_get l t j ht hj]
  have c0:=hc 0 (by omega);have c1:=hc 1 (by omega);have c2:=hc 2 (by omega);have c3:=hc 3 (by omega);have c4:=hc 4 (by omega);have c5:=hc 5 (by omega);have c6:=hc 6 (by omega);have c7:=hc 7 (by omega);rw [Nat.zero_add];exact ⟨by simpa [itemCells] using c0,by simpa [itemCells] using c1,by simpa [itemCells] using c2,by simpa [itemCells] using c3,by simpa [itemCells] using c4,by simpa [itemCells] using c5,by simpa [itemCells] using c6,by simpa [itemCells] using c7⟩
theorem OwnT.kept {w w':World} {base:Nat} {v:Value} {l:List ItemM} {row:Option Nat} (h:OwnT w base v l) (hg:w.grownBy w' row) (hne:v.ownBlock=none∨v.ownBlock≠row):OwnT w' base v l:=World.ownsRow.kept h hg hne
theorem OwnT.alloc {w:World} {base:Nat} {v:Value} {l:List ItemM} (h:OwnT w base v l) (o:Obj):OwnT (w.alloc o) base v l:=World.ownsRow.alloc h o
theorem OwnT.own_ge {w:World} {base:Nat} {v:Value} {l:List ItemM} (h:OwnT w base v l):∀j,v.ownBlock=some j→base≤j:=fun j hj=>(World.ownsRow.lt h j hj).1
theorem OwnT.ne {w:World} {base:Nat} {v:Value} {l:List ItemM} (h:OwnT w base v l) {g:Nat} (hg:g<base):v.ownBlock=none∨v.ownBlock≠some g:=by
 cases hv:v.ownBlock with
 | none=>exact .inl rfl
 | some b=>exact .inr fun e=>by have:=h.own_ge b hv; cases e; omega
theorem OwnT.below {w w':World} {base:Nat} {v:Value} {l:List ItemM} (h:OwnT w base v l) (hb:Below w.heap.size w w'):OwnT w' base v l:=by
 refine h.kept (row:=none) ⟨hb.os,hb.tape,hb.output,hb.size,fun j hj _=>hb.block j hj⟩ ?_;cases hv:v.ownBlock with
 | none=>exact .inl rfl
 | some x=>exact .inr (by simp)
theorem OwnT.mono_base {w:World} {base b':Nat} {v:Value} {l:List ItemM} (h:OwnT w base v l) (hb:b'≤base):OwnT w b' v l:=by
 refine ⟨h.1,?_⟩;rcases h.2 with h1 | ⟨g,cap,cur,h1,h2,h3⟩
 ·exact .inl h1
 ·exact .inr ⟨g,cap,cur,h1,Nat.le_trans hb h2,h3⟩
theorem Tryz.info_item:(Tryz.prog.info? 58).map (fun i=>(i.zero,i.size,i.bytes))=some (some (.agg #[.int .i64 0,.int .i64 0,.int .i64 0,.int .u64 0,.int .u64 0,.int .i64 0,.int .u64 0,.bool false]),8,64):=by kernel_rfl
section
variable (w:World) {ops:Array Oper} {rest:List Oper} {o:Oper} {a:Act} {Q:Exit→Act→World→Prop}
end
def zeroItem:Array Value:=#[.int .i64 0,.int .i64 0,.int .i64 0,.int .u64 0,.int .u64 0,.int .i64 0,.int .u64 0,.bool false]
structure CaseM where
 send:Bool
 chan:Int
 val:Int
structure OpM where
 kind:Int
 mode:Int
 chan:Int
 val:Int
 dl:Int
 cases:List CaseM
 draws:List Int
def CaseM.ok (c:CaseM):Prop:=c.chan=IntKind.i64.wrap c.chan∧c.val=IntKind.u64.wrap c.val
def noCase:CaseM:=⟨false,0,0⟩
def CaseAt (w:World) (b o:Nat) (c:CaseM):Prop:=
 w.cell? ⟨b,o,none⟩=some (.bool c.send)∧w.cell? ⟨b,o+1,none⟩=some (.int .i64 c.chan)∧w.cell? ⟨b,o+2,none⟩=some (.int .u64 c.val)
def SlC (w:World) (v:Value) (l:List CaseM):Prop:=
 l.length≤140737488351232∧(∀x∈l,x.ok)∧∃a cap,v=.slice a l.length cap∧l.length≤cap∧
  ∀t,t<l.length→∃b off,a=some ⟨b,off,none⟩∧b<w.heap.size∧CaseAt w b (off+t * 3) (l.getD t noCase)
theorem CaseAt.below {w w':World} {b o B:Nat} {c:CaseM} (h:CaseAt w b o c) (hb:b<B) (hw:Below B w w'):CaseAt w' b o c:=
 ⟨(hw.cell (p:=⟨b,o,none⟩) hb).trans h.1,(hw.cell (p:=⟨b,o+1,none⟩) hb).trans h.2.1,(hw.cell (p:=⟨b,o+2,none⟩) hb).trans h.2.2⟩
theorem SlC.below {w w':World} {v:Value} {l:List CaseM} (h:SlC w v l) (hb:Below w.heap.size w w'):SlC w' v l:=by
 obtain ⟨h1,h2,a,cap,h3,h4,h5⟩:=h;refine ⟨h1,h2,a,cap,h3,h4,fun t ht=>?_⟩;obtain ⟨b,off,e,hlt,hc⟩:=h5 t ht;exact ⟨b,off,e,Nat.lt_of_lt_of_le hlt hb.size,hc.below hlt hb⟩
theorem SlC.drew {w:World} {v:Value} {l:List CaseM} (h:SlC w v l) (n:Nat):SlC (w.drewN n) v l:=h
theorem SlC.len {w:World} {v:Value} {l:List CaseM} (h:SlC w v l):∃a cap,v=.slice a l.length cap:=by
 obtain ⟨_,_,a,cap,rfl,_⟩:=h;exact ⟨a,cap,rfl⟩
theorem SlC.nil (w:World):SlC w (.slice none 0 0) []:=
 ⟨by simp,by simp,none,0,rfl,Nat.le_refl _,fun t ht=>by simp at ht⟩
def OpV (w:World) (v:Value) (op:OpM):Prop:=
 ∃vc vd,v=.agg #[.int .i64 op.kind,.int .i64 op.mode,.int .i64 op.chan,.int .u64 op.val,.int .i64 op.dl,vc,vd]∧SlC w vc op.cases∧SlI w .i64 vd op.draws
theorem OpV.below {w w':World} {v:Value} {op:OpM} (h:OpV w v op) (hb:Below w.heap.size w w'):OpV w' v op:=by
 obtain ⟨vc,vd,e,h1,h2⟩:=h;exact ⟨vc,vd,e,h1.below hb,h2.below hb⟩
theorem OpV.drew {w:World} {v:Value} {op:OpM} (h:OpV w v op) (n:Nat):OpV (w.drewN n) v op:=h
structure ConfM where
 caps:List Int
 starts:List Int
 threads:Int
def ConfV (w:World) (v:Value) (c:ConfM):Prop:=
 ∃vc vs,v=.agg #[vc,vs,.int .i64 c.threads]∧SlI w .i64 vc c.caps∧SlI w .u64 vs c.starts
theorem ConfV.below {w w':World} {v:Value} {c:ConfM} (h:ConfV w v c) (hb:Below w.heap.size w w'):ConfV w' v c:=by
 obtain ⟨vc,vd,e,h1,h2⟩:=h;exact ⟨vc,vd,e,h1.below hb,h2.below hb⟩
theorem ConfV.drew {w:World} {v:Value} {c:ConfM} (h:ConfV w v c) (n:Nat):ConfV (w.drewN n) v c:=h
structure ConfM.good (c:ConfM):Prop where
 len:c.caps.length≤8
 same:c.starts.length=c.caps.length
 caps:∀x∈c.caps,0≤x∧x≤16
 starts:∀x∈c.starts,0≤x∧x<9223372036854775808
 thr:1≤c.threads∧c.threads≤8
structure MachM where
 what:Int
 pl:Int
 chan:Int
 thr:Int
 idx:Int
 kind:Int
 val:Int
 t:Int
 h:Int
 ok:Int
 ov:Int
def machL (vc vs:Value) (th:Int) (m:MachM):List Value:=[.int .i64 m.what,.int .i64 m.pl,vc,vs,.int .i64 th,.int .i64 m.chan,.int .i64 m.thr,.int .i64 m.idx,.int .i64 m.kind,.int .u64 m.val,.int .u64 m.t,.int .u64 m.h,.int .i64 m.ok,.int .u64 m.ov]
structure WV where
 cA:Option Addr
 cc:Nat
 sA:Option Addr
 sc:Nat
 mA:Option Addr
 mc:Nat
 nA:Option Addr
 nc:Nat
 lA:Option Addr
 lc:Nat
 tA:Option Addr
 tc:Nat
 pA:Option Addr
 pc:Nat
 fA:Option Addr
 fc:Nat
structure WM where
 c:ConfM
 m:MemM
 l:List MachM
 t:List ItemM
 p:List (List Value × MemM)
 f:List (List Value)
def WV.vc (x:WV) (c:ConfM):Value:=.slice x.cA c.caps.length x.cc
def WV.vs (x:WV) (c:ConfM):Value:=.slice x.sA c.starts.length x.sc
def WV.vl (x:WV) (y:WM):Value:=.slice x.lA y.l.length x.lc
def WV.vt (x:WV) (y:WM):Value:=.slice x.tA y.t.length x.tc
def WV.vp (x:WV) (y:WM):Value:=.slice x.pA y.p.length x.pc
def WV.vf (x:WV) (y:WM):Value:=.slice x.fA y.f.length x.fc
def WV.mem (x:WV) (y:WM):Array Value:=#[.slice x.mA y.m.words.length x.mc,.slice x.nA y.m.lists.length x.nc,.int .i64 y.m.tick]
def WV.row (x:WV) (y:WM):Array Value:=#[.slice x.cA y.c.caps.length x.cc,.slice x.sA y.c.starts.length x.sc,.int .i64 y.c.threads,.slice x.mA y.m.words.length x.mc,.slice x.nA y.m.lists.length x.nc,.int .i64 y.m.tick,.slice x.lA y.l.length x.lc,.slice x.tA y.t.length x.tc,.slice x.pA y.p.length x.pc,.slice x.fA y.f.length x.fc]
def addrB (a:Option Addr):Option Nat:=a.map (·.block)
def WV.S (x:WV) (E:List (Option Nat)) (B:Nat):List (Option Nat):=E ++ [some B,addrB x.lA,addrB x.tA,addrB x.pA,addrB x.fA]
theorem own_addr (a:Option Addr) (n c:Nat):(Value.slice a n c).ownBlock=addrB a:=by cases a <;> rfl
structure WI (WT:TypeId) (w0 wr:World) (E:List (Option Nat)) (B D:Nat) (x:WV) (y:WM):Prop where
 w0B:w0.heap.size≤B
 eW:∀j,some j∈E→w0.heap.size≤j∧j<wr.heap.size
 BD:B<D
 Dw:D≤wr.heap.size
 row:wr.heap[B]?=some (.cells (x.row y) WT (0,0))
 conf:∀w2,OffS (x.S E B) wr w2→SlI w2 .i64 (x.vc y.c) y.c.caps∧SlI w2 .u64 (x.vs y.c) y.c.starts
 good:y.c.good
 mem:StM (OffS (x.S E B) wr) (.agg (x.mem y)) y.m
 fits:y.m.fits
 ol:OwnS wr D 81 14 (x.vl y) (y.l.map (machL (x.vc y.c) (x.vs y.c) y.c.threads))
 ot:OwnS wr D 58 8 (x.vt y) (y.t.map itemCells)
 op:OwnS wr D 33 3 (x.vp y) (y.p.map Prod.fst)
 of:OwnS wr D 51 5 (x.vf y) y.f
 past:∀z∈y.p,StM (OffS (x.S E B) wr) (.agg z.1.toArray) z.2
 below:Below w0.heap.size w0 wr
section
variable {WT:TypeId} {w0 wr w2:World} {E:List (Option Nat)} {B D:Nat} {x:WV} {y:WM}
theorem WI.lt (h:WI WT w0 wr E B D x y):B<wr.heap.size:=(Array.getElem?_eq_some_iff.1 h.row).1
theorem WI.Slt (h:WI WT w0 wr E B D x y):∀j,some j∈x.S E B→j<wr.heap.size:=by
 intro j hj;simp only [WV.S,List.mem_append,List.mem_cons,List.not_mem_nil,or_false,Option.some.injEq] at hj;have k:∀{a:Option Addr} {n c:Nat} {e:TypeId} {s:Nat} {r:List (List Value)},OwnS wr D e s (.slice a n c) r→some j=addrB a→j<wr.heap.size:=fun ho e=>(ho.lt j (by rw [own_addr]; exact e.symm)).2;rcases hj with e | rfl | e | e | e | e
 ·exact (h.eW j e).2
 ·exact h.lt
 ·exact k h.ol e
 ·exact k h.ot e
 ·exact k h.op e
 ·exact k h.of e
theorem WI.next (h:WI WT w0 wr E B D x y) (hb:Below wr.heap.size wr w2):WI WT w0 w2 E B D x y:=
 ⟨h.w0B,fun j hj=>⟨(h.eW j hj).1,Nat.lt_of_lt_of_le (h.eW j hj).2 hb.size⟩,h.BD,Nat.le_trans h.Dw hb.size,(hb.block B h.lt).trans h.row,fun w3 h3=>h.conf w3 ((OffS.below hb).trans1 h3),h.good,h.mem.sub fun w3 h3=>(OffS.below hb).trans1 h3,h.fits,h.ol.below hb,h.ot.below hb,h.op.below hb,h.of.below hb,fun z hz=>(h.past z hz).sub fun w3 h3=>(OffS.below hb).trans1 h3,below_then h.below hb⟩
theorem WI.drawn {g:Nat} (h:WI WT w0 wr E B D x y) (hgE:some g∈E) (hgB:g<B) (hg:wr.grownBy w2 (some g)):WI WT w0 w2 E B D x y:=by
 have h3:=h.BD;have o:OffS (x.S E B) wr w2:=OffS.grown hg (.inr (by simp [WV.S,hgE]));exact ⟨h.w0B,fun j hj=>⟨(h.eW j hj).1,Nat.lt_of_lt_of_le (h.eW j hj).2 hg.size⟩,h.BD,Nat.le_trans h.Dw hg.size,(hg.block B h.lt (by simp; omega)).trans h.row,fun w3 h4=>h.conf w3 (o.trans1 h4),h.good,h.mem.sub fun w3 h4=>o.trans1 h4,h.fits,h.ol.kept hg (h.ol.ne (by omega)),h.ot.kept hg (h.ot.ne (by omega)),h.op.kept hg (h.op.ne (by omega)),h.of.kept hg (h.of.ne (by omega)),fun z hz=>(h.past z hz).sub fun w3 h4=>o.trans1 h4,h.below.grown hg h.below.size (fun k hk=>by cases hk; exact (h.eW g hgE).1)⟩
theorem WI.confV (h:WI WT w0 wr E B D x y):ConfV wr (.agg #[x.vc y.c,x.vs y.c,.int .i64 y.c.threads]) y.c:=⟨_,_,rfl,h.conf wr (OffS.self _ _)⟩
end
theorem OffS.mono {S S2:List (Option Nat)} {w w2:World} (h:OffS S w w2) (hs:∀j,some j∈S→some j∈S2):OffS S2 w w2:=⟨h.1,fun j hj hn=>h.2 j hj (fun e=>hn (hs j e))⟩
theorem WI.exempt {WT:TypeId} {w0 wr w2:World} {E:List (Option Nat)} {B D:Nat} {x:WV} {y:WM} (h:WI WT w0 wr E B D x y) (hb:Below wr.heap.size wr w2) (A:Nat) (hA:wr.heap.size≤A) (hA2:A<w2.heap.size):WI WT w0 w2 (some A :: E) B D x y:=by
 have h1:=h.next hb;have hin:∀w3,OffS (x.S (some A :: E) B) w2 w3→OffS (x.S E B) wr w3:=fun w3 h3=>(OffS.below (S:=x.S E B) hb).trans h3 fun j hj hm=>by
  simp only [WV.S,List.cons_append,List.mem_cons,Option.some.injEq] at hm;rcases hm with rfl | hm
  ·omega
  ·exact hm
 exact ⟨h1.w0B,fun j hj=>by
  simp only [List.mem_cons,Option.some.injEq] at hj;rcases hj with rfl | hj
  ·exact ⟨by have:=h.below.size; omega,hA2⟩
  ·exact h1.eW j hj,h1.BD,h1.Dw,h1.row,fun w3 h3=>h.conf w3 (hin w3 h3),h1.good,h.mem.sub hin,h1.fits,h1.ol,h1.ot,h1.op,h1.of,fun z hz=>(h.past z hz).sub hin,h1.below⟩
theorem WI.settle {WT AT:TypeId} {w0 wr w2:World} {E:List (Option Nat)} {B D A:Nat} {x:WV} {y:WM} {cs:Array Value} (h:WI WT w0 wr (some A :: E) B D x y) (hA:wr.heap[A]?=some (.cells cs AT (0,0))) (hAB:B<A) (hg:wr.grownBy w2 (some A)) (h1:AT≠81) (h2:AT≠58) (h3:AT≠33) (h4:AT≠51) :
  WI WT w0 w2 E B D x y∧∀w3,OffS (x.S E B) w2 w3→OffS (x.S (some A :: E) B) wr w3:=by
 have hin:∀w3,OffS (x.S E B) w2 w3→OffS (x.S (some A :: E) B) wr w3:=fun w3 h5=>by
  have o1:OffS (x.S (some A :: E) B) wr w2:=OffS.grown hg (.inr (by simp [WV.S]));exact o1.trans1 (h5.mono fun j hj=>by simp only [WV.S,List.cons_append,List.mem_cons] at hj ⊢; exact .inr hj)
 have k:∀{e:TypeId} {s:Nat} {v:Value} {r:List (List Value)},OwnS wr D e s v r→AT≠e→OwnS w2 D e s v r:=fun ho he=>ho.kept hg (by
  rcases ho.2.2 with ⟨rfl,_⟩ | ⟨b,cap,cur,rfl,_,hb,_⟩
  ·exact .inl rfl
  ·refine .inr ?_
   simp only [Value.ownBlock,ne_eq,Option.some.injEq];rintro rfl;rw [hA] at hb;simp at hb;exact he hb.2)
 exact ⟨⟨h.w0B,fun j hj=>⟨(h.eW j (List.mem_cons_of_mem _ hj)).1,Nat.lt_of_lt_of_le (h.eW j (List.mem_cons_of_mem _ hj)).2 hg.size⟩,h.BD,Nat.le_trans h.Dw hg.size,(hg.block B h.lt (by simp; omega)).trans h.row,fun w3 h5=>h.conf w3 (hin w3 h5),h.good,h.mem.sub hin,h.fits,k h.ol h1,k h.ot h2,k h.op h3,k h.of h4,fun z hz=>(h.past z hz).sub hin,h.below.grown hg h.below.size (fun j hj=>by cases hj; exact (h.eW A (List.mem_cons_self ..)).1)⟩,hin⟩
def FrI (R:(World→Prop)→ConfM→List Value→MachM→Prop) (G:World→Prop) (y:WM):Prop:=y.f.length=y.l.length∧∀i (h1:i<y.f.length) (h2:i<y.l.length),R G y.c y.f[i] y.l[i]
end Go.Proofs.YtjnlkemdaffgbaaGreat
