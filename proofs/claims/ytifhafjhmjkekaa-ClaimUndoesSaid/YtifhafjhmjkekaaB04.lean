import Derived.Deep.DeepCutAuto
import Derived.Deep.CutBlock
import Derived.Deep.RegionLaw
import Derived.Deep.RegionHeld3
import Derived.Test.YtifhafjhmjkekaaB03
import Derived.Test.YtifhafjhmjkekaaB01
import Derived.Test.YtifhafjhmjkekaaB02
set_option linter.unusedVariables false
set_option linter.unusedSimpArgs false
namespace Go.Proofs.Ytifhafjhmjkekaa
open Go.ChangeShapes Go.WideShapes Go.ChangeAt Go.RowKit
set_option maxRecDepth 100000
theorem next_drop (x:Int) (l:List Int):nextL 9 x l=l.erase x:=by unfold nextL; rw [if_neg (by decide)]
theorem one_lit {w:World} {b:Nat} {x:Int} {e:TypeId} {k:IntKind} (h:w.heap[b]?=some (.cells #[.int k x] e (0,0))) (hx:x=k.wrap x):SlI w k (.slice (some ⟨b,0,none⟩) 1 1) [x]:=by
 refine ⟨by simp,by simpa using hx,some ⟨b,0,none⟩,1,rfl,Nat.le_refl _,fun t ht=>⟨b,0,rfl,(Array.getElem?_eq_some_iff.1 h).1,?_⟩⟩;obtain rfl:t=0:=by simp at ht; exact ht
 exact cell_of_row _ _ 0 _ _ _ h
set_option maxHeartbeats 4000000 in
theorem rwithout_any (G:World→Prop) (v:Value) (l:List Int) (x:Int) (w:World) (hG:G w) (hcl:Wide G) (h:StI G .i64 v l) (hl:l.length≤100000) :
  Calls Try.prog 77 #[v,.int .i64 x] w fun e w'=>∃v',e=.returned v'∧StI (Nx G w w') .i64 v' (l.erase x)∧Below w.heap.size w w':=by
 have H:=Lib.hid (h w hG);have HST:=Lib.hid h;obtain ⟨a,cap,rfl,hcap⟩:=(h w hG).len;clear h;go_enter Try.func77,Try.ntmps77;go_wp2_with fail;go_loopw [5] (fun u wr=>∃i:Nat,i≤l.length∧u=.int .i64 i∧Hid (∀j,j<i→l.getD j 0≠x)∧Hid (∃n,w.drewN n=wr)) (fun u _=>100001 - (intOf u).toNat)
 case atStart=>exact ⟨0,by omega,rfl,fun j hj=>by omega,0,rfl⟩
 case round=>
  obtain ⟨i,hi,rfl,hmiss,hw⟩:=hrel;obtain ⟨nq,rfl⟩:=hw.out;by_cases hlt:i<l.length
  ·obtain ⟨b,off,cap',e,hcap2,hb,hcell⟩:=H.out.open (by rintro rfl; simp at hlt)
   simp only [Value.slice.injEq] at e;obtain ⟨rfl,-,rfl⟩:=e;obtain ⟨y,hy⟩:∃y,l.getD i 0=y:=⟨_,rfl⟩;have hck:=hcell i hlt;rw [hy] at hck;have HY:=Lib.hid hy;clear hcell hy;by_cases hyx:y=x
   ·subst hyx
    have HE:Hid (l.erase y=l.take i ++ l.drop (i+1)):=FstL.erase ⟨hlt,HY.out,hmiss.out⟩;have HT:=Lib.hid (H.out.take i (by omega));obtain ⟨A9,hA9,HD⟩:∃A9,(if cap=i+1 then some (⟨b,off,none⟩:Addr) else some ⟨b,off+(i+1),none⟩)=A9∧Hid (SlI w .i64 (.slice A9 (l.length - (i+1)) (cap - (i+1))) (l.drop (i+1))):=by
     refine ⟨_,rfl,?_⟩;by_cases hcp:cap=i+1
     ·rw [if_pos hcp,show l.length - (i+1)=0 by omega,List.drop_eq_nil_of_le (by omega)]
      exact SlI.empty _ _ _ _
     ·rw [if_neg hcp]
      exact H.out.drop (i+1) (by omega)
    have htl:(l.take i).length=i:=by rw [List.length_take]; omega
    have hdl:(l.drop (i+1)).length=l.length - (i+1):=List.length_drop;have hi1:(i:Int)+1≤(l.length:Int):=by omega
    have hi2:(0:Int)≤(i:Int)+1:=by omega
    have hi3:(i:Int)≤(l.length:Int):=by omega
    have hi4:(i:Int)≤(cap:Int):=by omega
    have hwr:IntKind.i64.wrap ((i:Int)+1)=(i:Int)+1:=by rw [IntKind.wrap_i64]; omega
    have hrun2:True:=trivial;go_upto_region 5 with fail
    refine wp_region_until (fun _:World=>True) 9 10 (by kernel_rfl) rfl ?_;obtain ⟨u0,hu0,HU0⟩:∃u:World,(w.drewN nq).drew=u∧Hid (Below w.heap.size w u):=⟨_,rfl,below_drewN (below_drewN (Below.refl _ _) nq) 1⟩;rw [hu0];clear hu0;have hSU0:(fun _:World=>True) (u0):=trivial;apply tkV 0 hSU0 rfl (by kernel_rfl) (fun _ _ _ h=>h) rfl;intro w hSw;(go_simp<;>with_reducible rfl);simp only [J0,J1,J2,J3,J4];apply tkV 1 hSU0 rfl (by kernel_rfl) (fun _ _ _ h=>h) rfl;intro w hSw;(go_simp<;>with_reducible rfl);simp only [J0,J1,J2,J3,J4];apply tkV 2 hSU0 rfl (by kernel_rfl) (fun _ _ _ h=>h) rfl;intro w hSw;(go_simp<;>with_reducible rfl);simp only [J0,J1,J2,J3,J4];apply tkV 4 hSU0 rfl (by kernel_rfl) (fun _ _ _ h=>h) rfl;intro w hSw;(go_simp<;>with_reducible rfl);simp only [J0,J1,J2,J3,J4];apply tkV 5 hSU0 rfl (by kernel_rfl) (fun _ _ _ h=>h) rfl;intro w hSw;(go_simp<;>with_reducible rfl);simp only [J0,J1,J2,J3,J4];apply tkV 6 hSU0 rfl (by kernel_rfl) (fun _ _ _ h=>h) rfl;intro w hSw;(go_simp<;>with_reducible rfl);simp only [J0,J1,J2,J3,J4];apply tkV 7 hSU0 rfl (by kernel_rfl) (fun _ _ _ h=>h) rfl;intro w hSw;(go_simp<;>with_reducible rfl);simp only [J0,J1,J2,J3,J4];refine consU 3 rfl (by kernel_rfl) rfl fun K hK=>?_;refine step_app_i64 (by rfl) _ _ (by rfl) w.heap.size (.slice none 0 0) [] (by rfl) (OwnI.nil _ _ _ _) (.slice (some ⟨b,off,none⟩) i cap) (l.take i) (by rfl) (HT.out.below HU0.out) (by simp) (by omega) HU0.out.size ?_;intro v6 w6 ho6 hg6;simp only [List.nil_append] at ho6;have HO6:=Lib.hid ho6;have HB6:Hid (Below w.heap.size w w6):=HU0.out.grown hg6 HU0.out.size (fun k hk=>by cases hk);clear ho6 hg6;refine hK.out _ _ ?_ fun hSU1=>?_;exact trivial;clear hK K hSU0;(try simp only [J0,J1,J2,J3,J4]);refine consU 8 rfl (by kernel_rfl) rfl fun K hK=>?_;refine step_app_i64 (by rfl) _ _ (by rfl) w.heap.size v6 (l.take i) (by rfl) HO6.out (.slice A9 (l.length - (i+1)) (cap - (i+1))) (l.drop (i+1)) (by rfl) (HD.out.below HB6.out) (by omega) (by omega) HB6.out.size ?_;intro v7 w7 ho7 hg7
    have HO7:=Lib.hid ho7;have HB7:Hid (Below w.heap.size w w7):=HB6.out.grown hg7 HB6.out.size (fun k hk=>HO6.out.own_ge k hk);clear ho7 hg7;refine hK.out _ _ ?_ fun hSU2=>?_;exact trivial;clear hK K hSU1;(try simp only [J0,J1,J2,J3,J4]);refine freeU 9 rfl (by kernel_rfl) rfl (by kernel_rfl) fun K hK=>?_;go_simp;refine hK.out _ _ ?_;clear hK K hSU2;(try simp only [J0,J1,J2,J3,J4]);refine wpAnyU_done (by kernel_rfl) ?_ _;go_wp2;go_ret;refine ⟨_,rfl,?_,HB7.out⟩;rw [HE.out];have hle:(l.take i ++ l.drop (i+1)).length≤140737488351232:=by rw [List.length_append]; omega
    have hwf:∀x∈l.take i ++ l.drop (i+1),x=IntKind.i64.wrap x:=fun x hx=>by
     rcases List.mem_append.1 hx with h | h
     ·exact H.out.2.1 x (List.mem_of_mem_take h)
     ·exact H.out.2.1 x (List.mem_of_mem_drop h)
    exact fun w5 h5=>(HO7.out.newPart (Nat.le_refl _) h5.2).read hle hwf
   ·have hne:(y == x)=false:=by simpa using hyx
    have hms:Hid (∀j,j<i+1→l.getD j 0≠x):=fun j hj=>by
     rcases Nat.lt_or_ge j i with h1 | h1
     ·exact hmiss.out j h1
     ·obtain rfl:j=i:=by omega
      rw [HY.out]; exact hyx
    go_wp2;go_roundw
    case rel=>exact ⟨i+1,by omega,by go_num,hms,nq,rfl⟩
    case measure=>simp [intOf]; omega
  ·obtain rfl:i=l.length:=by omega
   have HE:=Lib.hid (erase_none l x hmiss.out);go_wp2;go_ret;refine ⟨_,rfl,?_,below_drewN (Below.refl _ _) _⟩;rw [HE.out];exact fun w5 h5=>HST.out w5 h5.1
set_option maxHeartbeats 16000000 in
theorem rapply_any (G:World→Prop) (v:Value) (m:MemM) (a:AccM) (w:World) (hG:G w) (hcl:Wide G) (h:StM G v m) (hm:m.fits) (ha:a.ok) :
  Calls Try.prog 66 #[v,accV a] w (TripR G w (applyE m a)):=by
 obtain ⟨a1,cap,a2,cap2,rfl⟩:=h.open w hG;have HM:=Lib.hid hm;have HSM:=Lib.hid h;have HG:=Lib.hid hG;have HCL:=Lib.hid hcl;obtain ⟨k,ad,old,nw,til⟩:=a;have HA:=Lib.hid ha;obtain ⟨hr0,hr1,hr2,hr3,hrs,hrb⟩:=heap_alloc4 w (.cells #[.slice a1 m.words.length cap,.slice a2 m.lists.length cap2,.int .i64 m.tick] 34) (.cells #[.int .i64 k,.int .i64 ad,.int .u64 old,.int .u64 nw,.int .i64 til] 78) (.cells zeroMem 34) (.cells zeroAns 53);obtain ⟨W,hW⟩:∃W,(((w.alloc (.cells #[.slice a1 m.words.length cap,.slice a2 m.lists.length cap2,.int .i64 m.tick] 34)).alloc (.cells #[.int .i64 k,.int .i64 ad,.int .u64 old,.int .u64 nw,.int .i64 til] 78)).alloc (.cells zeroMem 34)).alloc (.cells zeroAns 53)=W:=⟨_,rfl⟩;rw [hW] at hr0 hr1 hr2 hr3 hrs hrb;have R0:=Lib.hid hr0;have R1:=Lib.hid hr1;have R2:=Lib.hid hr2;have R3:=Lib.hid hr3;have HB:=Lib.hid hrb;have HGW:Hid (G W):=hcl _ _ hG hrb;have HW:=Lib.hid hW;have hsz:w.heap.size+4≤W.heap.size:=by omega
 clear hr0 hr1 hr2 hr3 hrs hrb hW h hG hcl hm ha;obtain ⟨x0,x1,x2⟩:=rowc3 R0.out;obtain ⟨y0,y1,y2,y3,y4⟩:=rowc5 R1.out;have GG:=Lib.hid (rgranted_any _ m ⟨k,ad,old,nw,til⟩ W (HSM.out.at HGW.out) HM.out HA.out);unfold accV at GG ⊢;dsimp only at GG ⊢;go_enter Try.func66,Try.ntmps66;go_upto_region 1 with fail
 rw [show (#[.slice none 0 0,.slice none 0 0,.int .i64 0]:Array Value)=zeroMem from rfl,show (#[.int .u64 0,.bool false,.bool false,.slice none 0 0]:Array Value)=zeroAns from rfl,HW.out];clear HW;go_wp2_with fail;refine GG.out.mono ?_; rintro e w1 ⟨rfl,hb1⟩;have HB1:=Lib.hid (HB.out.trans (hb1.mono (by omega)));have Q0:=Lib.hid ((hb1.block w.heap.size (by omega)).trans R0.out);have Q1:=Lib.hid ((hb1.block (w.heap.size+1) (by omega)).trans R1.out);have Q2:=Lib.hid ((hb1.block (w.heap.size+2) (by omega)).trans R2.out);have Q3:=Lib.hid ((hb1.block (w.heap.size+3) (by omega)).trans R3.out);have HG1:Hid (G w1):=HCL.out _ _ HGW.out hb1;have hs1:=hb1.size;clear hb1 R0 R1 R2 R3 HB HGW x0 x1 x2 y0 y1 y2 y3 y4 GG;generalize hWW:W.heap.size=WS at *;clear hWW;obtain ⟨W,rfl⟩:∃W:World,W=w1:=⟨_,rfl⟩;have R2:=Q2;have R3:=Q3;obtain ⟨x0,x1,x2⟩:=rowc3 Q0.out;obtain ⟨y0,y1,y2,y3,y4⟩:=rowc5 Q1.out;cases hb:grantB m ⟨k,ad,old,nw,til⟩ with
 | false=>
  have HE:=Lib.hid (apply_not hb);clear hb;have T2:=R2;have T3:Hid (∀cs,((W).setRow (w.heap.size+2) cs).heap[w.heap.size+3]?=some (.cells zeroAns 53 (0,0))):=fun cs=>(setRow_other _ _ _ _ (by omega)).trans R3.out;go_wp2_with (first
      | (refine wpList_store_row rfl 34 _ _ rfl (w.heap.size+2) _ rfl rfl 34 zeroMem T2.out (by kernel_rfl) rfl (by simp [Value.oneCell']) ?_)
      | (refine wpList_store_row rfl 53 _ _ rfl (w.heap.size+3) _ rfl rfl 53 zeroAns (T3.out _) (by kernel_rfl) rfl (by simp [Value.oneCell']) ?_))
  refine bodyPost_ret (v:=.tuple #[.agg #[.slice a1 m.words.length cap,.slice a2 m.lists.length cap2,.int .i64 m.tick],.agg zeroAns,.bool false]) (results_cells3 Try.results66 _ _ (w.heap.size+2) (w.heap.size+3) 34 53 _ _ (0,0) (0,0) _ _ rfl rfl ((setRow_other _ _ _ _ (by omega)).trans (setRow_heap _ _ _ _ 34 (0,0) T2.out)) (setRow_heap _ _ _ _ 53 (0,0) (T3.out _)) Try.underlying34 rfl (by kernel_rfl) Try.underlying53 rfl (by kernel_rfl) _ rfl) rfl ?_;have hbe:=row_below (row_below HB1.out (show w.heap.size≤w.heap.size+2 by omega) #[.slice a1 m.words.length cap,.slice a2 m.lists.length cap2,.int .i64 m.tick]) (show w.heap.size≤w.heap.size+3 by omega) zeroAns;unfold TripR;rw [HE.out];exact ⟨_,_,rfl,HSM.out.sub fun _ (h:Nx G w _ _)=>h.1,StA.bare _ _ _ _,hbe⟩
 | true=>
  have hkk:=grant_kind hb;dsimp only at hkk;by_cases h7:7≤k
  ·have TL:=Lib.hid (rlist_any _ m ad W (HSM.out.at HG1.out))
   have hAL:=Lib.hid (apply_list (m:=m) (a:=⟨k,ad,old,nw,til⟩) hb h7);have h7b:(decide (7≤k))=true:=by simpa using h7
   clear hb;go_wp2_with fail;refine TL.out.mono ?_; rintro e w2 ⟨rfl,hb2⟩;clear TL;have Q0:=Lib.hid ((hb2.block w.heap.size (by omega)).trans Q0.out);have Q1:=Lib.hid ((hb2.block (w.heap.size+1) (by omega)).trans Q1.out);have R2:=Lib.hid ((hb2.block (w.heap.size+2) (by omega)).trans R2.out);have R3:=Lib.hid ((hb2.block (w.heap.size+3) (by omega)).trans R3.out);have HB1:=Lib.hid (HB1.out.trans (hb2.mono (by omega)));have HG1:Hid (G w2):=HCL.out _ _ HG1.out hb2;have hsw2:=hb2.size;clear hb2 x0 x1 x2 y0 y1 y2 y3 y4;obtain ⟨x0,x1,x2⟩:=rowc3 Q0.out;obtain ⟨y0,y1,y2,y3,y4⟩:=rowc5 Q1.out;cases hh:hasB m.lists.length ad with
   | false=>
    have HE:=Lib.hid (hAL.out.trans (by rw [list_none hh]));clear hh;have T3:Hid (∀cs,((w2).setRow (w.heap.size+2) cs).heap[w.heap.size+3]?=some (.cells zeroAns 53 (0,0))):=fun cs=>(setRow_other _ _ _ _ (by omega)).trans R3.out;go_wp2_with (first
     | (refine wpList_store_row rfl 34 _ _ rfl (w.heap.size+2) _ rfl rfl 34 zeroMem R2.out (by kernel_rfl) rfl (by simp [Value.oneCell']) ?_)
     | (refine wpList_store_row rfl 53 _ _ rfl (w.heap.size+3) _ rfl rfl 53 zeroAns (T3.out _) (by kernel_rfl) rfl (by simp [Value.oneCell']) ?_))
    refine bodyPost_ret (v:=.tuple #[.agg #[.slice a1 m.words.length cap,.slice a2 m.lists.length cap2,.int .i64 m.tick],.agg zeroAns,.bool true]) (results_cells3 Try.results66 _ _ (w.heap.size+2) (w.heap.size+3) 34 53 _ _ (0,0) (0,0) _ _ rfl rfl ((setRow_other _ _ _ _ (by omega)).trans (setRow_heap _ _ _ _ 34 (0,0) R2.out)) (setRow_heap _ _ _ _ 53 (0,0) (T3.out _)) Try.underlying34 rfl (by kernel_rfl) Try.underlying53 rfl (by kernel_rfl) _ rfl) rfl ?_;have hbe:=row_below (row_below HB1.out (show w.heap.size≤w.heap.size+2 by omega) #[.slice a1 m.words.length cap,.slice a2 m.lists.length cap2,.int .i64 m.tick]) (show w.heap.size≤w.heap.size+3 by omega) zeroAns;unfold TripR;rw [HE.out];exact ⟨_,_,rfl,HSM.out.sub fun _ (h:Nx G w _ _)=>h.1,StA.bare _ _ _ _,hbe⟩
   | true=>
    obtain ⟨i,rfl,hi⟩:=hasB_true hh;obtain ⟨us,hus⟩:=HSM.out.listsOf;have HUS:=Lib.hid hus;obtain ⟨b,off,cap',e,hcap,hblt,hcells,hels⟩:=(hus w2 HG1.out).open (by rintro h0; rw [h0] at hi; simp at hi);have hck:=hcells i hi;have hel:=hels i hi;obtain ⟨A3,c3,he3,-⟩:=hel.len;rw [he3] at hck;have HLU:Hid (StI G .i64 (.slice A3 (m.lists.getD i []).length c3) (m.lists.getD i [])):=fun w5 h5=>by
     obtain ⟨b',off',cap'',e',h2',h3',h4',h5'⟩:=(HUS.out w5 h5).open (by rintro h0; rw [h0] at hi; simp at hi);have:=h5' i hi;rw [he3] at this;exact this
    have hfit:=HM.out.each i;simp only [Value.slice.injEq] at e;obtain ⟨rfl,-,rfl⟩:=e;have hiI:(i:Int)<m.lists.length:=by omega
    have hi0:(0:Int)≤i:=by omega
    clear hcells hels hel he3 hus;obtain ⟨ll,hll⟩:∃ll,m.lists.getD i []=ll:=⟨_,rfl⟩;have HLL:=Lib.hid hll;rw [hll] at HLU hck hfit;clear hll;rcases (show k=7∨k=8∨k=9 by omega) with rfl | rfl | rfl
    ·have HE:Hid (applyE m ⟨7,i,old,nw,til⟩=(m,⟨0,false,false,ll⟩,true)):=hAL.out.trans (by rw [list_read hh,HLL.out])
     clear hh hkk h7;have T3:Hid (∀cs,((w2).setRow (w.heap.size+2) cs).heap[w.heap.size+3]?=some (.cells zeroAns 53 (0,0))):=fun cs=>(setRow_other _ _ _ _ (by omega)).trans R3.out;go_wp2_with (first
      | (refine wpList_store_row rfl 34 _ _ rfl (w.heap.size+2) _ rfl rfl 34 zeroMem R2.out (by kernel_rfl) rfl (by simp [Value.oneCell']) ?_)
      | (refine wpList_store_row rfl 53 _ _ rfl (w.heap.size+3) _ rfl rfl 53 zeroAns (T3.out _) (by kernel_rfl) rfl (by simp [Value.oneCell']) ?_))
     refine bodyPost_ret (v:=.tuple #[.agg #[.slice a1 m.words.length cap,.slice (some ⟨b,off,none⟩) m.lists.length cap2,.int .i64 m.tick],.agg #[.int .u64 0,.bool false,.bool false,.slice A3 ll.length c3],.bool true]) (results_cells3 Try.results66 _ _ (w.heap.size+2) (w.heap.size+3) 34 53 _ _ (0,0) (0,0) _ _ rfl rfl ((setRow_other _ _ _ _ (by omega)).trans (setRow_heap _ _ _ _ 34 (0,0) R2.out)) (setRow_heap _ _ _ _ 53 (0,0) (T3.out _)) Try.underlying34 rfl (by kernel_rfl) Try.underlying53 rfl (by kernel_rfl) _ rfl) rfl ?_;have hbe:=row_below (row_below HB1.out (show w.heap.size≤w.heap.size+2 by omega) #[.slice a1 m.words.length cap,.slice (some ⟨b,off,none⟩) m.lists.length cap2,.int .i64 m.tick]) (show w.heap.size≤w.heap.size+3 by omega) #[.int .u64 0,.bool false,.bool false,.slice A3 ll.length c3];unfold TripR;rw [HE.out];exact ⟨_,_,rfl,HSM.out.sub fun _ (h:Nx G w _ _)=>h.1,⟨_,rfl,fun w5 (h:Nx G w _ _)=>HLU.out w5 h.1⟩,hbe⟩
    ·clear hkk h7
     have hnx:Hid (nextL 8 (IntKind.i64.wrap nw) ll=if ll.length<1000 then ll ++ [IntKind.i64.wrap nw] else ll):=by unfold nextL; rfl
     go_upto_block 0 with fail
     go_cut [7] (fun s7 wx=>∃A n c,s7=.slice A n c∧n=(nextL 8 (IntKind.i64.wrap nw) ll).length∧Hid (StI (Nx G w2 wx) .i64 (.slice A n c) (nextL 8 (IntKind.i64.wrap nw) ll))∧Hid (Below w2.heap.size w2 wx))
     case first=>
      by_cases hlen:ll.length<1000
      ·have hlb:((ll.length:Int)<1000):=by omega
       have hnp:=Lib.hid (hnx.out.trans (if_pos hlen));go_upto_region 10 with fail
       have KS:Hid (∀w',Below w2.heap.size w2 w'→(fun w':World=>w'.cell? ⟨w.heap.size+1,3,none⟩=some (.int .u64 nw)) w'):=fun w' hb=>(hb.cell (p:=⟨w.heap.size+1,3,none⟩) (show w.heap.size+1<w2.heap.size by omega)).trans y3;refine untilK KS 7 8 (by kernel_rfl) rfl ?_;obtain ⟨u0,hu0,HUB0⟩:=drew_pack w2;rw [hu0];have HGU0:Hid (G u0):=HCL.out _ _ HG1.out HUB0.out;clear hu0;have hSU0:=KS.out _ HUB0.out;apply tkV 0 hSU0 rfl (by kernel_rfl) (fun _ _ _ h=>h) rfl;intro w hSw;(go_simp<;>with_reducible rfl);simp only [J0,J1,J2,J3,J4];apply tkV 2 hSU0 rfl (by kernel_rfl) (fun _ _ _ h=>h) rfl;intro w hSw;(go_simp<;>with_reducible rfl);simp only [J0,J1,J2,J3,J4];apply tkV 3 hSU0 rfl (by kernel_rfl) (fun _ _ _ h=>h) rfl;intro w hSw;(go_simp<;>with_reducible rfl);simp only [J0,J1,J2,J3,J4];apply tkV 4 hSU0 rfl (by kernel_rfl) (fun _ _ _ h=>h) rfl;intro w hSw;(go_simp<;>with_reducible rfl);simp only [J0,J1,J2,J3,J4];refine wpAnyU_ready (rs:=[1,5]) (by kernel_rfl) rfl ?_;refine AllReadyU.cons la1 rfl (fun K hK=>?_) ?_
       ·refine step_app_i64 (w:=u0) (by rfl) _ _ (by rfl) w2.heap.size (.slice none 0 0) [] (by rfl) (OwnI.nil _ _ _ _) (.slice A3 ll.length c3) ll (by rfl) (HLU.out u0 HGU0.out) (by simp) (by omega) HUB0.out.size ?_
        intro v6 w6 ho6 hg6;simp only [List.nil_append] at ho6;have HO6:=Lib.hid ho6;have hb6:Below u0.heap.size u0 w6:=(Below.refl _ _).grown hg6 (Nat.le_refl _) (fun k hk=>by cases hk);have HB6:=Lib.hid (below_then HUB0.out hb6);clear ho6 hg6 hb6;refine hK.out _ _ ?_ fun hSU1=>?_;exact KS.out _ HB6.out;clear hK K hSU0;(try simp only [J0,J1,J2,J3,J4]);refine consU 5 rfl (by kernel_rfl) rfl fun K hK=>?_;go_simp;obtain ⟨u1,bX,hv,hbX,RX,hbv,ltX⟩:=alloc_pack w6 (.cells #[.int .i64 (IntKind.i64.wrap nw)] 3);rw [hv,hbX];have HO6':=Lib.hid (HO6.out.below hbv.out);have HB6':=Lib.hid (below_then HB6.out hbv.out);clear hv hbX hbv;refine hK.out _ _ ?_ fun hSU2=>?_;exact KS.out _ HB6'.out;clear hK K hSU1;(try simp only [J0,J1,J2,J3,J4]);refine consU 6 rfl (by kernel_rfl) rfl fun K hK=>?_;refine step_app_i64 (w:=u1) (by rfl) _ _ (by rfl) w2.heap.size v6 ll (by rfl) HO6'.out (.slice (some ⟨bX,0,none⟩) 1 1) [IntKind.i64.wrap nw] (by rfl) (one_lit RX.out (wrap_wrap nw)) (by omega) (by simp) HB6'.out.size ?_;intro v8 w8 ho8 hg8;have HO8:=Lib.hid ho8;have HB8:Hid (Below w2.heap.size w2 w8):=HB6'.out.grown hg8 HB6'.out.size (fun k hk=>HO6'.out.own_ge k hk);clear ho8 hg8;refine hK.out _ _ ?_ fun hSU3=>?_;exact KS.out _ HB8.out;clear hK K hSU2;(try simp only [J0,J1,J2,J3,J4]);refine freeU 7 rfl (by kernel_rfl) rfl (by kernel_rfl) fun K hK=>?_;go_simp;refine hK.out _ _ ?_;clear hK K hSU3;(try simp only [J0,J1,J2,J3,J4]);refine wpAnyU_done (by kernel_rfl) ?_ _;obtain ⟨A8,c8,hv8⟩:∃A8 c8,v8=.slice A8 (ll ++ [IntKind.i64.wrap nw]).length c8:=by
         rcases HO8.out.shape with ⟨h1,h2⟩ | ⟨g,cap,h1,-⟩
         ·exact absurd h2 (by simp)
         ·exact ⟨_,_,h1⟩
        subst hv8;have hfit2:(ll ++ [IntKind.i64.wrap nw]).length≤140737488351232:=by rw [List.length_append]; simp; omega
        have hwf2:∀x∈ll ++ [IntKind.i64.wrap nw],x=IntKind.i64.wrap x:=fun x hx=>by
         rcases List.mem_append.1 hx with h | h
         ·exact (HLU.out w2 HG1.out).2.1 x h
         ·rw [List.mem_singleton.1 h]; exact wrap_wrap nw
        go_wp2_with fail;go_meet;rw [hnp.out];exact ⟨_,_,_,rfl,rfl,fun w5 h5=>(HO8.out.newPart (Nat.le_refl _) h5.2).read hfit2 hwf2,HB8.out⟩
       refine AllReadyU.cons la5 rfl (fun K hK=>?_) ?_
       ·go_simp
        obtain ⟨u1,bX,hv,hbX,RX,hbv,ltX⟩:=alloc_pack u0 (.cells #[.int .i64 (IntKind.i64.wrap nw)] 3);rw [hv,hbX];have HGU1:Hid (G u1):=HCL.out _ _ HGU0.out hbv.out;have HUB1:=Lib.hid (below_then HUB0.out hbv.out);clear hv hbX hbv;refine hK.out _ _ ?_ fun hSU4=>?_;exact KS.out _ HUB1.out;clear hK K hSU0;(try simp only [J0,J1,J2,J3,J4]);refine consU 1 rfl (by kernel_rfl) rfl fun K hK=>?_;refine step_app_i64 (w:=u1) (by rfl) _ _ (by rfl) w2.heap.size (.slice none 0 0) [] (by rfl) (OwnI.nil _ _ _ _) (.slice A3 ll.length c3) ll (by rfl) (HLU.out u1 HGU1.out) (by simp) (by omega) HUB1.out.size ?_;intro v6 w6 ho6 hg6;simp only [List.nil_append] at ho6;have HO6:=Lib.hid ho6;have hb6:Below u1.heap.size u1 w6:=(Below.refl _ _).grown hg6 (Nat.le_refl _) (fun k hk=>by cases hk);have HB6:=Lib.hid (below_then HUB1.out hb6);have RL6:=Lib.hid ((hb6.block bX ltX.out).trans RX.out);clear ho6 hg6 hb6;refine hK.out _ _ ?_ fun hSU5=>?_;exact KS.out _ HB6.out;clear hK K hSU4;(try simp only [J0,J1,J2,J3,J4]);refine consU 6 rfl (by kernel_rfl) rfl fun K hK=>?_;refine step_app_i64 (w:=w6) (by rfl) _ _ (by rfl) w2.heap.size v6 ll (by rfl) HO6.out (.slice (some ⟨bX,0,none⟩) 1 1) [IntKind.i64.wrap nw] (by rfl) (one_lit RL6.out (wrap_wrap nw)) (by omega) (by simp) HB6.out.size ?_;intro v8 w8 ho8 hg8;have HO8:=Lib.hid ho8;have HB8:Hid (Below w2.heap.size w2 w8):=HB6.out.grown hg8 HB6.out.size (fun k hk=>HO6.out.own_ge k hk);clear ho8 hg8;refine hK.out _ _ ?_ fun hSU6=>?_;exact KS.out _ HB8.out;clear hK K hSU5;(try simp only [J0,J1,J2,J3,J4]);refine freeU 7 rfl (by kernel_rfl) rfl (by kernel_rfl) fun K hK=>?_;go_simp;refine hK.out _ _ ?_;clear hK K hSU6;(try simp only [J0,J1,J2,J3,J4]);refine wpAnyU_done (by kernel_rfl) ?_ _;obtain ⟨A8,c8,hv8⟩:∃A8 c8,v8=.slice A8 (ll ++ [IntKind.i64.wrap nw]).length c8:=by
         rcases HO8.out.shape with ⟨h1,h2⟩ | ⟨g,cap,h1,-⟩
         ·exact absurd h2 (by simp)
         ·exact ⟨_,_,h1⟩
        subst hv8;have hfit2:(ll ++ [IntKind.i64.wrap nw]).length≤140737488351232:=by rw [List.length_append]; simp; omega
        have hwf2:∀x∈ll ++ [IntKind.i64.wrap nw],x=IntKind.i64.wrap x:=fun x hx=>by
         rcases List.mem_append.1 hx with h | h
         ·exact (HLU.out w2 HG1.out).2.1 x h
         ·rw [List.mem_singleton.1 h]; exact wrap_wrap nw
        go_wp2_with fail;go_meet;rw [hnp.out];exact ⟨_,_,_,rfl,rfl,fun w5 h5=>(HO8.out.newPart (Nat.le_refl _) h5.2).read hfit2 hwf2,HB8.out⟩
       exact AllReadyU.nil
      ·have hlb:¬((ll.length:Int)<1000):=by omega
       have hnp:=Lib.hid (hnx.out.trans (if_neg hlen));go_wp2_with fail;go_meet;rw [hnp.out];exact ⟨_,_,_,rfl,rfl,fun w5 h5=>HLU.out w5 h5.1,Below.refl _ _⟩
     case rest=>
      obtain ⟨A7,n7,c7,rfl,hn7,HLN,HBX⟩:=hcut;obtain ⟨w3,rfl⟩:∃w3:World,w3=wc:=⟨_,rfl⟩;have hb3:=HBX.out;have HG2:=Lib.hid HG1.out;have hne7:(8:Int)≠7:=by decide
      have hnl:=Lib.hid (list_next (m:=m) (old:=old) (nw:=nw) (til:=til) hh hne7 _ rfl);have HE:Hid (applyE m ⟨8,i,old,nw,til⟩=(⟨m.words,m.lists.set i (nextL 8 (IntKind.i64.wrap nw) ll),m.tick⟩,⟨((nextL 8 (IntKind.i64.wrap nw) ll).length:Nat),false,false,[]⟩,true)):=hAL.out.trans (by rw [hnl.out,HLL.out]);have hnlen:=nextL_length 8 (IntKind.i64.wrap nw) ll hfit;clear hh hne7 hnl;have Q0:=Lib.hid ((hb3.block w.heap.size (by omega)).trans Q0.out);have Q1:=Lib.hid ((hb3.block (w.heap.size+1) (by omega)).trans Q1.out);have R2:=Lib.hid ((hb3.block (w.heap.size+2) (by omega)).trans R2.out);have R3:=Lib.hid ((hb3.block (w.heap.size+3) (by omega)).trans R3.out);have HB1:=Lib.hid (HB1.out.trans (hb3.mono (by omega)));have HG1:Hid (G w3):=HCL.out _ _ HG1.out hb3;have hsw3:=hb3.size;clear hb3 x0 x1 x2 y0 y1 y2 y3 y4;obtain ⟨x0,x1,x2⟩:=rowc3 Q0.out;obtain ⟨y0,y1,y2,y3,y4⟩:=rowc5 Q1.out;have HGX:Hid (Nx G w2 w3 w3):=Nx.at HG2.out HCL.out HBX.out;have HWX:Hid (Wide (Nx G w2 w3)):=Nx.wide HCL.out _ _;have HMX:=Lib.hid (HSM.out.sub fun w5 (h:Nx G w2 w3 w5)=>h.1);generalize nextL 8 (IntKind.i64.wrap nw) ll=l8 at *;subst hn7;have WC:=Lib.hid (rput_any (Nx G w2 w3) _ m i _ _ w3 HGX.out HWX.out HMX.out hi HM.out HLN.out);have hwl:IntKind.u64.wrap (l8.length:Int)=(l8.length:Int):=by rw [IntKind.wrap_u64]; omega
      go_wp2_with fail;refine WC.out.mono ?_; rintro e w4 ⟨v4,rfl,hs4,hb4⟩;obtain ⟨A5,n5,c5,A6,n6,c6,t5,rfl⟩:=hs4.shape w4 (Nx.at HGX.out HWX.out hb4);have HS4:=Lib.hid hs4;have hb4':=Lib.hid hb4;clear hs4 WC;have Q0:=Lib.hid ((hb4.block w.heap.size (by omega)).trans Q0.out);have Q1:=Lib.hid ((hb4.block (w.heap.size+1) (by omega)).trans Q1.out);have R2:=Lib.hid ((hb4.block (w.heap.size+2) (by omega)).trans R2.out);have R3:=Lib.hid ((hb4.block (w.heap.size+3) (by omega)).trans R3.out);have HB1:=Lib.hid (HB1.out.trans (hb4.mono (by omega)));have HG1:Hid (G w4):=HCL.out _ _ HG1.out hb4;have hsw4:=hb4.size;clear hb4 x0 x1 x2 y0 y1 y2 y3 y4;obtain ⟨x0,x1,x2⟩:=rowc3 Q0.out;obtain ⟨y0,y1,y2,y3,y4⟩:=rowc5 Q1.out;have T3:Hid (∀cs,((w4).setRow (w.heap.size+2) cs).heap[w.heap.size+3]?=some (.cells zeroAns 53 (0,0))):=fun cs=>(setRow_other _ _ _ _ (by omega)).trans R3.out;go_wp2_with (first
       | (refine wpList_store_row rfl 34 _ _ rfl (w.heap.size+2) _ rfl rfl 34 zeroMem R2.out (by kernel_rfl) rfl (by simp [Value.oneCell']) ?_)
       | (refine wpList_store_row rfl 53 _ _ rfl (w.heap.size+3) _ rfl rfl 53 zeroAns (T3.out _) (by kernel_rfl) rfl (by simp [Value.oneCell']) ?_))
      refine bodyPost_ret (v:=.tuple #[.agg #[.slice A5 n5 c5,.slice A6 n6 c6,.int .i64 t5],.agg #[.int .u64 l8.length,.bool false,.bool false,.slice none 0 0],.bool true]) (results_cells3 Try.results66 _ _ (w.heap.size+2) (w.heap.size+3) 34 53 _ _ (0,0) (0,0) _ _ rfl rfl ((setRow_other _ _ _ _ (by omega)).trans (setRow_heap _ _ _ _ 34 (0,0) R2.out)) (setRow_heap _ _ _ _ 53 (0,0) (T3.out _)) Try.underlying34 rfl (by kernel_rfl) Try.underlying53 rfl (by kernel_rfl) _ rfl) rfl ?_;have hbe:=row_below (row_below HB1.out (show w.heap.size≤w.heap.size+2 by omega) #[.slice A5 n5 c5,.slice A6 n6 c6,.int .i64 t5]) (show w.heap.size≤w.heap.size+3 by omega) #[.int .u64 l8.length,.bool false,.bool false,.slice none 0 0];unfold TripR;rw [HE.out];exact ⟨_,_,rfl,HS4.out.sub fun w5 (h:Nx G w _ _)=>⟨⟨h.1,h.2.sub (by omega) (by simp; omega) fun j hj hj2=>by rw [setRow_other _ _ _ _ (by omega),setRow_other _ _ _ _ (by omega)]; exact hb4'.out.block j (by omega)⟩,h.2.sub (by omega) (by simp) fun j hj hj2=>by rw [setRow_other _ _ _ _ (by omega),setRow_other _ _ _ _ (by omega)]⟩,StA.bare _ _ _ _,hbe⟩
    ·clear hkk h7
     have TW:=Lib.hid (rwithout_any G (.slice A3 ll.length c3) ll (IntKind.i64.wrap nw) w2 HG1.out HCL.out HLU.out hfit);go_wp2_with fail;rw [wrap64_eq];refine TW.out.mono ?_; rintro e w3 ⟨v7,rfl,hl7,hb3⟩;rw [← next_drop] at hl7;obtain ⟨A7,c7,rfl,-⟩:=(hl7 w3 (Nx.at HG1.out HCL.out hb3)).len;have HBX:=Lib.hid hb3;have HLN:=Lib.hid hl7;obtain ⟨n7,hn7⟩:∃n7,n7=(nextL 9 (IntKind.i64.wrap nw) ll).length:=⟨_,rfl⟩;rw [← hn7] at HLN;rw [← hn7];have HG2:=Lib.hid HG1.out;have hne7:(9:Int)≠7:=by decide
     clear hl7 TW;have hnl:=Lib.hid (list_next (m:=m) (old:=old) (nw:=nw) (til:=til) hh hne7 _ rfl);have HE:Hid (applyE m ⟨9,i,old,nw,til⟩=(⟨m.words,m.lists.set i (nextL 9 (IntKind.i64.wrap nw) ll),m.tick⟩,⟨((nextL 9 (IntKind.i64.wrap nw) ll).length:Nat),false,false,[]⟩,true)):=hAL.out.trans (by rw [hnl.out,HLL.out]);have hnlen:=nextL_length 9 (IntKind.i64.wrap nw) ll hfit;clear hh hne7 hnl;have Q0:=Lib.hid ((hb3.block w.heap.size (by omega)).trans Q0.out);have Q1:=Lib.hid ((hb3.block (w.heap.size+1) (by omega)).trans Q1.out);have R2:=Lib.hid ((hb3.block (w.heap.size+2) (by omega)).trans R2.out);have R3:=Lib.hid ((hb3.block (w.heap.size+3) (by omega)).trans R3.out);have HB1:=Lib.hid (HB1.out.trans (hb3.mono (by omega)));have HG1:Hid (G w3):=HCL.out _ _ HG1.out hb3;have hsw3:=hb3.size;clear hb3 x0 x1 x2 y0 y1 y2 y3 y4;obtain ⟨x0,x1,x2⟩:=rowc3 Q0.out;obtain ⟨y0,y1,y2,y3,y4⟩:=rowc5 Q1.out;have HGX:Hid (Nx G w2 w3 w3):=Nx.at HG2.out HCL.out HBX.out;have HWX:Hid (Wide (Nx G w2 w3)):=Nx.wide HCL.out _ _;have HMX:=Lib.hid (HSM.out.sub fun w5 (h:Nx G w2 w3 w5)=>h.1);generalize nextL 9 (IntKind.i64.wrap nw) ll=l8 at *;subst hn7;have WC:=Lib.hid (rput_any (Nx G w2 w3) _ m i _ _ w3 HGX.out HWX.out HMX.out hi HM.out HLN.out);have hwl:IntKind.u64.wrap (l8.length:Int)=(l8.length:Int):=by rw [IntKind.wrap_u64]; omega
     go_wp2_with fail;refine WC.out.mono ?_; rintro e w4 ⟨v4,rfl,hs4,hb4⟩;obtain ⟨A5,n5,c5,A6,n6,c6,t5,rfl⟩:=hs4.shape w4 (Nx.at HGX.out HWX.out hb4);have HS4:=Lib.hid hs4;have hb4':=Lib.hid hb4;clear hs4 WC;have Q0:=Lib.hid ((hb4.block w.heap.size (by omega)).trans Q0.out);have Q1:=Lib.hid ((hb4.block (w.heap.size+1) (by omega)).trans Q1.out);have R2:=Lib.hid ((hb4.block (w.heap.size+2) (by omega)).trans R2.out);have R3:=Lib.hid ((hb4.block (w.heap.size+3) (by omega)).trans R3.out);have HB1:=Lib.hid (HB1.out.trans (hb4.mono (by omega)));have HG1:Hid (G w4):=HCL.out _ _ HG1.out hb4;have hsw4:=hb4.size;clear hb4 x0 x1 x2 y0 y1 y2 y3 y4;obtain ⟨x0,x1,x2⟩:=rowc3 Q0.out;obtain ⟨y0,y1,y2,y3,y4⟩:=rowc5 Q1.out;have T3:Hid (∀cs,((w4).setRow (w.heap.size+2) cs).heap[w.heap.size+3]?=some (.cells zeroAns 53 (0,0))):=fun cs=>(setRow_other _ _ _ _ (by omega)).trans R3.out;go_wp2_with (first
      | (refine wpList_store_row rfl 34 _ _ rfl (w.heap.size+2) _ rfl rfl 34 zeroMem R2.out (by kernel_rfl) rfl (by simp [Value.oneCell']) ?_)
      | (refine wpList_store_row rfl 53 _ _ rfl (w.heap.size+3) _ rfl rfl 53 zeroAns (T3.out _) (by kernel_rfl) rfl (by simp [Value.oneCell']) ?_))
     refine bodyPost_ret (v:=.tuple #[.agg #[.slice A5 n5 c5,.slice A6 n6 c6,.int .i64 t5],.agg #[.int .u64 l8.length,.bool false,.bool false,.slice none 0 0],.bool true]) (results_cells3 Try.results66 _ _ (w.heap.size+2) (w.heap.size+3) 34 53 _ _ (0,0) (0,0) _ _ rfl rfl ((setRow_other _ _ _ _ (by omega)).trans (setRow_heap _ _ _ _ 34 (0,0) R2.out)) (setRow_heap _ _ _ _ 53 (0,0) (T3.out _)) Try.underlying34 rfl (by kernel_rfl) Try.underlying53 rfl (by kernel_rfl) _ rfl) rfl ?_;have hbe:=row_below (row_below HB1.out (show w.heap.size≤w.heap.size+2 by omega) #[.slice A5 n5 c5,.slice A6 n6 c6,.int .i64 t5]) (show w.heap.size≤w.heap.size+3 by omega) #[.int .u64 l8.length,.bool false,.bool false,.slice none 0 0];unfold TripR;rw [HE.out];exact ⟨_,_,rfl,HS4.out.sub fun w5 (h:Nx G w _ _)=>⟨⟨h.1,h.2.sub (by omega) (by simp; omega) fun j hj hj2=>by rw [setRow_other _ _ _ _ (by omega),setRow_other _ _ _ _ (by omega)]; exact hb4'.out.block j (by omega)⟩,h.2.sub (by omega) (by simp) fun j hj hj2=>by rw [setRow_other _ _ _ _ (by omega),setRow_other _ _ _ _ (by omega)]⟩,StA.bare _ _ _ _,hbe⟩
  ·have TL:=Lib.hid (rword_any _ m ad W (HSM.out.at HG1.out))
   have hAL:=Lib.hid (apply_word (m:=m) (a:=⟨k,ad,old,nw,til⟩) hb h7);have h7b:(decide (7≤k))=false:=by simpa using h7
   have h7c:¬(7≤k):=h7;clear hb;go_wp2_with fail;refine TL.out.mono ?_; rintro e w2 ⟨rfl,hb2⟩;clear TL;have Q0:=Lib.hid ((hb2.block w.heap.size (by omega)).trans Q0.out);have Q1:=Lib.hid ((hb2.block (w.heap.size+1) (by omega)).trans Q1.out);have R2:=Lib.hid ((hb2.block (w.heap.size+2) (by omega)).trans R2.out);have R3:=Lib.hid ((hb2.block (w.heap.size+3) (by omega)).trans R3.out);have HB1:=Lib.hid (HB1.out.trans (hb2.mono (by omega)));have HG1:Hid (G w2):=HCL.out _ _ HG1.out hb2;have hsw2:=hb2.size;clear hb2 x0 x1 x2 y0 y1 y2 y3 y4;obtain ⟨x0,x1,x2⟩:=rowc3 Q0.out;obtain ⟨y0,y1,y2,y3,y4⟩:=rowc5 Q1.out;cases hh:hasB m.words.length ad with
   | false=>
    have HE:=Lib.hid (hAL.out.trans (by rw [word_none hh]));clear hh;have T3:Hid (∀cs,((w2).setRow (w.heap.size+2) cs).heap[w.heap.size+3]?=some (.cells zeroAns 53 (0,0))):=fun cs=>(setRow_other _ _ _ _ (by omega)).trans R3.out;go_wp2_with (first
     | (refine wpList_store_row rfl 34 _ _ rfl (w.heap.size+2) _ rfl rfl 34 zeroMem R2.out (by kernel_rfl) rfl (by simp [Value.oneCell']) ?_)
     | (refine wpList_store_row rfl 53 _ _ rfl (w.heap.size+3) _ rfl rfl 53 zeroAns (T3.out _) (by kernel_rfl) rfl (by simp [Value.oneCell']) ?_))
    refine bodyPost_ret (v:=.tuple #[.agg #[.slice a1 m.words.length cap,.slice a2 m.lists.length cap2,.int .i64 m.tick],.agg zeroAns,.bool true]) (results_cells3 Try.results66 _ _ (w.heap.size+2) (w.heap.size+3) 34 53 _ _ (0,0) (0,0) _ _ rfl rfl ((setRow_other _ _ _ _ (by omega)).trans (setRow_heap _ _ _ _ 34 (0,0) R2.out)) (setRow_heap _ _ _ _ 53 (0,0) (T3.out _)) Try.underlying34 rfl (by kernel_rfl) Try.underlying53 rfl (by kernel_rfl) _ rfl) rfl ?_;have hbe:=row_below (row_below HB1.out (show w.heap.size≤w.heap.size+2 by omega) #[.slice a1 m.words.length cap,.slice a2 m.lists.length cap2,.int .i64 m.tick]) (show w.heap.size≤w.heap.size+3 by omega) zeroAns;unfold TripR;rw [HE.out];exact ⟨_,_,rfl,HSM.out.sub fun _ (h:Nx G w _ _)=>h.1,StA.bare _ _ _ _,hbe⟩
   | true=>
    obtain ⟨i,rfl,hi⟩:=hasB_true hh;obtain ⟨b,off,cap',e,hcap,hblt,hcells⟩:=(HSM.out.words w2 HG1.out).open (by rintro h0; rw [h0] at hi; simp at hi);have hck:=hcells i hi;simp only [Value.slice.injEq] at e;obtain ⟨rfl,-,rfl⟩:=e;have hiI:(i:Int)<m.words.length:=by omega
    have hi0:(0:Int)≤i:=by omega
    obtain ⟨y,hy⟩:∃y,m.words.getD i 0=y:=⟨_,rfl⟩;rw [hy] at hck;have HY:=Lib.hid hy;have hit:(i:Int).toNat=i:=Int.toNat_natCast i;clear hcells hy;rcases (show (k=2∨k=6)∨k=3∨k=4∨(k=1∨k=5) by omega) with hk | rfl | rfl | hk
    ·have HE:Hid (applyE m ⟨k,i,old,nw,til⟩=(⟨m.words.set i nw,m.lists,m.tick⟩,ansZ,true)):=hAL.out.trans (by rw [word_put hh hk,hit])
     clear hh hit hkk h7;rcases hk with rfl | rfl
     all_goals
      have WC:=Lib.hid (rset_any G _ m i nw w2 HG1.out HCL.out HSM.out hi HM.out HA.out.new);go_wp2_with fail;refine WC.out.mono ?_; rintro e w4 ⟨v4,rfl,hs4,hb4⟩;obtain ⟨A5,n5,c5,A6,n6,c6,t5,rfl⟩:=hs4.shape w4 (Nx.at HG1.out HCL.out hb4);have HS4:=Lib.hid hs4;clear hs4 WC;have Q0:=Lib.hid ((hb4.block w.heap.size (by omega)).trans Q0.out);have Q1:=Lib.hid ((hb4.block (w.heap.size+1) (by omega)).trans Q1.out);have R2:=Lib.hid ((hb4.block (w.heap.size+2) (by omega)).trans R2.out);have R3:=Lib.hid ((hb4.block (w.heap.size+3) (by omega)).trans R3.out);have HB1:=Lib.hid (HB1.out.trans (hb4.mono (by omega)));have HG1:Hid (G w4):=HCL.out _ _ HG1.out hb4;have hsw4:=hb4.size;clear hb4 x0 x1 x2 y0 y1 y2 y3 y4;obtain ⟨x0,x1,x2⟩:=rowc3 Q0.out;obtain ⟨y0,y1,y2,y3,y4⟩:=rowc5 Q1.out;have T3:Hid (∀cs,((w4).setRow (w.heap.size+2) cs).heap[w.heap.size+3]?=some (.cells zeroAns 53 (0,0))):=fun cs=>(setRow_other _ _ _ _ (by omega)).trans R3.out;go_wp2_with (first
       | (refine wpList_store_row rfl 34 _ _ rfl (w.heap.size+2) _ rfl rfl 34 zeroMem R2.out (by kernel_rfl) rfl (by simp [Value.oneCell']) ?_)
       | (refine wpList_store_row rfl 53 _ _ rfl (w.heap.size+3) _ rfl rfl 53 zeroAns (T3.out _) (by kernel_rfl) rfl (by simp [Value.oneCell']) ?_))
      refine bodyPost_ret (v:=.tuple #[.agg #[.slice A5 n5 c5,.slice A6 n6 c6,.int .i64 t5],.agg zeroAns,.bool true]) (results_cells3 Try.results66 _ _ (w.heap.size+2) (w.heap.size+3) 34 53 _ _ (0,0) (0,0) _ _ rfl rfl ((setRow_other _ _ _ _ (by omega)).trans (setRow_heap _ _ _ _ 34 (0,0) R2.out)) (setRow_heap _ _ _ _ 53 (0,0) (T3.out _)) Try.underlying34 rfl (by kernel_rfl) Try.underlying53 rfl (by kernel_rfl) _ rfl) rfl ?_;have hbe:=row_below (row_below HB1.out (show w.heap.size≤w.heap.size+2 by omega) #[.slice A5 n5 c5,.slice A6 n6 c6,.int .i64 t5]) (show w.heap.size≤w.heap.size+3 by omega) zeroAns;unfold TripR;rw [HE.out];exact ⟨_,_,rfl,HS4.out.sub fun w5 (h:Nx G w _ _)=>⟨h.1,h.2.sub (by omega) (by simp) fun j hj hj2=>by rw [setRow_other _ _ _ _ (by omega),setRow_other _ _ _ _ (by omega)]⟩,StA.bare _ _ _ _,hbe⟩
    ·by_cases hyo:y=old
     ·have HE:Hid (applyE m ⟨3,i,old,nw,til⟩=(⟨m.words.set i nw,m.lists,m.tick⟩,⟨y,true,false,[]⟩,true)):=hAL.out.trans (by rw [word_cas hh (by rw [hit,HY.out]; exact hyo),hit,HY.out])
      have hyn:(y != old)=false:=by simp [hyo]
      clear hh hit hkk h7 hyo;have WC:=Lib.hid (rset_any G _ m i nw w2 HG1.out HCL.out HSM.out hi HM.out HA.out.new);go_wp2_with fail;refine WC.out.mono ?_; rintro e w4 ⟨v4,rfl,hs4,hb4⟩;obtain ⟨A5,n5,c5,A6,n6,c6,t5,rfl⟩:=hs4.shape w4 (Nx.at HG1.out HCL.out hb4);have HS4:=Lib.hid hs4;clear hs4 WC;have Q0:=Lib.hid ((hb4.block w.heap.size (by omega)).trans Q0.out);have Q1:=Lib.hid ((hb4.block (w.heap.size+1) (by omega)).trans Q1.out);have R2:=Lib.hid ((hb4.block (w.heap.size+2) (by omega)).trans R2.out);have R3:=Lib.hid ((hb4.block (w.heap.size+3) (by omega)).trans R3.out);have HB1:=Lib.hid (HB1.out.trans (hb4.mono (by omega)));have HG1:Hid (G w4):=HCL.out _ _ HG1.out hb4;have hsw4:=hb4.size;clear hb4 x0 x1 x2 y0 y1 y2 y3 y4;obtain ⟨x0,x1,x2⟩:=rowc3 Q0.out;obtain ⟨y0,y1,y2,y3,y4⟩:=rowc5 Q1.out;have T3:Hid (∀cs,((w4).setRow (w.heap.size+2) cs).heap[w.heap.size+3]?=some (.cells zeroAns 53 (0,0))):=fun cs=>(setRow_other _ _ _ _ (by omega)).trans R3.out;go_wp2_with (first
       | (refine wpList_store_row rfl 34 _ _ rfl (w.heap.size+2) _ rfl rfl 34 zeroMem R2.out (by kernel_rfl) rfl (by simp [Value.oneCell']) ?_)
       | (refine wpList_store_row rfl 53 _ _ rfl (w.heap.size+3) _ rfl rfl 53 zeroAns (T3.out _) (by kernel_rfl) rfl (by simp [Value.oneCell']) ?_))
      refine bodyPost_ret (v:=.tuple #[.agg #[.slice A5 n5 c5,.slice A6 n6 c6,.int .i64 t5],.agg #[.int .u64 y,.bool true,.bool false,.slice none 0 0],.bool true]) (results_cells3 Try.results66 _ _ (w.heap.size+2) (w.heap.size+3) 34 53 _ _ (0,0) (0,0) _ _ rfl rfl ((setRow_other _ _ _ _ (by omega)).trans (setRow_heap _ _ _ _ 34 (0,0) R2.out)) (setRow_heap _ _ _ _ 53 (0,0) (T3.out _)) Try.underlying34 rfl (by kernel_rfl) Try.underlying53 rfl (by kernel_rfl) _ rfl) rfl ?_;have hbe:=row_below (row_below HB1.out (show w.heap.size≤w.heap.size+2 by omega) #[.slice A5 n5 c5,.slice A6 n6 c6,.int .i64 t5]) (show w.heap.size≤w.heap.size+3 by omega) #[.int .u64 y,.bool true,.bool false,.slice none 0 0];unfold TripR;rw [HE.out];exact ⟨_,_,rfl,HS4.out.sub fun w5 (h:Nx G w _ _)=>⟨h.1,h.2.sub (by omega) (by simp) fun j hj hj2=>by rw [setRow_other _ _ _ _ (by omega),setRow_other _ _ _ _ (by omega)]⟩,StA.bare _ _ _ _,hbe⟩
     ·have HE:Hid (applyE m ⟨3,i,old,nw,til⟩=(m,⟨y,false,false,[]⟩,true)):=hAL.out.trans (by rw [word_miss hh (by rw [hit,HY.out]; exact hyo),hit,HY.out])
      have hyn:(y != old)=true:=by simp [hyo]
      clear hh hit hkk h7 hyo;have T3:Hid (∀cs,((w2).setRow (w.heap.size+2) cs).heap[w.heap.size+3]?=some (.cells zeroAns 53 (0,0))):=fun cs=>(setRow_other _ _ _ _ (by omega)).trans R3.out;go_wp2_with (first
       | (refine wpList_store_row rfl 34 _ _ rfl (w.heap.size+2) _ rfl rfl 34 zeroMem R2.out (by kernel_rfl) rfl (by simp [Value.oneCell']) ?_)
       | (refine wpList_store_row rfl 53 _ _ rfl (w.heap.size+3) _ rfl rfl 53 zeroAns (T3.out _) (by kernel_rfl) rfl (by simp [Value.oneCell']) ?_))
      refine bodyPost_ret (v:=.tuple #[.agg #[.slice (some ⟨b,off,none⟩) m.words.length cap,.slice a2 m.lists.length cap2,.int .i64 m.tick],.agg #[.int .u64 y,.bool false,.bool false,.slice none 0 0],.bool true]) (results_cells3 Try.results66 _ _ (w.heap.size+2) (w.heap.size+3) 34 53 _ _ (0,0) (0,0) _ _ rfl rfl ((setRow_other _ _ _ _ (by omega)).trans (setRow_heap _ _ _ _ 34 (0,0) R2.out)) (setRow_heap _ _ _ _ 53 (0,0) (T3.out _)) Try.underlying34 rfl (by kernel_rfl) Try.underlying53 rfl (by kernel_rfl) _ rfl) rfl ?_;have hbe:=row_below (row_below HB1.out (show w.heap.size≤w.heap.size+2 by omega) #[.slice (some ⟨b,off,none⟩) m.words.length cap,.slice a2 m.lists.length cap2,.int .i64 m.tick]) (show w.heap.size≤w.heap.size+3 by omega) #[.int .u64 y,.bool false,.bool false,.slice none 0 0];unfold TripR;rw [HE.out];exact ⟨_,_,rfl,HSM.out.sub fun _ (h:Nx G w _ _)=>h.1,StA.bare _ _ _ _,hbe⟩
    ·have HE:Hid (applyE m ⟨4,i,old,nw,til⟩=(m,⟨y,false,y == old,[]⟩,true)):=hAL.out.trans (by rw [word_wait hh,hit,HY.out])
     clear hh hit hkk h7;go_upto_region 26 with fail
     have KS:Hid (∀w',Below w2.heap.size w2 w'→(fun w':World=>w'.cell? ⟨w.heap.size,0,none⟩=some (.slice (some ⟨b,off,none⟩) m.words.length cap)∧w'.cell? ⟨w.heap.size,1,none⟩=some (.slice a2 m.lists.length cap2)∧w'.cell? ⟨w.heap.size,2,none⟩=some (.int .i64 m.tick)∧w'.cell? ⟨w.heap.size+1,2,none⟩=some (.int .u64 old)) w'):=fun w' hb=>⟨(hb.cell (p:=⟨w.heap.size,0,none⟩) (show w.heap.size<w2.heap.size by omega)).trans x0,(hb.cell (p:=⟨w.heap.size,1,none⟩) (show w.heap.size<w2.heap.size by omega)).trans x1,(hb.cell (p:=⟨w.heap.size,2,none⟩) (show w.heap.size<w2.heap.size by omega)).trans x2,(hb.cell (p:=⟨w.heap.size+1,2,none⟩) (show w.heap.size+1<w2.heap.size by omega)).trans y2⟩;refine wp_region_until (fun w':World=>w'.cell? ⟨w.heap.size,0,none⟩=some (.slice (some ⟨b,off,none⟩) m.words.length cap)∧w'.cell? ⟨w.heap.size,1,none⟩=some (.slice a2 m.lists.length cap2)∧w'.cell? ⟨w.heap.size,2,none⟩=some (.int .i64 m.tick)∧w'.cell? ⟨w.heap.size+1,2,none⟩=some (.int .u64 old)) 8 10 (by kernel_rfl) rfl ?_;obtain ⟨u0,hu0,HUB0⟩:=drew_pack w2;rw [hu0];have R2':=Lib.hid ((HUB0.out.block (w.heap.size+2) (by omega)).trans R2.out);have R3':=Lib.hid ((HUB0.out.block (w.heap.size+3) (by omega)).trans R3.out);have HBU:=Lib.hid (HB1.out.trans (HUB0.out.mono (by omega)));have T3:Hid (∀cs,(u0.setRow (w.heap.size+2) cs).heap[w.heap.size+3]?=some (.cells zeroAns 53 (0,0))):=fun cs=>(setRow_other _ _ _ _ (by omega)).trans R3'.out;have hso:Hid (∀cs j,j≠w.heap.size+2→(u0.setRow (w.heap.size+2) cs).heap[j]?=u0.heap[j]?):=fun cs j hj=>setRow_other _ _ _ _ hj;have KS2:Hid (∀cs,(fun w':World=>w'.cell? ⟨w.heap.size,0,none⟩=some (.slice (some ⟨b,off,none⟩) m.words.length cap)∧w'.cell? ⟨w.heap.size,1,none⟩=some (.slice a2 m.lists.length cap2)∧w'.cell? ⟨w.heap.size,2,none⟩=some (.int .i64 m.tick)∧w'.cell? ⟨w.heap.size+1,2,none⟩=some (.int .u64 old)) (u0.setRow (w.heap.size+2) cs)):=fun cs=>by
      have h0:=(hso.out cs w.heap.size (by omega)).trans ((HUB0.out.block w.heap.size (by omega)).trans Q0.out);have h1:=(hso.out cs (w.heap.size+1) (by omega)).trans ((HUB0.out.block (w.heap.size+1) (by omega)).trans Q1.out);obtain ⟨z0,z1,z2⟩:=rowc3 h0;obtain ⟨q0,q1,q2,q3,q4⟩:=rowc5 h1;exact ⟨z0,z1,z2,q2⟩
     clear hu0;have hSU0:=KS.out _ HUB0.out;apply tkV 0 hSU0 rfl (by kernel_rfl) (fun _ _ _ h=>h) rfl;intro w hSw;(go_simp<;>with_reducible rfl);simp only [J0,J1,J2,J3,J4];apply tkV 1 hSU0 rfl (by kernel_rfl) (fun _ _ _ h=>h) rfl;intro w hSw;(go_simp<;>with_reducible rfl);simp only [J0,J1,J2,J3,J4];apply tkV 2 hSU0 rfl (by kernel_rfl) (fun _ _ _ h=>h) rfl;intro w hSw;(go_simp<;>with_reducible rfl);simp only [J0,J1,J2,J3,J4];apply tkV 3 hSU0 rfl (by kernel_rfl) (fun _ _ _ h=>h) rfl;intro w hSw;(go_simp<;>with_reducible rfl);simp only [J0,J1,J2,J3,J4];apply tkV 4 hSU0 rfl (by kernel_rfl) (fun _ _ _ h=>h) rfl;intro w hSw;(go_simp<;>with_reducible rfl);simp only [J0,J1,J2,J3,J4];apply tkV 5 hSU0 rfl (by kernel_rfl) (fun _ _ _ h=>h) rfl;intro w hSw;(go_simp<;>with_reducible rfl);simp only [J0,J1,J2,J3,J4];apply tkV 6 hSU0 rfl (by kernel_rfl) (fun _ _ _ h=>h) rfl;intro w hSw;(go_simp<;>with_reducible rfl);simp only [J0,J1,J2,J3,J4];refine consU 7 rfl (by kernel_rfl) rfl fun K hK=>?_;refine step_store_row rfl 34 _ _ rfl (w.heap.size+2) _ rfl rfl 34 zeroMem R2'.out (by kernel_rfl) rfl (by simp [Value.oneCell']) ?_;refine hK.out _ _ ?_ fun hSU1=>?_;exact KS2.out _;clear hK K hSU0;(try simp only [J0,J1,J2,J3,J4]);refine freeU 8 rfl (by kernel_rfl) rfl (by kernel_rfl) fun K hK=>?_;refine step_store_row rfl 53 _ _ rfl (w.heap.size+3) _ rfl rfl 53 zeroAns (T3.out _) (by kernel_rfl) rfl (by simp [Value.oneCell']) ?_;refine hK.out _ _ ?_;clear hK K hSU1;(try simp only [J0,J1,J2,J3,J4]);apply tkW 9 (past_k (by kernel_rfl)) rfl (by kernel_rfl) (fun _ _ _ h=>h) rfl;intro w;(go_simp<;>with_reducible rfl);simp only [J0,J1,J2,J3,J4];refine wpAnyU_done (by kernel_rfl) ?_ _;go_wp2_with fail;refine bodyPost_ret (v:=.tuple #[.agg #[.slice (some ⟨b,off,none⟩) m.words.length cap,.slice a2 m.lists.length cap2,.int .i64 m.tick],.agg #[.int .u64 y,.bool false,.bool (y == old),.slice none 0 0],.bool true]) (results_cells3 Try.results66 _ _ (w.heap.size+2) (w.heap.size+3) 34 53 _ _ (0,0) (0,0) _ _ rfl rfl ((setRow_other _ _ _ _ (by omega)).trans (setRow_heap _ _ _ _ 34 (0,0) R2'.out)) (setRow_heap _ _ _ _ 53 (0,0) (T3.out _)) Try.underlying34 rfl (by kernel_rfl) Try.underlying53 rfl (by kernel_rfl) _ rfl) rfl ?_
     have hbe:=row_below (row_below HBU.out (show w.heap.size≤w.heap.size+2 by omega) #[.slice (some ⟨b,off,none⟩) m.words.length cap,.slice a2 m.lists.length cap2,.int .i64 m.tick]) (show w.heap.size≤w.heap.size+3 by omega) #[.int .u64 y,.bool false,.bool (y == old),.slice none 0 0];unfold TripR;rw [HE.out];exact ⟨_,_,rfl,HSM.out.sub fun _ (h:Nx G w _ _)=>h.1,StA.bare _ _ _ _,hbe⟩
    ·have HE:Hid (applyE m ⟨k,i,old,nw,til⟩=(m,⟨y,false,false,[]⟩,true)):=hAL.out.trans (by rw [word_load hh (by omega) (by omega) (by omega) (by omega),hit,HY.out])
     clear hh hit hkk h7;rcases hk with rfl | rfl
     all_goals
      have T3:Hid (∀cs,((w2).setRow (w.heap.size+2) cs).heap[w.heap.size+3]?=some (.cells zeroAns 53 (0,0))):=fun cs=>(setRow_other _ _ _ _ (by omega)).trans R3.out;go_wp2_with (first
       | (refine wpList_store_row rfl 34 _ _ rfl (w.heap.size+2) _ rfl rfl 34 zeroMem R2.out (by kernel_rfl) rfl (by simp [Value.oneCell']) ?_)
       | (refine wpList_store_row rfl 53 _ _ rfl (w.heap.size+3) _ rfl rfl 53 zeroAns (T3.out _) (by kernel_rfl) rfl (by simp [Value.oneCell']) ?_))
      refine bodyPost_ret (v:=.tuple #[.agg #[.slice (some ⟨b,off,none⟩) m.words.length cap,.slice a2 m.lists.length cap2,.int .i64 m.tick],.agg #[.int .u64 y,.bool false,.bool false,.slice none 0 0],.bool true]) (results_cells3 Try.results66 _ _ (w.heap.size+2) (w.heap.size+3) 34 53 _ _ (0,0) (0,0) _ _ rfl rfl ((setRow_other _ _ _ _ (by omega)).trans (setRow_heap _ _ _ _ 34 (0,0) R2.out)) (setRow_heap _ _ _ _ 53 (0,0) (T3.out _)) Try.underlying34 rfl (by kernel_rfl) Try.underlying53 rfl (by kernel_rfl) _ rfl) rfl ?_;have hbe:=row_below (row_below HB1.out (show w.heap.size≤w.heap.size+2 by omega) #[.slice (some ⟨b,off,none⟩) m.words.length cap,.slice a2 m.lists.length cap2,.int .i64 m.tick]) (show w.heap.size≤w.heap.size+3 by omega) #[.int .u64 y,.bool false,.bool false,.slice none 0 0];unfold TripR;rw [HE.out];exact ⟨_,_,rfl,HSM.out.sub fun _ (h:Nx G w _ _)=>h.1,StA.bare _ _ _ _,hbe⟩
theorem SlI.heapEq {w w2:World} (h:w2.heap=w.heap) {k:IntKind} {v:Value} {l:List Int} (hs:SlI w k v l):SlI w2 k v l:=by
 obtain ⟨h1,h2,a,cap,h3,h4,h5⟩:=hs;refine ⟨h1,h2,a,cap,h3,h4,fun t ht=>?_⟩;obtain ⟨b,off,e,hb,hc⟩:=h5 t ht;refine ⟨b,off,e,by rw [h]; exact hb,?_⟩;unfold World.cell? at hc ⊢;rw [h];exact hc
theorem SlL.heapEq {w w2:World} (h:w2.heap=w.heap) {v:Value} {us:List Value} {ll:List (List Int)} (hs:SlL w v us ll):SlL w2 v us ll:=by
 obtain ⟨h1,h2,a,cap,h3,h4,h5⟩:=hs;refine ⟨h1,h2,a,cap,h3,h4,fun t ht=>?_⟩;obtain ⟨b,off,e,hb,hc,hu⟩:=h5 t ht;refine ⟨b,off,e,by rw [h]; exact hb,?_,hu.heapEq h⟩;unfold World.cell? at hc ⊢;rw [h];exact hc
theorem StM.off {w0 w:World} {g M:Nat} {v:Value} {m:MemM} (h:StM (fun w2=>w0.grownBy w2 (some g)) v m) (hb:Below w0.heap.size w0 w) (hM:w0.heap.size≤M):StM (Off g M w) v m:=by
 obtain ⟨vw,vl,us,e,hall⟩:=h;refine ⟨vw,vl,us,e,fun w2 h2=>?_⟩;have hg:w0.grownBy { w0 with heap:=w2.heap } (some g):=⟨rfl,rfl,rfl,Nat.le_trans hb.size h2.1,fun j hj hne=>(h2.2 j (Nat.lt_of_lt_of_le hj hb.size) (by simpa using fun e=>hne (by rw [e])) (by omega)).trans (hb.block j hj)⟩;obtain ⟨h3,h4⟩:=hall _ hg;exact ⟨h3.heapEq (w:={ w0 with heap:=w2.heap }) rfl,h4.heapEq (w:={ w0 with heap:=w2.heap }) rfl⟩
structure MemS (w0 wr:World) (g M:Nat) (m:MemM):Prop where
 g0:w0.heap.size≤g
 gm:g<M
 codes:CodesE wr g
 mem:∃A c A2 c2,wr.heap[M]?=some (.cells #[.slice A m.words.length c,.slice A2 m.lists.length c2,.int .i64 m.tick] 34 (0,0))∧StM (Off g M wr) (.agg #[.slice A m.words.length c,.slice A2 m.lists.length c2,.int .i64 m.tick]) m
 fits:m.fits
 wl:m.words.length≤7
 ll:m.lists.length≤3
 below:Below w0.heap.size w0 wr
theorem MemS.lt {w0 wr:World} {g M:Nat} {m:MemM} (h:MemS w0 wr g M m):M<wr.heap.size:=by
 obtain ⟨A,c,A2,c2,h1,-⟩:=h.mem;exact (Array.getElem?_eq_some_iff.1 h1).1
theorem MemS.move {w0 wr w2:World} {g M:Nat} {m:MemM} (h:MemS w0 wr g M m) (ho:Off g M wr w2) (hm:w2.heap[M]?=wr.heap[M]?) (hc:CodesE w2 g) (hb:Below w0.heap.size w0 w2):MemS w0 w2 g M m:=by
 obtain ⟨A,c,A2,c2,h1,h2⟩:=h.mem;exact ⟨h.g0,h.gm,hc,⟨A,c,A2,c2,hm.trans h1,h2.sub fun w3 h3=>ho.trans h3⟩,h.fits,h.wl,h.ll,hb⟩
theorem MemS.next {w0 wr w2:World} {g M:Nat} {m:MemM} (h:MemS w0 wr g M m) (hb:Below wr.heap.size wr w2):MemS w0 w2 g M m:=
 h.move (Off.below hb) (hb.block M h.lt) (h.codes.kept h.codes.lt hb) (below_then h.below hb)
theorem MemS.drawn {w0 wr w2:World} {g M:Nat} {m:MemM} (h:MemS w0 wr g M m) (hc:CodesE w2 g) (hg:wr.grownBy w2 (some g)):MemS w0 w2 g M m:=by
 have hgm:=h.gm;exact h.move (Off.grown hg) (hg.block M h.lt (by simp; omega)) hc (h.below.grown hg h.below.size (fun k hk=>by cases hk; exact h.g0))
theorem MemS.open {w0 wr:World} {g M:Nat} {m:MemM} (h:MemS w0 wr g M m):∃A c A2 c2,Hid (wr.heap[M]?=some (.cells #[.slice A m.words.length c,.slice A2 m.lists.length c2,.int .i64 m.tick] 34 (0,0)))∧Hid (StM (Off g M wr) (.agg #[.slice A m.words.length c,.slice A2 m.lists.length c2,.int .i64 m.tick]) m):=h.mem
theorem MemS.taken {w0 wr w1 w2:World} {g M:Nat} {m m':MemM} {A A2:Option Addr} {c c2:Nat} (h:MemS w0 wr g M m) (hb:Below wr.heap.size wr w1) (hb2:Below w1.heap.size w1 w2)
  (hs:StM (Nx (Off g M wr) wr w1) (.agg #[.slice A m'.words.length c,.slice A2 m'.lists.length c2,.int .i64 m'.tick]) m') (hf:m'.fits) (hw:m'.words.length≤7) (hl:m'.lists.length≤3):MemS w0 (w2.setRow M #[.slice A m'.words.length c,.slice A2 m'.lists.length c2,.int .i64 m'.tick]) g M m':=by
 have hlt:=h.lt;have hgm:=h.gm;have hg0:=h.g0;have hs1:=hb.size;have hs2:=hb2.size;obtain ⟨B,d,B2,d2,h1,h2⟩:=h.mem;have hr:=(hb2.block M (by omega)).trans ((hb.block M hlt).trans h1);refine ⟨h.g0,h.gm,?_,⟨A,c,A2,c2,setRow_heap _ _ _ _ _ (0,0) hr,hs.sub fun w3 h3=>?_⟩,hf,hw,hl,row_below (below_then (below_then h.below hb) hb2) (by omega) _⟩
 ·exact (h.codes.kept h.codes.lt (below_then hb hb2)).kept hgm (row_below (Below.refl M w2) (Nat.le_refl _) _)
 ·exact Off.nx (Off.self _ _ _) hb h.codes.lt hlt w3 ((Off.below hb2).trans ((Off.setRow w2 _).trans h3))
def capsArr:Array Value:=#[.int .i64 0,.int .i64 1,.int .i64 2,.int .i64 0,.int .i64 1,.int .i64 3]
def startsArr:Array Value:=#[.int .u64 0,.int .u64 1,.int .u64 9223372036854775807,.int .u64 9223372036854775806,.int .u64 4611686018427387904,.int .u64 5]
structure CfgInv (w0 w:World) (g:Nat) (val:Int) (R:Nat) (vc vs:Value) (caps starts r:List Int):Prop where
 lt:g<R
 eq:R=w0.heap.size
 codes:CodesAt w g r val
 grown:w0.grownBy w (some g)
 res:w.heap[R]?=some (.cells #[.slice none 0 0,.slice none 0 0,.int .i64 0] 31 (0,0))
 lc:w.heap[R+1]?=some (.cells capsArr 3 (0,0))
 ls:w.heap[R+2]?=some (.cells startsArr 23 (0,0))
 box:w.heap[R+3]?=some (.cells #[vc,vs,.int .i64 0] 31 (0,0))
 oc:OwnI w (R+4) 3 .i64 vc caps
 os:OwnI w (R+4) 23 .u64 vs starts
theorem CfgInv.size {w0 w:World} {g:Nat} {val:Int} {R:Nat} {vc vs:Value} {caps starts r:List Int} (h:CfgInv w0 w g val R vc vs caps starts r):R+4≤w.heap.size:=
 (Array.getElem?_eq_some_iff.1 h.box).1
theorem CfgInv.next {w0 w w':World} {g:Nat} {val:Int} {R:Nat} {vc vs:Value} {caps starts r r':List Int} (h:CfgInv w0 w g val R vc vs caps starts r) (hc:CodesAt w' g r' val) (hg:w.grownBy w' (some g)) :
  CfgInv w0 w' g val R vc vs caps starts r':=by
 have hs:=h.size;have hl:=h.lt;have b:∀j,R≤j→j<R+4→w'.heap[j]?=w.heap[j]?:=fun j h1 h2=>hg.block j (by omega) (by simp; omega);exact ⟨hl,h.eq,hc,grownBy_trans h.grown hg,(b R (by omega) (by omega)).trans h.res,(b (R+1) (by omega) (by omega)).trans h.lc,(b (R+2) (by omega) (by omega)).trans h.ls,(b (R+3) (by omega) (by omega)).trans h.box,
  h.oc.kept hg (h.oc.ne (by omega)),h.os.kept hg (h.os.ne (by omega))⟩
theorem own_apart {w:World} {b1 b2:Nat} {e1 e2:TypeId} {k1 k2:IntKind} {v1 v2:Value} {l1 l2:List Int} (h1:OwnI w b1 e1 k1 v1 l1) (h2:OwnI w b2 e2 k2 v2 l2) (he:e1≠e2):v1.ownBlock=none∨v1.ownBlock≠v2.ownBlock:=by
 rcases h1.2 with ⟨rfl,_⟩ | ⟨g,cap,cur,rfl,_,hg,_⟩
 ·exact .inl rfl
 ·rcases h2.2 with ⟨rfl,_⟩ | ⟨g',cap',cur',rfl,_,hg',_⟩
  ·exact .inr (by simp [Value.ownBlock])
  ·refine .inr ?_
   simp only [Value.ownBlock,ne_eq,Option.some.injEq];intro e;rw [e,hg'] at hg;simp at hg;exact he hg.2.symm
theorem CfgInv.spot {w0 w w1:World} {g:Nat} {val:Int} {R:Nat} {vc vs:Value} {caps starts r:List Int} {row:Option Nat} (h:CfgInv w0 w g val R vc vs caps starts r) (o:Obj) (hg:(w.alloc o).grownBy w1 row) (hge:∀j,row=some j→R+4≤j) :
  (w1.cell? ⟨R+3,0,none⟩=some vc∧w1.frozen? ⟨R+3,0,none⟩=false)∧(w1.cell? ⟨R+3,1,none⟩=some vs∧w1.frozen? ⟨R+3,1,none⟩=false):=by
 have hs:=h.size;have hb:Below (R+4) w w1:=((Below.refl (R+4) w).alloc hs o).grown hg (by simp; omega) hge;have hbox:=(hb.block (R+3) (by omega)).trans h.box;exact ⟨⟨cell_of_row w1 (R+3) 0 _ _ _ hbox,frozen_of_row w1 (R+3) 0 _ _ hbox⟩,⟨cell_of_row w1 (R+3) 1 _ _ _ hbox,frozen_of_row w1 (R+3) 1 _ _ hbox⟩⟩
theorem OwnI.shape_ne {w:World} {base:Nat} {e:TypeId} {k:IntKind} {v:Value} {l:List Int} {y:Int} (h:OwnI w base e k v (l ++ [y])):∃g cap,v=.slice (some ⟨g,0,none⟩) (l.length+1) cap:=by
 rcases h.shape with ⟨_,h1⟩ | ⟨g,cap,h1,_⟩
 ·exact absurd h1 (by simp)
 ·exact ⟨g,cap,by simpa using h1⟩
theorem CfgInv.addCap {w0 w w1:World} {g:Nat} {val:Int} {R:Nat} {vc vs vc':Value} {caps starts r caps':List Int} (h:CfgInv w0 w g val R vc vs caps starts r) (o:Obj) (ho:OwnI w1 (R+4) 3 .i64 vc' caps') (hg:(w.alloc o).grownBy w1 vc.ownBlock) :
  CfgInv w0 (w1.setCell ⟨R+3,0,none⟩ vc') g val R vc' vs caps' starts r:=by
 have hs:=h.size;have hl:=h.lt;have hge:∀j,vc.ownBlock=some j→R+4≤j:=h.oc.own_ge;have hb:Below (R+4) w w1:=((Below.refl (R+4) w).alloc hs o).grown hg (by simp; omega) hge;have b:∀j,j<R+4→w1.heap[j]?=w.heap[j]?:=fun j h1=>hb.block j h1;have b2:∀j,j≠R+3→(w1.setCell ⟨R+3,0,none⟩ vc').heap[j]?=w1.heap[j]?:=fun j hj=>heap_setCell_other w1 ⟨R+3,0,none⟩ j _ hj;have hbox:=(b (R+3) (by omega)).trans h.box;have hos:OwnI w1 (R+4) 23 .u64 vs starts:=(h.os.alloc o).kept hg (own_apart (h.os.alloc o) (h.oc.alloc o) (by decide));have hsb:Below (R+3) w1 (w1.setCell ⟨R+3,0,none⟩ vc'):=(Below.refl (R+3) w1).setCell (p:=⟨R+3,0,none⟩) (Nat.le_refl _) _;refine ⟨hl,h.eq,(h.codes.kept (B:=R+4) (by omega) hb).kept (B:=R+3) (by omega) hsb,?_,(b2 R (by omega)).trans ((b R (by omega)).trans h.res),(b2 (R+1) (by omega)).trans ((b (R+1) (by omega)).trans h.lc),(b2 (R+2) (by omega)).trans ((b (R+2) (by omega)).trans h.ls),?_,
  ho.kept (grownBy_setCell w1 ⟨R+3,0,none⟩ vc') (ho.ne (by simp)),hos.kept (grownBy_setCell w1 ⟨R+3,0,none⟩ vc') (hos.ne (by simp))⟩
 ·have e:=h.eq
  exact grownBy_of_below (grownBy_of_below h.grown (hb.mono (by omega))) ((hsb).mono (by omega))
 ·have:=heap_setCell_same w1 (R+3) 0 _ _ vc' hbox
  simpa using this
theorem CfgInv.addStart {w0 w w1:World} {g:Nat} {val:Int} {R:Nat} {vc vs vs':Value} {caps starts r starts':List Int} (h:CfgInv w0 w g val R vc vs caps starts r) (o:Obj) (ho:OwnI w1 (R+4) 23 .u64 vs' starts') (hg:(w.alloc o).grownBy w1 vs.ownBlock) :
  CfgInv w0 (w1.setCell ⟨R+3,1,none⟩ vs') g val R vc vs' caps starts' r:=by
 have hs:=h.size;have hl:=h.lt;have hge:∀j,vs.ownBlock=some j→R+4≤j:=h.os.own_ge;have hb:Below (R+4) w w1:=((Below.refl (R+4) w).alloc hs o).grown hg (by simp; omega) hge;have b:∀j,j<R+4→w1.heap[j]?=w.heap[j]?:=fun j h1=>hb.block j h1;have b2:∀j,j≠R+3→(w1.setCell ⟨R+3,1,none⟩ vs').heap[j]?=w1.heap[j]?:=fun j hj=>heap_setCell_other w1 ⟨R+3,1,none⟩ j _ hj;have hbox:=(b (R+3) (by omega)).trans h.box;have hoc:OwnI w1 (R+4) 3 .i64 vc caps:=(h.oc.alloc o).kept hg (own_apart (h.oc.alloc o) (h.os.alloc o) (by decide));have hsb:Below (R+3) w1 (w1.setCell ⟨R+3,1,none⟩ vs'):=(Below.refl (R+3) w1).setCell (p:=⟨R+3,1,none⟩) (Nat.le_refl _) _;refine ⟨hl,h.eq,(h.codes.kept (B:=R+4) (by omega) hb).kept (B:=R+3) (by omega) hsb,?_,(b2 R (by omega)).trans ((b R (by omega)).trans h.res),(b2 (R+1) (by omega)).trans ((b (R+1) (by omega)).trans h.lc),(b2 (R+2) (by omega)).trans ((b (R+2) (by omega)).trans h.ls),?_,
  hoc.kept (grownBy_setCell w1 ⟨R+3,1,none⟩ vs') (hoc.ne (by simp)),ho.kept (grownBy_setCell w1 ⟨R+3,1,none⟩ vs') (ho.ne (by simp))⟩
 ·have e:=h.eq
  exact grownBy_of_below (grownBy_of_below h.grown (hb.mono (by omega))) ((hsb).mono (by omega))
 ·have:=heap_setCell_same w1 (R+3) 1 _ _ vs' hbox
  simpa using this
theorem undrew {a b:World} {row:Option Nat} (h:a.drew.grownBy b row):a.grownBy b row:=⟨h.os,h.tape,h.output,h.size,h.block⟩
theorem nxt_nat (r:List Int) (n:Int) (h:1≤n):∃p:Nat,nxt r n=p∧(p:Int)<n:=by
 have:=nxt_bd r n (by omega);exact ⟨(nxt r n).toNat,by omega,by omega⟩
theorem caps_at (w:World) (b p:Nat) (hp:p<6) (h:w.heap[b]?=some (.cells capsArr 3 (0,0))):∃q:Int,w.cell? ⟨b,p,none⟩=some (.int .i64 q)∧0≤q∧q≤3:=by
 rw [cell_of_row w b p _ _ _ h];obtain rfl | rfl | rfl | rfl | rfl | rfl:p=0∨p=1∨p=2∨p=3∨p=4∨p=5:=by omega
 all_goals exact ⟨_,rfl,by decide,by decide⟩
theorem starts_at (w:World) (b p:Nat) (hp:p<6) (h:w.heap[b]?=some (.cells startsArr 23 (0,0))):∃q:Int,w.cell? ⟨b,p,none⟩=some (.int .u64 q)∧Hid (0≤q∧q<9223372036854775808):=by
 rw [cell_of_row w b p _ _ _ h];obtain rfl | rfl | rfl | rfl | rfl | rfl:p=0∨p=1∨p=2∨p=3∨p=4∨p=5:=by omega
 all_goals exact ⟨_,rfl,Lib.hid (by decide)⟩
def CfgOk (caps starts:List Int) (k:Nat):Prop:=caps.length=k∧starts.length=k∧(∀x∈caps,0≤x∧x≤3)∧∀x∈starts,0≤x∧x<9223372036854775808
theorem CfgOk.snoc {caps starts:List Int} {k:Nat} (h:CfgOk caps starts k) (q s:Int) (hq:0≤q∧q≤3) (hs:0≤s∧s<9223372036854775808):CfgOk (caps ++ [q]) (starts ++ [s]) (k+1):=by
 obtain ⟨h1,h2,h3,h4⟩:=h;refine ⟨by simp [h1],by simp [h2],fun x hx=>?_,fun x hx=>?_⟩
 ·simp at hx; rcases hx with hx | rfl
  ·exact h3 x hx
  ·exact hq
 ·simp at hx; rcases hx with hx | rfl
  ·exact h4 x hx
  ·exact hs
theorem CfgInv.start (w:World) (g:Nat) (r:List Int) (val:Int) (h:CodesAt w g r val) :
  CfgInv w ((((w.alloc (.cells #[.slice none 0 0,.slice none 0 0,.int .i64 0] 31)).alloc (.cells capsArr 3)).alloc (.cells startsArr 23)).alloc (.cells #[.slice none 0 0,.slice none 0 0,.int .i64 0] 31))
   g val w.heap.size (.slice none 0 0) (.slice none 0 0) [] [] r:=by
 have hb:Below w.heap.size w ((((w.alloc (.cells #[.slice none 0 0,.slice none 0 0,.int .i64 0] 31)).alloc (.cells capsArr 3)).alloc (.cells startsArr 23)).alloc (.cells #[.slice none 0 0,.slice none 0 0,.int .i64 0] 31)):=
  below_new (below_new (below_new (below_new (Below.refl _ _) _) _) _) _
 refine ⟨h.lt,rfl,h.kept h.lt hb,grownBy_of_below (grownBy_refl _ _) hb,?_,?_,?_,?_,OwnI.nil _ _ _ _,OwnI.nil _ _ _ _⟩
 ·rw [heap_alloc_old _ _ (by simp <;> omega),heap_alloc_old _ _ (by simp <;> omega),heap_alloc_old _ _ (by simp <;> omega),heap_alloc_new]
 ·rw [heap_alloc_old _ _ (by simp <;> omega),heap_alloc_old _ _ (by simp <;> omega)]
  have:=heap_alloc_new (w.alloc (.cells #[.slice none 0 0,.slice none 0 0,.int .i64 0] 31)) (.cells capsArr 3);simpa using this
 ·rw [heap_alloc_old _ _ (by simp <;> omega)]
  have:=heap_alloc_new ((w.alloc (.cells #[.slice none 0 0,.slice none 0 0,.int .i64 0] 31)).alloc (.cells capsArr 3)) (.cells startsArr 23);simpa using this
 ·have:=heap_alloc_new (((w.alloc (.cells #[.slice none 0 0,.slice none 0 0,.int .i64 0] 31)).alloc (.cells capsArr 3)).alloc (.cells startsArr 23)) (.cells #[.slice none 0 0,.slice none 0 0,.int .i64 0] 31)
  simpa using this
theorem CfgInv.fin {w0 w:World} {g:Nat} {val:Int} {R k:Nat} {vc vs:Value} {caps starts r:List Int} (h:CfgInv w0 w g val R vc vs caps starts r) (hok:CfgOk caps starts k) (hk:k≤100) (a b c d:Value) :
  SlI ((((w.setCell ⟨R+3,2,none⟩ a).setCell ⟨R,0,none⟩ b).setCell ⟨R,1,none⟩ c).setCell ⟨R,2,none⟩ d) .i64 vc caps∧
  SlI ((((w.setCell ⟨R+3,2,none⟩ a).setCell ⟨R,0,none⟩ b).setCell ⟨R,1,none⟩ c).setCell ⟨R,2,none⟩ d) .u64 vs starts∧
  CodesAt ((((w.setCell ⟨R+3,2,none⟩ a).setCell ⟨R,0,none⟩ b).setCell ⟨R,1,none⟩ c).setCell ⟨R,2,none⟩ d) g r val∧
  w0.grownBy ((((w.setCell ⟨R+3,2,none⟩ a).setCell ⟨R,0,none⟩ b).setCell ⟨R,1,none⟩ c).setCell ⟨R,2,none⟩ d) (some g)∧
  OwnI ((((w.setCell ⟨R+3,2,none⟩ a).setCell ⟨R,0,none⟩ b).setCell ⟨R,1,none⟩ c).setCell ⟨R,2,none⟩ d) (R+4) 3 .i64 vc caps∧OwnI ((((w.setCell ⟨R+3,2,none⟩ a).setCell ⟨R,0,none⟩ b).setCell ⟨R,1,none⟩ c).setCell ⟨R,2,none⟩ d) (R+4) 23 .u64 vs starts:=by
 obtain ⟨o1,o2,o3,o4⟩:=hok;have hb:Below R w ((((w.setCell ⟨R+3,2,none⟩ a).setCell ⟨R,0,none⟩ b).setCell ⟨R,1,none⟩ c).setCell ⟨R,2,none⟩ d):=
  ((((Below.refl R w).setCell (p:=⟨R+3,2,none⟩) (by simp) a).setCell (p:=⟨R,0,none⟩) (Nat.le_refl _) b).setCell (p:=⟨R,1,none⟩) (Nat.le_refl _) c).setCell (p:=⟨R,2,none⟩) (Nat.le_refl _) d
 have keep:∀{e k v l},OwnI w (R+4) e k v l→OwnI ((((w.setCell ⟨R+3,2,none⟩ a).setCell ⟨R,0,none⟩ b).setCell ⟨R,1,none⟩ c).setCell ⟨R,2,none⟩ d) (R+4) e k v l:=fun ho=>by
  have h1:=ho.kept (grownBy_setCell w ⟨R+3,2,none⟩ a) (ho.ne (by simp));have h2:=h1.kept (grownBy_setCell _ ⟨R,0,none⟩ b) (h1.ne (by simp));have h3:=h2.kept (grownBy_setCell _ ⟨R,1,none⟩ c) (h2.ne (by simp));exact h3.kept (grownBy_setCell _ ⟨R,2,none⟩ d) (h3.ne (by simp))
 refine ⟨(keep h.oc).read (by omega) fun x hx=>?_,(keep h.os).read (by omega) fun x hx=>?_,h.codes.kept h.lt hb,grownBy_of_below h.grown (hb.mono (by rw [h.eq]; exact Nat.le_refl _)),keep h.oc,keep h.os⟩
 ·have:=o3 x hx; exact i64_ok x (by omega) (by omega)
 ·have:=o4 x hx; rw [IntKind.wrap_u64]; omega
set_option maxRecDepth 100000 in
set_option maxHeartbeats 1000000 in
theorem config_own (g:Nat) (r:List Int) (val:Int) (w:World) (h:CodesAt w g r val) :
  Calls Try.prog 11 #[.pointer (some ⟨g,0,none⟩)] w fun e w'=>∃vc vs t caps starts r',e=.returned (.agg #[vc,vs,.int .i64 t])∧
   SlI w' .i64 vc caps∧SlI w' .u64 vs starts∧caps.length=starts.length∧1≤caps.length∧caps.length≤3∧2≤t∧t≤4∧CodesAt w' g r' val∧w.grownBy w' (some g)∧offB g vc∧offB g vs∧CfgOk caps starts caps.length∧OwnI w' w.heap.size 3 .i64 vc caps∧OwnI w' w.heap.size 23 .u64 vs starts:=by
 have hgl:=h.lt;go_enter Try.func11,Try.ntmps11;have ST:=Lib.hid (CfgInv.start w g r val h);go_wp2_with fail;rw [show w.heap.size+1+1+1=w.heap.size+3 from rfl,show w.heap.size+1+1=w.heap.size+2 from rfl];generalize hRR:w.heap.size=R at *;clear hRR;go_loopw [6] (fun c wr=>∃k:Nat,∃vc vs caps starts r',k≤3∧c=.int .i64 k∧Hid (CfgInv w wr g val R vc vs caps starts r')∧Hid (CfgOk caps starts k)) (fun c _=>4 - (intOf c).toNat)
 case atStart=>exact ⟨0,_,_,_,_,_,by omega,rfl,ST,rfl,rfl,by simp,by simp⟩
 case round=>
  clear ST;obtain ⟨k,vc,vs,caps,starts,r',hk,rfl,hI,hL⟩:=hrel;obtain ⟨wo,rfl⟩:∃wo:World,wo=wr:=⟨_,rfl⟩;go_wp2_with fail;refine (next_any g r' val 3 _ hI.out.codes (by omega) (by omega)).mono ?_; rintro e w1 ⟨rfl,hc1,hg1⟩;have nb:=nxt_bd r' 3 (by omega);generalize nxt r' 3=y at *;have hI1:=Lib.hid (hI.out.next hc1 hg1);clear hI hc1 hg1;by_cases hlt:(k:Int)≤y
  ·go_wp2_with fail
   have c0:=cell_of_row w1 (R+3) 0 _ _ _ hI1.out.box;simp at c0;go_region_law (first
     | (refine step_append_i64 (by rfl) _ _ (by rfl) (R+4) vc caps (by rfl) (hI2.out.oc.alloc _) q _ (by rfl) (by exact World.cell?_alloc_at _ _ _ _ rfl) (by rw [hL.out.1]; omega) (by have:=hI2.out.size; simp; omega) ?_; intro vc2 w3 ho3 hg3; obtain ⟨gg,cg,hvc2⟩:=OwnI.shape_ne ho3; obtain ⟨⟨c3,f3⟩,-⟩:=hI2.out.spot _ hg3 hI2.out.oc.own_ge; subst hvc2)
     | (go_simp; go_at_call 12; refine (next_any g _ val 6 _ (by exact hI1.out.codes) (by omega) (by omega)).mono ?_; rintro e w2 ⟨rfl,hc2,hg2⟩; have hI2:=Lib.hid (hI1.out.next hc2 (undrew hg2)); obtain ⟨p,hp,hp6⟩:=nxt_nat (List.tail r') 6 (by omega); rw [hp]; obtain ⟨q,hq,hq3⟩:=caps_at w2 (R+1) p (by omega) hI2.out.lc; have c0:=cell_of_row w2 (R+3) 0 _ _ _ hI2.out.box; have f0:=frozen_of_row w2 (R+3) 0 _ _ hI2.out.box; have z2:R+3<w2.heap.size:=(by have:=hI2.out.size; omega); simp at c0))
   all_goals
    have hI3:=Lib.hid (hI2.out.addCap _ ho3 hg3);have HQ3:=Lib.hid hq3;generalize hc2e:caps ++ [q]=caps2 at *;have HC2:=Lib.hid hc2e;generalize (Value.slice (some ⟨gg,0,none⟩) (caps.length+1) cg)=vc2 at *;clear hI1 hI2 ho3 hg3 hc2 hg2 c0 f0 c3 f3 z2 hq hq3 hp hp6 hc2e;go_wp2_with fail;generalize w3.setCell ⟨R+3,0,none⟩ vc2=W3 at *;have d0:=cell_of_row W3 (R+3) 1 _ _ _ hI3.out.box;simp at d0;go_region_law (first
     | (refine step_append_u64 (by rfl) _ _ (by rfl) (R+4) vs starts (by rfl) (hI4.out.os.alloc _) q4 _ (by rfl) (by exact World.cell?_alloc_at _ _ _ _ rfl) (by rw [hL.out.2.1]; omega) (by have:=hI4.out.size; simp; omega) ?_; intro vs2 w5 ho5 hg5; obtain ⟨gg5,cg5,hvs2⟩:=OwnI.shape_ne ho5; obtain ⟨-,⟨c5,f5⟩⟩:=hI4.out.spot _ hg5 hI4.out.os.own_ge; subst hvs2)
     | (go_simp; go_at_call 12; refine (next_any g _ val 6 _ (by exact hI3.out.codes) (by omega) (by omega)).mono ?_; rintro e w4 ⟨rfl,hc4,hg4⟩; have hI4:=Lib.hid (hI3.out.next hc4 (undrew hg4)); obtain ⟨p4,hp4,hp64⟩:=nxt_nat (List.tail (List.tail r')) 6 (by omega); rw [hp4]; obtain ⟨q4,hq4,hq43⟩:=starts_at w4 (R+2) p4 (by omega) hI4.out.ls; have d0:=cell_of_row w4 (R+3) 1 _ _ _ hI4.out.box; have f0:=frozen_of_row w4 (R+3) 1 _ _ hI4.out.box; have z4:R+3<w4.heap.size:=(by have:=hI4.out.size; omega); simp at d0))
    all_goals
     have hI5:=Lib.hid (hI4.out.addStart _ ho5 hg5);have hL5:=Lib.hid (hL.out.snoc q q4 HQ3.out hq43.out);rw [HC2.out] at hL5;clear hI4 ho5 hg5 hc4 hg4 d0 f0 c5 f5 z4 hq4 hp4 hp64;go_wp2;go_roundw
     case rel=>exact ⟨k+1,_,_,_,_,_,by omega,by go_num,hI5,hL5⟩
     case measure=>simp [intOf]; omega
  ·have hk1:1≤k:=by omega
   go_wp2_with fail;refine (next_any g _ val 3 _ hI1.out.codes (by omega) (by omega)).mono ?_; rintro e w2 ⟨rfl,hc2,hg2⟩;have nb2:=nxt_bd r'.tail 3 (by omega);generalize nxt r'.tail 3=t at *;have hI2:=Lib.hid (hI1.out.next hc2 hg2);have c0:=cell_of_row w2 (R+3) 0 _ _ _ hI2.out.box;have c1:=cell_of_row w2 (R+3) 1 _ _ _ hI2.out.box;have c2:=cell_of_row w2 (R+3) 2 _ _ _ hI2.out.box;have f2:=frozen_of_row w2 (R+3) 2 _ _ hI2.out.box;have d0:=cell_of_row w2 R 0 _ _ _ hI2.out.res;have d1:=cell_of_row w2 R 1 _ _ _ hI2.out.res;have d2:=cell_of_row w2 R 2 _ _ _ hI2.out.res;have g0:=frozen_of_row w2 R 0 _ _ hI2.out.res;have g1:=frozen_of_row w2 R 1 _ _ hI2.out.res;have g2:=frozen_of_row w2 R 2 _ _ hI2.out.res;simp at c0 c1 c2 d0 d1 d2;have hRR:¬R=R+3:=by omega
   have hR3:¬R+3=R:=by omega
   obtain ⟨ac,cc,rfl⟩:∃ac cc,vc=.slice ac caps.length cc:=by
    rcases hI2.out.oc.shape with ⟨rfl,h⟩ | ⟨g',cap',rfl,_⟩
    ·exact ⟨none,0,by rw [h]; rfl⟩
    ·exact ⟨_,_,rfl⟩
   obtain ⟨ast,cst,rfl⟩:∃ac cc,vs=.slice ac starts.length cc:=by
    rcases hI2.out.os.shape with ⟨rfl,h⟩ | ⟨g',cap',rfl,_⟩
    ·exact ⟨none,0,by rw [h]; rfl⟩
    ·exact ⟨_,_,rfl⟩
   clear hc2 hg2 hI1;have HI:=Lib.hid hI2.out;go_wp2;refine bodyPost_ret (v:=.agg #[.slice ac caps.length cc,.slice ast starts.length cst,.int .i64 (2+t)]) (by simp [results,Try.results11,go_sem, *]) rfl ?_;obtain ⟨s1,s2,s3,s4,s5,s6⟩:=HI.out.fin hL.out (by omega) (.int .i64 (2+t)) (.slice ac caps.length cc) (.slice ast starts.length cst) (.int .i64 (2+t));have hl:=hL.out;exact ⟨_,_,_,caps,starts,_,rfl,s1,s2,by rw [hl.1,hl.2.1],by rw [hl.1]; exact hk1,by rw [hl.1]; exact hk,by omega,by omega,s3,s4,HI.out.oc.off (by omega),HI.out.os.off (by omega),by rw [hl.1]; exact hl,s5.mono_base (by have:=HI.out.eq; omega),s6.mono_base (by have:=HI.out.eq; omega)⟩
theorem config_any (g:Nat) (r:List Int) (val:Int) (w:World) (h:CodesAt w g r val) :
  Calls Try.prog 11 #[.pointer (some ⟨g,0,none⟩)] w fun e w'=>∃vc vs t caps starts r',e=.returned (.agg #[vc,vs,.int .i64 t])∧
   SlI w' .i64 vc caps∧SlI w' .u64 vs starts∧caps.length=starts.length∧1≤caps.length∧caps.length≤3∧2≤t∧t≤4∧CodesAt w' g r' val∧w.grownBy w' (some g)∧offB g vc∧offB g vs∧CfgOk caps starts caps.length:=by
 refine (config_own g r val w h).mono ?_;rintro e w' ⟨vc,vs,t,caps,starts,r',h0,h1,h2,h3,h4,h5,h6,h7,h8,h9,h10,h11,h12,-,-⟩;exact ⟨vc,vs,t,caps,starts,r',h0,h1,h2,h3,h4,h5,h6,h7,h8,h9,h10,h11,h12⟩
theorem WI.start {WT:TypeId} {w0 wc wd:World} {E:List (Option Nat)} {a a2 m1 m2:Option Addr} {cap cap2 n1 n2:Nat} {c:ConfM} (hg:c.good) (hE:∀j,some j∈E→w0.heap.size≤j∧j<wc.heap.size)
  (hc:∀w2,OffS E wc w2→SlI w2 .i64 (.slice a c.caps.length cap) c.caps∧SlI w2 .u64 (.slice a2 c.starts.length cap2) c.starts) (hb:Below wc.heap.size wc wd)
  (hm:StM (NewPart wc wd) (.agg #[.slice m1 (newE c).words.length n1,.slice m2 (newE c).lists.length n2,.int .i64 (newE c).tick]) (newE c)) (h0:Below w0.heap.size w0 wc) :
  WI WT w0 (wd.alloc (.cells #[.slice a c.caps.length cap,.slice a2 c.starts.length cap2,.int .i64 c.threads,.slice m1 (newE c).words.length n1,.slice m2 (newE c).lists.length n2,.int .i64 (newE c).tick,.slice none 0 0,.slice none 0 0,.slice none 0 0,.slice none 0 0] WT)) E wd.heap.size (wd.heap.size+1) ⟨a,cap,a2,cap2,m1,n1,m2,n2,none,0,none,0,none,0,none,0⟩ ⟨c,newE c,[],[],[],[]⟩:=by
 have hb2:Below wd.heap.size wd (wd.alloc (.cells #[.slice a c.caps.length cap,.slice a2 c.starts.length cap2,.int .i64 c.threads,.slice m1 (newE c).words.length n1,.slice m2 (newE c).lists.length n2,.int .i64 (newE c).tick,.slice none 0 0,.slice none 0 0,.slice none 0 0,.slice none 0 0] WT)):=below_new (Below.refl _ _) _;have hz:=hb.size;have z0:=h0.size;have hin:∀w2,OffS (WV.S ⟨a,cap,a2,cap2,m1,n1,m2,n2,none,0,none,0,none,0,none,0⟩ E wd.heap.size) (wd.alloc (.cells #[.slice a c.caps.length cap,.slice a2 c.starts.length cap2,.int .i64 c.threads,.slice m1 (newE c).words.length n1,.slice m2 (newE c).lists.length n2,.int .i64 (newE c).tick,.slice none 0 0,.slice none 0 0,.slice none 0 0,.slice none 0 0] WT)) w2→OffS E wc w2:=fun w2 h2=>by
  refine (OffS.below (S:=E) (below_then hb hb2)).trans h2 fun j hj hm=>?_;simp only [WV.S,List.mem_append,List.mem_cons,List.not_mem_nil,or_false,Option.some.injEq,addrB,Option.map_none] at hm;rcases hm with hm | rfl | hm | hm | hm | hm
  ·exact hm
  ·omega
  all_goals cases hm
 have hnp:∀w2,OffS (WV.S ⟨a,cap,a2,cap2,m1,n1,m2,n2,none,0,none,0,none,0,none,0⟩ E wd.heap.size) (wd.alloc (.cells #[.slice a c.caps.length cap,.slice a2 c.starts.length cap2,.int .i64 c.threads,.slice m1 (newE c).words.length n1,.slice m2 (newE c).lists.length n2,.int .i64 (newE c).tick,.slice none 0 0,.slice none 0 0,.slice none 0 0,.slice none 0 0] WT)) w2→NewPart wc wd w2:=fun w2 h2=>by
  refine ⟨by have:=h2.1; simp at this; omega,fun j hj hj2=>(h2.2 j (by simp; omega) fun hm=>?_).trans (hb2.block j hj2)⟩;simp only [WV.S,List.mem_append,List.mem_cons,List.not_mem_nil,or_false,Option.some.injEq,addrB,Option.map_none] at hm;rcases hm with hm | rfl | hm | hm | hm | hm
  ·have:=(hE j hm).2; omega
  ·omega
  all_goals cases hm
 refine ⟨by omega,fun j hj=>⟨(hE j hj).1,by have:=(hE j hj).2; simp; omega⟩,Nat.lt_succ_self _,by simp,heap_alloc_new _ _,fun w2 h2=>hc w2 (hin w2 h2),hg,hm.sub hnp,newE_fits hg,OwnS.nil _ _ _ _,OwnS.nil _ _ _ _,OwnS.nil _ _ _ _,OwnS.nil _ _ _ _,fun z hz=>by simp at hz,below_then h0 (below_then hb hb2)⟩
theorem SlI.offG {w w2:World} {k:IntKind} {v:Value} {l:List Int} {g:Nat} (h:SlI w k v l) (ho:offB g v) (h2:OffS [some g] w w2):SlI w2 k v l:=by
 have hg:w.grownBy { w with heap:=w2.heap } (some g):=⟨rfl,rfl,rfl,h2.1,fun j hj hne=>h2.2 j hj (by simp only [List.mem_singleton,Option.some.injEq]; intro e; exact hne (by rw [e]))⟩;exact (h.grown hg ho).heapEq (w:={ w with heap:=w2.heap }) rfl
theorem CfgOk.good {caps starts:List Int} {t:Int} (h:CfgOk caps starts caps.length) (hl:caps.length≤3) (ht:1≤t∧t≤8):ConfM.good ⟨caps,starts,t⟩:=
 ⟨by show caps.length≤8; omega,h.2.1,fun x hx=>by have:=h.2.2.1 x hx; omega,h.2.2.2,ht⟩
theorem configG (g:Nat) (w:World) (h:CodesE w g) :
  Calls Try.prog 11 #[.pointer (some ⟨g,0,none⟩)] w fun e w'=>∃(vc vs:Value) (c:ConfM),e=.returned (.agg #[vc,vs,.int .i64 c.threads])∧SlI w' .i64 vc c.caps∧SlI w' .u64 vs c.starts∧offB g vc∧offB g vs∧c.good∧1≤c.caps.length∧c.caps.length≤3∧CodesE w' g∧w.grownBy w' (some g):=by
 obtain ⟨r,val,h⟩:=h;refine (config_any g r val w h).mono ?_;rintro e w' ⟨vc,vs,t,caps,starts,r',rfl,h1,h2,h3,h4,h5,h6,h7,h8,h9,h10,h11,h12⟩;exact ⟨vc,vs,⟨caps,starts,t⟩,rfl,h1,h2,h10,h11,h12.good h5 (by omega),h4,h5,⟨_,_,h8⟩,h9⟩
section
variable {WT:TypeId} {w0 wr w2:World} {E:List (Option Nat)} {B D:Nat} {x:WV} {y:WM}
theorem OwnS.keptB {w:World} {base:Nat} {e:TypeId} {s:Nat} {v u:Value} {rows:List (List Value)} {o:Nat} (h:OwnS w base e s v rows) (hB:B<base):OwnS (w.setCell ⟨B,o,none⟩ u) base e s v rows:=h.kept (grownBy_setCell w ⟨B,o,none⟩ u) (h.ne hB)
theorem WI.addL {a':Option Addr} {c':Nat} {z:MachM} (h:WI WT w0 wr E B D x y) (ho:OwnS w2 D 58 14 (.slice a' (y.l.length+1) c') (y.l.map (machL (x.vc y.c) (x.vs y.c) y.c.threads) ++ [machL (x.vc y.c) (x.vs y.c) y.c.threads z])) (hg:wr.grownBy w2 (x.vl y).ownBlock) (hbk:addrB a'=addrB x.lA∨addrB a'=some wr.heap.size) :
  WI WT w0 (w2.setCell ⟨B,6,none⟩ (.slice a' (y.l.length+1) c')) E B D { x with lA:=a',lc:=c' } { y with l:=y.l ++ [z] }∧∀w3,OffS (WV.S { x with lA:=a',lc:=c' } E B) (w2.setCell ⟨B,6,none⟩ (.slice a' (y.l.length+1) c')) w3→OffS (x.S E B) wr w3:=by
 have h3:=h.BD;have hge:∀j,(x.vl y).ownBlock=some j→D≤j:=fun j hj=>(h.ol.lt j hj).1;have hgB:w2.heap[B]?=wr.heap[B]?:=hg.block B h.lt (fun e=>by have:=hge B e.symm; omega);have hin:∀w3,OffS (WV.S { x with lA:=a',lc:=c' } E B) (w2.setCell ⟨B,6,none⟩ (.slice a' (y.l.length+1) c')) w3→OffS (x.S E B) wr w3:=fun w3 h4=>by
  have o1:OffS (x.S E B) wr w2:=OffS.grown hg (.inr (by rw [WV.vl,own_addr]; simp [WV.S]));have o2:OffS (x.S E B) w2 (w2.setCell ⟨B,6,none⟩ (.slice a' (y.l.length+1) c')):=OffS.grown (grownBy_setCell w2 ⟨B,6,none⟩ _) (.inr (by simp [WV.S]));refine (o1.trans1 o2).trans h4 fun j hj hm=>?_;simp only [WV.S,List.mem_append,List.mem_cons,List.not_mem_nil,or_false] at hm ⊢;rcases hm with e | e | e | e | e | e
  ·exact .inl e
  ·exact .inr (.inl e)
  all_goals first
   | (rcases hbk with hb | hb
      ·rw [hb] at e; simp [e]; done
      ·rw [hb] at e; simp at e; omega)
   | (simp [e]; done)
 refine ⟨⟨h.w0B,fun j hj=>⟨(h.eW j hj).1,Nat.lt_of_lt_of_le (h.eW j hj).2 (by have:=hg.size; simp; omega)⟩,h3,by have:=hg.size; have:=h.Dw; simp; omega,?_,fun w3 h4=>h.conf w3 (hin w3 h4),h.good,h.mem.sub hin,h.fits,?_,?_,?_,?_,fun z hz=>(h.past z hz).sub hin,(h.below.grown hg h.below.size (fun j hj=>by have:=hge j hj; have:=h.w0B; omega)).setCell (p:=⟨B,6,none⟩) (by have:=h.w0B; show w0.heap.size≤B; omega) _⟩,hin⟩
 ·have:=heap_setCell_same w2 B 6 _ _ (.slice a' (y.l.length+1) c') (hgB.trans h.row)
  simpa [WV.row] using this
 ·have ho':OwnS w2 D 58 14 (WV.vl { x with lA:=a',lc:=c' } { y with l:=y.l ++ [z] }) (y.l.map (machL (x.vc y.c) (x.vs y.c) y.c.threads) ++ [machL (x.vc y.c) (x.vs y.c) y.c.threads z]):=by
   have e:(WV.vl { x with lA:=a',lc:=c' } { y with l:=y.l ++ [z] })=.slice a' (y.l.length+1) c':=by simp [WV.vl]
   rw [e]; exact ho
  have h5:=ho'.keptB (o:=6) (u:=.slice a' (y.l.length+1) c') h3;simpa [List.map_append,WV.vc,WV.vs] using h5
 ·exact (h.ot.kept hg (h.ot.apart h.ol (by decide))).keptB h3
 ·exact (h.op.kept hg (h.op.apart h.ol (by decide))).keptB h3
 ·exact (h.of.kept hg (h.of.apart h.ol (by decide))).keptB h3
theorem WI.addT {a':Option Addr} {c':Nat} {z:ItemM} (h:WI WT w0 wr E B D x y) (ho:OwnS w2 D 104 8 (.slice a' (y.t.length+1) c') (y.t.map itemCells ++ [itemCells z])) (hg:wr.grownBy w2 (x.vt y).ownBlock) (hbk:addrB a'=addrB x.tA∨addrB a'=some wr.heap.size) :
  WI WT w0 (w2.setCell ⟨B,7,none⟩ (.slice a' (y.t.length+1) c')) E B D { x with tA:=a',tc:=c' } { y with t:=y.t ++ [z] }∧∀w3,OffS (WV.S { x with tA:=a',tc:=c' } E B) (w2.setCell ⟨B,7,none⟩ (.slice a' (y.t.length+1) c')) w3→OffS (x.S E B) wr w3:=by
 have h3:=h.BD;have hge:∀j,(x.vt y).ownBlock=some j→D≤j:=fun j hj=>(h.ot.lt j hj).1;have hgB:w2.heap[B]?=wr.heap[B]?:=hg.block B h.lt (fun e=>by have:=hge B e.symm; omega);have hin:∀w3,OffS (WV.S { x with tA:=a',tc:=c' } E B) (w2.setCell ⟨B,7,none⟩ (.slice a' (y.t.length+1) c')) w3→OffS (x.S E B) wr w3:=fun w3 h4=>by
  have o1:OffS (x.S E B) wr w2:=OffS.grown hg (.inr (by rw [WV.vt,own_addr]; simp [WV.S]));have o2:OffS (x.S E B) w2 (w2.setCell ⟨B,7,none⟩ (.slice a' (y.t.length+1) c')):=OffS.grown (grownBy_setCell w2 ⟨B,7,none⟩ _) (.inr (by simp [WV.S]));refine (o1.trans1 o2).trans h4 fun j hj hm=>?_;simp only [WV.S,List.mem_append,List.mem_cons,List.not_mem_nil,or_false] at hm ⊢;rcases hm with e | e | e | e | e | e
  ·exact .inl e
  ·exact .inr (.inl e)
  all_goals first
   | (rcases hbk with hb | hb
      ·rw [hb] at e; simp [e]; done
      ·rw [hb] at e; simp at e; omega)
   | (simp [e]; done)
 refine ⟨⟨h.w0B,fun j hj=>⟨(h.eW j hj).1,Nat.lt_of_lt_of_le (h.eW j hj).2 (by have:=hg.size; simp; omega)⟩,h3,by have:=hg.size; have:=h.Dw; simp; omega,?_,fun w3 h4=>h.conf w3 (hin w3 h4),h.good,h.mem.sub hin,h.fits,?_,?_,?_,?_,fun z hz=>(h.past z hz).sub hin,(h.below.grown hg h.below.size (fun j hj=>by have:=hge j hj; have:=h.w0B; omega)).setCell (p:=⟨B,7,none⟩) (by have:=h.w0B; show w0.heap.size≤B; omega) _⟩,hin⟩
 ·have:=heap_setCell_same w2 B 7 _ _ (.slice a' (y.t.length+1) c') (hgB.trans h.row)
  simpa [WV.row] using this
 ·exact (h.ol.kept hg (h.ol.apart h.ot (by decide))).keptB h3
 ·have ho':OwnS w2 D 104 8 (WV.vt { x with tA:=a',tc:=c' } { y with t:=y.t ++ [z] }) (y.t.map itemCells ++ [itemCells z]):=by
   have e:(WV.vt { x with tA:=a',tc:=c' } { y with t:=y.t ++ [z] })=.slice a' (y.t.length+1) c':=by simp [WV.vt]
   rw [e]; exact ho
  have h5:=ho'.keptB (o:=7) (u:=.slice a' (y.t.length+1) c') h3;simpa [List.map_append,WV.vc,WV.vs] using h5
 ·exact (h.op.kept hg (h.op.apart h.ot (by decide))).keptB h3
 ·exact (h.of.kept hg (h.of.apart h.ot (by decide))).keptB h3
theorem WI.addP {a':Option Addr} {c':Nat} {z:List Value × MemM} (h:WI WT w0 wr E B D x y) (ho:OwnS w2 D 34 3 (.slice a' (y.p.length+1) c') (y.p.map Prod.fst ++ [z.1])) (hg:wr.grownBy w2 (x.vp y).ownBlock) (hbk:addrB a'=addrB x.pA∨addrB a'=some wr.heap.size) (hz:StM (OffS (x.S E B) wr) (.agg z.1.toArray) z.2) :
  WI WT w0 (w2.setCell ⟨B,8,none⟩ (.slice a' (y.p.length+1) c')) E B D { x with pA:=a',pc:=c' } { y with p:=y.p ++ [z] }∧∀w3,OffS (WV.S { x with pA:=a',pc:=c' } E B) (w2.setCell ⟨B,8,none⟩ (.slice a' (y.p.length+1) c')) w3→OffS (x.S E B) wr w3:=by
 have h3:=h.BD;have hge:∀j,(x.vp y).ownBlock=some j→D≤j:=fun j hj=>(h.op.lt j hj).1;have hgB:w2.heap[B]?=wr.heap[B]?:=hg.block B h.lt (fun e=>by have:=hge B e.symm; omega);have hin:∀w3,OffS (WV.S { x with pA:=a',pc:=c' } E B) (w2.setCell ⟨B,8,none⟩ (.slice a' (y.p.length+1) c')) w3→OffS (x.S E B) wr w3:=fun w3 h4=>by
  have o1:OffS (x.S E B) wr w2:=OffS.grown hg (.inr (by rw [WV.vp,own_addr]; simp [WV.S]));have o2:OffS (x.S E B) w2 (w2.setCell ⟨B,8,none⟩ (.slice a' (y.p.length+1) c')):=OffS.grown (grownBy_setCell w2 ⟨B,8,none⟩ _) (.inr (by simp [WV.S]));refine (o1.trans1 o2).trans h4 fun j hj hm=>?_;simp only [WV.S,List.mem_append,List.mem_cons,List.not_mem_nil,or_false] at hm ⊢;rcases hm with e | e | e | e | e | e
  ·exact .inl e
  ·exact .inr (.inl e)
  all_goals first
   | (rcases hbk with hb | hb
      ·rw [hb] at e; simp [e]; done
      ·rw [hb] at e; simp at e; omega)
   | (simp [e]; done)
 refine ⟨⟨h.w0B,fun j hj=>⟨(h.eW j hj).1,Nat.lt_of_lt_of_le (h.eW j hj).2 (by have:=hg.size; simp; omega)⟩,h3,by have:=hg.size; have:=h.Dw; simp; omega,?_,fun w3 h4=>h.conf w3 (hin w3 h4),h.good,h.mem.sub hin,h.fits,?_,?_,?_,?_,fun q hq=>by
  rw [List.mem_append,List.mem_singleton] at hq;rcases hq with hq | rfl
  ·exact (h.past q hq).sub hin
  ·exact hz.sub hin,(h.below.grown hg h.below.size (fun j hj=>by have:=hge j hj; have:=h.w0B; omega)).setCell (p:=⟨B,8,none⟩) (by have:=h.w0B; show w0.heap.size≤B; omega) _⟩,hin⟩
 ·have:=heap_setCell_same w2 B 8 _ _ (.slice a' (y.p.length+1) c') (hgB.trans h.row)
  simpa [WV.row] using this
 ·exact (h.ol.kept hg (h.ol.apart h.op (by decide))).keptB h3
 ·exact (h.ot.kept hg (h.ot.apart h.op (by decide))).keptB h3
 ·have ho':OwnS w2 D 34 3 (WV.vp { x with pA:=a',pc:=c' } { y with p:=y.p ++ [z] }) (y.p.map Prod.fst ++ [z.1]):=by
   have e:(WV.vp { x with pA:=a',pc:=c' } { y with p:=y.p ++ [z] })=.slice a' (y.p.length+1) c':=by simp [WV.vp]
   rw [e]; exact ho
  have h5:=ho'.keptB (o:=8) (u:=.slice a' (y.p.length+1) c') h3;simpa [List.map_append,WV.vc,WV.vs] using h5
 ·exact (h.of.kept hg (h.of.apart h.op (by decide))).keptB h3
theorem WI.addF {a':Option Addr} {c':Nat} {z:List Value} (h:WI WT w0 wr E B D x y) (ho:OwnS w2 D 61 5 (.slice a' (y.f.length+1) c') (y.f ++ [z])) (hg:wr.grownBy w2 (x.vf y).ownBlock) (hbk:addrB a'=addrB x.fA∨addrB a'=some wr.heap.size) :
  WI WT w0 (w2.setCell ⟨B,9,none⟩ (.slice a' (y.f.length+1) c')) E B D { x with fA:=a',fc:=c' } { y with f:=y.f ++ [z] }∧∀w3,OffS (WV.S { x with fA:=a',fc:=c' } E B) (w2.setCell ⟨B,9,none⟩ (.slice a' (y.f.length+1) c')) w3→OffS (x.S E B) wr w3:=by
 have h3:=h.BD;have hge:∀j,(x.vf y).ownBlock=some j→D≤j:=fun j hj=>(h.of.lt j hj).1;have hgB:w2.heap[B]?=wr.heap[B]?:=hg.block B h.lt (fun e=>by have:=hge B e.symm; omega);have hin:∀w3,OffS (WV.S { x with fA:=a',fc:=c' } E B) (w2.setCell ⟨B,9,none⟩ (.slice a' (y.f.length+1) c')) w3→OffS (x.S E B) wr w3:=fun w3 h4=>by
  have o1:OffS (x.S E B) wr w2:=OffS.grown hg (.inr (by rw [WV.vf,own_addr]; simp [WV.S]));have o2:OffS (x.S E B) w2 (w2.setCell ⟨B,9,none⟩ (.slice a' (y.f.length+1) c')):=OffS.grown (grownBy_setCell w2 ⟨B,9,none⟩ _) (.inr (by simp [WV.S]));refine (o1.trans1 o2).trans h4 fun j hj hm=>?_;simp only [WV.S,List.mem_append,List.mem_cons,List.not_mem_nil,or_false] at hm ⊢;rcases hm with e | e | e | e | e | e
  ·exact .inl e
  ·exact .inr (.inl e)
  all_goals first
   | (rcases hbk with hb | hb
      ·rw [hb] at e; simp [e]; done
      ·rw [hb] at e; simp at e; omega)
   | (simp [e]; done)
 refine ⟨⟨h.w0B,fun j hj=>⟨(h.eW j hj).1,Nat.lt_of_lt_of_le (h.eW j hj).2 (by have:=hg.size; simp; omega)⟩,h3,by have:=hg.size; have:=h.Dw; simp; omega,?_,fun w3 h4=>h.conf w3 (hin w3 h4),h.good,h.mem.sub hin,h.fits,?_,?_,?_,?_,fun z hz=>(h.past z hz).sub hin,(h.below.grown hg h.below.size (fun j hj=>by have:=hge j hj; have:=h.w0B; omega)).setCell (p:=⟨B,9,none⟩) (by have:=h.w0B; show w0.heap.size≤B; omega) _⟩,hin⟩
 ·have:=heap_setCell_same w2 B 9 _ _ (.slice a' (y.f.length+1) c') (hgB.trans h.row)
  simpa [WV.row] using this
 ·exact (h.ol.kept hg (h.ol.apart h.of (by decide))).keptB h3
 ·exact (h.ot.kept hg (h.ot.apart h.of (by decide))).keptB h3
 ·exact (h.op.kept hg (h.op.apart h.of (by decide))).keptB h3
 ·have ho':OwnS w2 D 61 5 (WV.vf { x with fA:=a',fc:=c' } { y with f:=y.f ++ [z] }) (y.f ++ [z]):=by
   have e:(WV.vf { x with fA:=a',fc:=c' } { y with f:=y.f ++ [z] })=.slice a' (y.f.length+1) c':=by simp [WV.vf]
   rw [e]; exact ho
  exact ho'.keptB h3
theorem WI.setL {b n cap i:Nat} {z:MachM} (h:WI WT w0 wr E B D x y) (hv:x.vl y=.slice (some ⟨b,0,none⟩) n cap) (hi:i<y.l.length) (hz:(machL (x.vc y.c) (x.vs y.c) y.c.threads z).length=14) (hz1:∀u∈(machL (x.vc y.c) (x.vs y.c) y.c.threads z),u.oneCell'=true) :
  WI WT w0 (wr.setCells b (i * 14) (machL (x.vc y.c) (x.vs y.c) y.c.threads z)) E B D x { y with l:=y.l.set i z }∧∀w3,OffS (x.S E B) (wr.setCells b (i * 14) (machL (x.vc y.c) (x.vs y.c) y.c.threads z)) w3→OffS (x.S E B) wr w3:=by
 have h3:=h.BD;have hbo:(x.vl y).ownBlock=some b:=by rw [hv]; rfl
 have hb:=h.ol.lt b hbo;have hg:wr.grownBy (wr.setCells b (i * 14) (machL (x.vc y.c) (x.vs y.c) y.c.threads z)) (x.vl y).ownBlock:=by rw [hbo]; exact setCells_grown b _ _ wr
 have hin:∀w3,OffS (x.S E B) (wr.setCells b (i * 14) (machL (x.vc y.c) (x.vs y.c) y.c.threads z)) w3→OffS (x.S E B) wr w3:=fun w3 h4=>
  (OffS.grown hg (.inr (by rw [WV.vl,own_addr]; simp [WV.S]))).trans1 h4
 have ho:=h.ol;rw [hv] at ho;have hs:=ho.setRow (r:=machL (x.vc y.c) (x.vs y.c) y.c.threads z) i (by simpa using hi) hz hz1;refine ⟨⟨h.w0B,fun j hj=>⟨(h.eW j hj).1,Nat.lt_of_lt_of_le (h.eW j hj).2 hg.size⟩,h3,by rw [setCells_size]; exact h.Dw,?_,fun w3 h4=>h.conf w3 (hin w3 h4),h.good,h.mem.sub hin,h.fits,?_,?_,?_,?_,fun z hz=>(h.past z hz).sub hin,h.below.grown hg h.below.size (fun j hj=>by rw [hbo] at hj; cases hj; have:=h.w0B; omega)⟩,hin⟩
 ·rw [setCells_other _ _ _ _ _ (by omega),h.row]
  simp [WV.row]
 ·have e:WV.vl x { y with l:=y.l.set i z }=.slice (some ⟨b,0,none⟩) n cap:=by rw [← hv]; simp [WV.vl]
  rw [e];simpa [List.map_set,WV.vc,WV.vs] using hs
 ·exact h.ot.kept hg (h.ot.apart h.ol (by decide))
 ·exact h.op.kept hg (h.op.apart h.ol (by decide))
 ·exact h.of.kept hg (h.of.apart h.ol (by decide))
theorem WI.setF {b n cap i:Nat} {z:List Value} (h:WI WT w0 wr E B D x y) (hv:x.vf y=.slice (some ⟨b,0,none⟩) n cap) (hi:i<y.f.length) (hz:(z).length=5) (hz1:∀u∈(z),u.oneCell'=true) :
  WI WT w0 (wr.setCells b (i * 5) (z)) E B D x { y with f:=y.f.set i z }∧∀w3,OffS (x.S E B) (wr.setCells b (i * 5) (z)) w3→OffS (x.S E B) wr w3:=by
 have h3:=h.BD;have hbo:(x.vf y).ownBlock=some b:=by rw [hv]; rfl
 have hb:=h.of.lt b hbo;have hg:wr.grownBy (wr.setCells b (i * 5) (z)) (x.vf y).ownBlock:=by rw [hbo]; exact setCells_grown b _ _ wr
 have hin:∀w3,OffS (x.S E B) (wr.setCells b (i * 5) (z)) w3→OffS (x.S E B) wr w3:=fun w3 h4=>
  (OffS.grown hg (.inr (by rw [WV.vf,own_addr]; simp [WV.S]))).trans1 h4
 have ho:=h.of;rw [hv] at ho;have hs:=ho.setRow (r:=z) i (by simpa using hi) hz hz1;refine ⟨⟨h.w0B,fun j hj=>⟨(h.eW j hj).1,Nat.lt_of_lt_of_le (h.eW j hj).2 hg.size⟩,h3,by rw [setCells_size]; exact h.Dw,?_,fun w3 h4=>h.conf w3 (hin w3 h4),h.good,h.mem.sub hin,h.fits,?_,?_,?_,?_,fun z hz=>(h.past z hz).sub hin,h.below.grown hg h.below.size (fun j hj=>by rw [hbo] at hj; cases hj; have:=h.w0B; omega)⟩,hin⟩
 ·rw [setCells_other _ _ _ _ _ (by omega),h.row]
  simp [WV.row]
 ·exact h.ol.kept hg (h.ol.apart h.of (by decide))
 ·exact h.ot.kept hg (h.ot.apart h.of (by decide))
 ·exact h.op.kept hg (h.op.apart h.of (by decide))
 ·have e:WV.vf x { y with f:=y.f.set i z }=.slice (some ⟨b,0,none⟩) n cap:=by rw [← hv]; simp [WV.vf]
  rw [e];exact hs
theorem WI.setM {ma na:Option Addr} {mc nc:Nat} {m2:MemM} (h:WI WT w0 wr E B D x y) (hm:StM (OffS (x.S E B) wr) (.agg #[.slice ma m2.words.length mc,.slice na m2.lists.length nc,.int .i64 m2.tick]) m2) (hf:m2.fits) :
  WI WT w0 (((wr.setCell ⟨B,3,none⟩ (.slice ma m2.words.length mc)).setCell ⟨B,4,none⟩ (.slice na m2.lists.length nc)).setCell ⟨B,5,none⟩ (.int .i64 m2.tick)) E B D { x with mA:=ma,mc:=mc,nA:=na,nc:=nc } { y with m:=m2 }∧∀w3,OffS (WV.S { x with mA:=ma,mc:=mc,nA:=na,nc:=nc } E B) (((wr.setCell ⟨B,3,none⟩ (.slice ma m2.words.length mc)).setCell ⟨B,4,none⟩ (.slice na m2.lists.length nc)).setCell ⟨B,5,none⟩ (.int .i64 m2.tick)) w3→OffS (x.S E B) wr w3:=by
 have h3:=h.BD;have hg:wr.grownBy (((wr.setCell ⟨B,3,none⟩ (.slice ma m2.words.length mc)).setCell ⟨B,4,none⟩ (.slice na m2.lists.length nc)).setCell ⟨B,5,none⟩ (.int .i64 m2.tick)) (some B):=grownBy_trans (grownBy_trans (grownBy_setCell wr ⟨B,3,none⟩ _) (grownBy_setCell _ ⟨B,4,none⟩ _)) (grownBy_setCell _ ⟨B,5,none⟩ _);have hin:∀w3,OffS (WV.S { x with mA:=ma,mc:=mc,nA:=na,nc:=nc } E B) (((wr.setCell ⟨B,3,none⟩ (.slice ma m2.words.length mc)).setCell ⟨B,4,none⟩ (.slice na m2.lists.length nc)).setCell ⟨B,5,none⟩ (.int .i64 m2.tick)) w3→OffS (x.S E B) wr w3:=fun w3 h4=>
  (OffS.grown (S:=x.S E B) hg (.inr (by simp [WV.S]))).trans1 h4
 refine ⟨⟨h.w0B,fun j hj=>⟨(h.eW j hj).1,Nat.lt_of_lt_of_le (h.eW j hj).2 hg.size⟩,h3,by have:=h.Dw; simp; omega,?_,fun w3 h4=>h.conf w3 (hin w3 h4),h.good,hm.sub hin,hf,h.ol.kept hg (h.ol.ne h3),h.ot.kept hg (h.ot.ne h3),h.op.kept hg (h.op.ne h3),h.of.kept hg (h.of.ne h3),fun z hz=>(h.past z hz).sub hin,h.below.grown hg h.below.size (fun j hj=>by cases hj; have:=h.w0B; omega)⟩,hin⟩;have r1:=heap_setCell_same wr B 3 _ _ (.slice ma m2.words.length mc) h.row;have r2:=heap_setCell_same _ B 4 _ _ (.slice na m2.lists.length nc) r1;have r3:=heap_setCell_same _ B 5 _ _ (.int .i64 m2.tick) r2;simpa [WV.row] using r3
end
end Go.Proofs.Ytifhafjhmjkekaa
