import Derived.Deep.DeepCutAuto
import Derived.Deep.CutBlock
import Derived.Test.YtiekicailidhcaaB02
import Derived.Test.YtiekicailidhcaaB01
set_option linter.unusedVariables false
set_option linter.unusedSimpArgs false
namespace Go.Proofs.Ytiekicailidhcaa
open Go.ChangeShapes Go.WideShapes Go.ChangeAt Go.RowKit
set_option maxRecDepth 100000
def ChosQ (lc:Option CaseM) (w:World) (e:Ending) (w':World):Prop:=∃x b,e=.returned (.tuple #[caseW x,.bool b])∧((b=true∧lc=some x)∨(b=false∧lc=none))∧Below w.heap.size w w'
set_option maxRecDepth 100000 in
set_option maxHeartbeats 16000000 in
theorem mchosen_any (v:Value) (op:OpM) (r:ResM) (w:World) (h:OpV w v op):Calls Try.prog 105 #[v,resW r] w (ChosQ (chosenE op r) w):=by
 have TS:=Lib.hid fun w' (hb:Below w.heap.size w w')=>rsingle_any v op w' (h.below hb);obtain ⟨vc,vd,rfl,hc,hd⟩:=h;obtain ⟨lc,hlc⟩:∃l,chosenE op r=l:=⟨_,rfl⟩;rw [hlc];have HLC:=Lib.hid hlc;clear hlc;obtain ⟨kd,md,ch,vl,dl,cs,ds⟩:=op;obtain ⟨rk,rc,rv,rok,nm⟩:=r;unfold resW;dsimp only at *;obtain ⟨a3,cap3,rfl⟩:=hc.len;obtain ⟨a4,cap4,rfl,-⟩:=hd.len;have HSC:=Lib.hid fun w' (hb:Below w.heap.size w w')=>hc.below hb;have hlb:=hc.1;clear hc hd;obtain ⟨W,hW,HB,R0,R1,R2,hz⟩:=three_new w (.cells #[.int .i64 kd,.int .i64 md,.int .i64 ch,.int .u64 vl,.int .i64 dl,.slice a3 cs.length cap3,.slice a4 ds.length cap4] 44) (.cells #[.int .i64 rk,.int .i64 rc,.int .u64 rv,.bool rok,.int .i64 nm] 73) (.cells #[.bool false,.int .i64 0,.int .u64 0] 58);have HW:=Lib.hid hW;clear hW;go_enter Try.func105,Try.ntmps105;go_upto_region 1 with fail
 rw [HW.out];clear HW;obtain ⟨x0_0,x0_1,x0_2,x0_3,x0_4,x0_5,x0_6⟩:=rowc7 R0.out;obtain ⟨x1_0,x1_1,x1_2,x1_3,x1_4⟩:=rowc5 R1.out;by_cases h4:kd=4
 ·subst h4
  have HL:Hid (lc=if rc<0∨(cs.length:Int)≤rc then none else some (cs.getD rc.toNat noCase)):=by
   show _=_;rw [← HLC.out];unfold chosenE;rw [if_pos rfl]
  clear HLC TS;by_cases h0:rc<0
  ·have hl:lc=none:=by rw [HL.out,if_pos (.inl h0)]
   subst hl;go_wp2_with (refine wpList_store_row rfl 58 _ _ rfl (w.heap.size+2) _ rfl rfl 58 _ R2.out (by kernel_rfl) rfl (by simp [Value.oneCell']) ?_);refine bodyPost_ret (v:=.tuple #[.agg #[.bool false,.int .i64 0,.int .u64 0],.bool false]) (results_cell_tmp Try.results105 _ _ (w.heap.size+2) 58 _ (0,0) _ rfl (setRow_heap _ _ _ _ 58 (0,0) R2.out) Try.underlying58 rfl (by kernel_rfl) _ rfl) rfl ?_;unfold ChosQ;exact ⟨noCase,false,rfl,.inr ⟨rfl,rfl⟩,row_below HB.out (by omega) _⟩
  by_cases h1:(cs.length:Int)≤rc
  ·have hl:lc=none:=by rw [HL.out,if_pos (.inr h1)]
   subst hl;go_wp2_with (refine wpList_store_row rfl 58 _ _ rfl (w.heap.size+2) _ rfl rfl 58 _ R2.out (by kernel_rfl) rfl (by simp [Value.oneCell']) ?_);refine bodyPost_ret (v:=.tuple #[.agg #[.bool false,.int .i64 0,.int .u64 0],.bool false]) (results_cell_tmp Try.results105 _ _ (w.heap.size+2) 58 _ (0,0) _ rfl (setRow_heap _ _ _ _ 58 (0,0) R2.out) Try.underlying58 rfl (by kernel_rfl) _ rfl) rfl ?_;unfold ChosQ;exact ⟨noCase,false,rfl,.inr ⟨rfl,rfl⟩,row_below HB.out (by omega) _⟩
  have hl:lc=some (cs.getD rc.toNat noCase):=by rw [HL.out,if_neg (by omega)]
  obtain ⟨i,hi⟩:∃i:Nat,rc=(i:Int):=⟨rc.toNat,by omega⟩;have hil:i<cs.length:=by omega
  have hiI:(i:Int)<(cs.length:Int):=by omega
  have hnl:¬(cs.length:Int)≤(i:Int):=by omega
  rw [hi,Int.toNat_natCast] at hl;obtain ⟨-,-,a',cap',hve,-,hcell⟩:=HSC.out W HB.out;simp only [Value.slice.injEq,true_and] at hve;obtain ⟨rfl,rfl⟩:=hve;obtain ⟨b,off,rfl,hbl,hca⟩:=hcell i hil;obtain ⟨⟨s1,s2,s3⟩,hx⟩:∃x,cs.getD i noCase=x:=⟨_,rfl⟩;rw [hx] at hca hl;obtain ⟨c0,c1,c2⟩:=hca;dsimp only at c0 c1 c2;rw [hi] at x1_1;subst hl;clear hcell hx HL HSC h0 h1;rw [hi];clear hi;go_wp2_with (refine wpList_store_row rfl 58 _ _ rfl (w.heap.size+2) _ rfl rfl 58 _ R2.out (by kernel_rfl) rfl (by simp [Value.oneCell']) ?_);refine bodyPost_ret (v:=.tuple #[.agg #[.bool s1,.int .i64 s2,.int .u64 s3],.bool true]) (results_cell_tmp Try.results105 _ _ (w.heap.size+2) 58 _ (0,0) _ rfl (setRow_heap _ _ _ _ 58 (0,0) R2.out) Try.underlying58 rfl (by kernel_rfl) _ rfl) rfl ?_;unfold ChosQ;exact ⟨⟨s1,s2,s3⟩,true,rfl,.inl ⟨rfl,rfl⟩,row_below HB.out (by omega) _⟩
 have hq4:(kd == 4)=false:=by simpa using h4
 obtain ⟨sb,hsb⟩:∃b,sgB ⟨kd,md,ch,vl,dl,cs,ds⟩=b:=⟨_,rfl⟩;obtain ⟨⟨s1,s2,s3⟩,hsc⟩:∃c,sgC ⟨kd,md,ch,vl,dl,cs,ds⟩=c:=⟨_,rfl⟩;rw [hsb,hsc] at TS;have HL:Hid (lc=if sb=true∧rc=-1 then some ⟨s1,s2,s3⟩ else none):=by
  show _=_;rw [← HLC.out];unfold chosenE;rw [if_neg h4];show (if oneB _=true∧rc=-1 then some (oneC _) else none)=_;rw [← hsb,← hsc];rfl
 unfold caseW at TS;dsimp only at TS;clear hsb hsc HLC h4 HSC;go_wp2_with fail;refine (TS.out _ HB.out).mono ?_; rintro e w1 ⟨rfl,hb1⟩;have HB1:=Lib.hid (below_then HB.out hb1);have R1b:=keepR hb1 R1;have R2b:=keepR hb1 R2;clear x0_0 x0_1 x0_2 x0_3 x0_4 x0_5 x0_6 x1_0 x1_1 x1_2 x1_3 x1_4 hb1 hq4 TS;obtain ⟨Wx,hWx⟩:∃Wx,(w1.alloc (.cells #[.bool false,.int .i64 0,.int .u64 0] 58)).setRow w1.heap.size #[.bool s1,.int .i64 s2,.int .u64 s3]=Wx:=⟨_,rfl⟩;have Nx:Hid ((w1.alloc (.cells #[.bool false,.int .i64 0,.int .u64 0] 58)).heap[w1.heap.size]?=some (.cells #[.bool false,.int .i64 0,.int .u64 0] 58 (0,0))):=heap_alloc_new _ _;have HBx:Hid (Below w1.heap.size w1 Wx):=hWx▸row_below (below_new (Below.refl _ _) _) (Nat.le_refl _) _;have Rx:Hid (Wx.heap[w1.heap.size]?=some (.cells #[.bool s1,.int .i64 s2,.int .u64 s3] 58 (0,0))):=hWx▸setRow_heap _ _ _ _ _ (0,0) Nx.out;have HWx:=Lib.hid hWx;clear hWx;go_upto_region 6 with (refine wpList_store_row rfl 58 _ _ rfl (w1.heap.size) _ rfl rfl 58 _ Nx.out (by kernel_rfl) rfl (by simp [Value.oneCell']) ?_)
 rw [HWx.out];try simp only [Act.put]
 clear HWx Nx;obtain ⟨X,hX⟩:∃X,w1.heap.size=X:=⟨_,rfl⟩;rw [hX] at Rx;rw [hX];clear hX;have HBX:=Lib.hid (below_then HB1.out HBx.out);have R1c:=keepR HBx.out R1b;have R2c:=keepR HBx.out R2b;obtain ⟨bq,hbq⟩:∃b,(rc == -1)=b:=⟨_,rfl⟩;have HL2:Hid (lc=if sb=true∧bq=true then some ⟨s1,s2,s3⟩ else none):=by
  show _=_;rw [HL.out,← hbq];simp
 clear HL;have KSx:Hid (∀w',Below Wx.heap.size Wx w'→(fun w':World=>w'.cell? ⟨X,0,none⟩=some (.bool s1)∧w'.cell? ⟨X,1,none⟩=some (.int .i64 s2)∧w'.cell? ⟨X,2,none⟩=some (.int .u64 s3)∧w'.cell? ⟨w.heap.size+1,1,none⟩=some (.int .i64 rc)) w'):=fun w' hb=>by
  obtain ⟨z0,z1,z2⟩:=rowc3 ((hb.block X (ltR Rx)).trans Rx.out);obtain ⟨-,q1,-⟩:=rowc5 ((hb.block (w.heap.size+1) (ltR R1c)).trans R1c.out);exact ⟨z0,z1,z2,q1⟩
 have hfin:∀(u9:World),Below Wx.heap.size Wx u9→∀b,(b=(sb && bq))→ChosQ lc w (.returned (.tuple #[caseW ⟨s1,s2,s3⟩,.bool b])) (u9.setRow (w.heap.size+2) #[.bool s1,.int .i64 s2,.int .u64 s3]):=fun u9 hb b hbe=>by
  refine ⟨⟨s1,s2,s3⟩,b,rfl,?_,row_below (below_then HBX.out hb) (by omega) _⟩;rw [HL2.out,hbe];cases sb <;> cases bq <;> simp
 have HFIN:=Lib.hid hfin;clear hfin HL2;cases sb with
 | true=>
  refine untilK KSx 7 9 (by kernel_rfl) rfl ?_;obtain ⟨u0,hu0,HU0⟩:=drew_pack Wx;rw [hu0];clear hu0;have hSU0:=KSx.out _ HU0.out;apply tkV 0 hSU0 rfl (by kernel_rfl) (fun _ _ _ h=>h) rfl;intro w hSw;(go_simp<;>with_reducible rfl);simp only [J0,J1,J2,J3,J4];apply tkW 1 (fun _=>hSU0) rfl (by kernel_rfl) (fun _ _ _ h=>h) rfl;intro w;(go_simp<;>with_reducible rfl);simp only [J0,J1,J2,J3,J4];apply tkV 2 hSU0 rfl (by kernel_rfl) (fun _ _ _ h=>h) rfl;intro w hSw;(go_simp<;>with_reducible rfl);simp only [J0,J1,J2,J3,J4];refine wpAnyU_ready (rs:=[3,7]) (by kernel_rfl) rfl ?_;refine AllReadyU.consG la3 (fun K hK=>?_) ?_
  ·obtain ⟨d0,d1,d2,d3⟩:=KSx.out _ HU0.out
   go_simp;clear d0 d1 d2 d3;refine hK.out _ _ ?_ fun hSU1=>?_;exact hSU0;clear hK K hSU0;(try simp only [J0,J1,J2,J3,J4]);refine wpAnyU_ready (rs:=[4,7]) (by kernel_rfl) rfl ?_;refine AllReadyU.consG la4 (fun K hK=>?_) ?_
   ·obtain ⟨d0,d1,d2,d3⟩:=KSx.out _ HU0.out
    go_simp;clear d0 d1 d2 d3;refine hK.out _ _ ?_ fun hSU2=>?_;exact hSU1;clear hK K hSU1;(try simp only [J0,J1,J2,J3,J4]);refine wpAnyU_ready (rs:=[5,7]) (by kernel_rfl) rfl ?_;refine AllReadyU.consG la5 (fun K hK=>?_) ?_
    ·obtain ⟨d0,d1,d2,d3⟩:=KSx.out _ HU0.out
     go_simp;clear d0 d1 d2 d3;refine hK.out _ _ ?_ fun hSU3=>?_;exact hSU2;clear hK K hSU2;(try simp only [J0,J1,J2,J3,J4]);apply tkW 6 (fun _=>hSU3) rfl (by kernel_rfl) (fun _ _ _ h=>h) rfl;intro w;(go_simp<;>with_reducible rfl);simp only [J0,J1,J2,J3,J4];refine freeU 7 rfl (by kernel_rfl) rfl (by kernel_rfl) fun K hK=>?_;have ZR:=keepR HU0.out R2c;refine step_store_row rfl 58 _ _ rfl (w.heap.size+2) _ rfl rfl 58 _ ZR.out (by kernel_rfl) rfl (by simp [Value.oneCell']) ?_;refine hK.out _ _ ?_;clear hK K hSU3;(try simp only [J0,J1,J2,J3,J4]);apply tkW 8 (past_k (by kernel_rfl)) rfl (by kernel_rfl) (fun _ _ _ h=>h) rfl;intro w;(go_simp<;>with_reducible rfl);simp only [J0,J1,J2,J3,J4];refine wpAnyU_done (by kernel_rfl) ?_ _;go_wp2_with fail;refine bodyPost_ret (v:=.tuple #[.agg #[.bool s1,.int .i64 s2,.int .u64 s3],.bool bq]) (results_cell_tmp Try.results105 _ _ (w.heap.size+2) 58 _ (0,0) _ rfl (setRow_heap _ _ _ _ 58 (0,0) ZR.out) Try.underlying58 rfl (by kernel_rfl) _ (by first | rfl | simp [hbq])) rfl ?_;exact HFIN.out _ HU0.out _ (by simp)
    refine AllReadyU.free la7 rfl (by kernel_rfl) (fun K hK=>?_) ?_
    ·have ZR:=keepR HU0.out R2c
     refine step_store_row rfl 58 _ _ rfl (w.heap.size+2) _ rfl rfl 58 _ ZR.out (by kernel_rfl) rfl (by simp [Value.oneCell']) ?_;refine hK.out _ _ ?_;clear hK K hSU2;(try simp only [J0,J1,J2,J3,J4]);refine wpAnyU_ready (rs:=[5]) (by kernel_rfl) rfl ?_;refine AllReadyU.freeG la5 (by kernel_rfl) (fun K hK=>?_) ?_
     ·obtain ⟨-,d3,-⟩:=rowc5 ((setRow_other u0 (w.heap.size+2) (w.heap.size+1) #[.bool s1,.int .i64 s2,.int .u64 s3] (by omega)).trans ((HU0.out.block (w.heap.size+1) (ltR R1c)).trans R1c.out))
      go_simp;clear d3;refine hK.out _ _ ?_;clear hK K;(try simp only [J0,J1,J2,J3,J4]);apply tkW 6 (past_k (by kernel_rfl)) rfl (by kernel_rfl) (fun _ _ _ h=>h) rfl;intro w;(go_simp<;>with_reducible rfl);simp only [J0,J1,J2,J3,J4];apply tkW 8 (past_k (by kernel_rfl)) rfl (by kernel_rfl) (fun _ _ _ h=>h) rfl;intro w;(go_simp<;>with_reducible rfl);simp only [J0,J1,J2,J3,J4];refine wpAnyU_done (by kernel_rfl) ?_ _;go_wp2_with fail;refine bodyPost_ret (v:=.tuple #[.agg #[.bool s1,.int .i64 s2,.int .u64 s3],.bool bq]) (results_cell_tmp Try.results105 _ _ (w.heap.size+2) 58 _ (0,0) _ rfl (setRow_heap _ _ _ _ 58 (0,0) ZR.out) Try.underlying58 rfl (by kernel_rfl) _ (by first | rfl | simp [hbq])) rfl ?_;exact HFIN.out _ HU0.out _ (by simp)
     exact AllReadyU.nil
    exact AllReadyU.nil
   refine AllReadyU.free la7 rfl (by kernel_rfl) (fun K hK=>?_) ?_
   ·have ZR:=keepR HU0.out R2c
    refine step_store_row rfl 58 _ _ rfl (w.heap.size+2) _ rfl rfl 58 _ ZR.out (by kernel_rfl) rfl (by simp [Value.oneCell']) ?_;refine hK.out _ _ ?_;clear hK K hSU1;(try simp only [J0,J1,J2,J3,J4]);refine wpAnyU_ready (rs:=[4]) (by kernel_rfl) rfl ?_;refine AllReadyU.freeG la4 (by kernel_rfl) (fun K hK=>?_) ?_
    ·obtain ⟨-,d3,-⟩:=rowc5 ((setRow_other u0 (w.heap.size+2) (w.heap.size+1) #[.bool s1,.int .i64 s2,.int .u64 s3] (by omega)).trans ((HU0.out.block (w.heap.size+1) (ltR R1c)).trans R1c.out))
     go_simp;clear d3;refine hK.out _ _ ?_;clear hK K;(try simp only [J0,J1,J2,J3,J4]);refine wpAnyU_ready (rs:=[5]) (by kernel_rfl) rfl ?_;refine AllReadyU.freeG la5 (by kernel_rfl) (fun K hK=>?_) ?_
     ·obtain ⟨-,d3,-⟩:=rowc5 ((setRow_other u0 (w.heap.size+2) (w.heap.size+1) #[.bool s1,.int .i64 s2,.int .u64 s3] (by omega)).trans ((HU0.out.block (w.heap.size+1) (ltR R1c)).trans R1c.out))
      go_simp;clear d3;refine hK.out _ _ ?_;clear hK K;(try simp only [J0,J1,J2,J3,J4]);apply tkW 6 (past_k (by kernel_rfl)) rfl (by kernel_rfl) (fun _ _ _ h=>h) rfl;intro w;(go_simp<;>with_reducible rfl);simp only [J0,J1,J2,J3,J4];apply tkW 8 (past_k (by kernel_rfl)) rfl (by kernel_rfl) (fun _ _ _ h=>h) rfl;intro w;(go_simp<;>with_reducible rfl);simp only [J0,J1,J2,J3,J4];refine wpAnyU_done (by kernel_rfl) ?_ _;go_wp2_with fail;refine bodyPost_ret (v:=.tuple #[.agg #[.bool s1,.int .i64 s2,.int .u64 s3],.bool bq]) (results_cell_tmp Try.results105 _ _ (w.heap.size+2) 58 _ (0,0) _ rfl (setRow_heap _ _ _ _ 58 (0,0) ZR.out) Try.underlying58 rfl (by kernel_rfl) _ (by first | rfl | simp [hbq])) rfl ?_;exact HFIN.out _ HU0.out _ (by simp)
     exact AllReadyU.nil
    exact AllReadyU.nil
   exact AllReadyU.nil
  refine AllReadyU.free la7 rfl (by kernel_rfl) (fun K hK=>?_) ?_
  ·have ZR:=keepR HU0.out R2c
   refine step_store_row rfl 58 _ _ rfl (w.heap.size+2) _ rfl rfl 58 _ ZR.out (by kernel_rfl) rfl (by simp [Value.oneCell']) ?_;refine hK.out _ _ ?_;clear hK K hSU0;(try simp only [J0,J1,J2,J3,J4]);refine wpAnyU_ready (rs:=[3]) (by kernel_rfl) rfl ?_;refine AllReadyU.freeG la3 (by kernel_rfl) (fun K hK=>?_) ?_
   ·obtain ⟨-,d3,-⟩:=rowc5 ((setRow_other u0 (w.heap.size+2) (w.heap.size+1) #[.bool s1,.int .i64 s2,.int .u64 s3] (by omega)).trans ((HU0.out.block (w.heap.size+1) (ltR R1c)).trans R1c.out))
    go_simp;clear d3;refine hK.out _ _ ?_;clear hK K;(try simp only [J0,J1,J2,J3,J4]);refine wpAnyU_ready (rs:=[4]) (by kernel_rfl) rfl ?_;refine AllReadyU.freeG la4 (by kernel_rfl) (fun K hK=>?_) ?_
    ·obtain ⟨-,d3,-⟩:=rowc5 ((setRow_other u0 (w.heap.size+2) (w.heap.size+1) #[.bool s1,.int .i64 s2,.int .u64 s3] (by omega)).trans ((HU0.out.block (w.heap.size+1) (ltR R1c)).trans R1c.out))
     go_simp;clear d3;refine hK.out _ _ ?_;clear hK K;(try simp only [J0,J1,J2,J3,J4]);refine wpAnyU_ready (rs:=[5]) (by kernel_rfl) rfl ?_;refine AllReadyU.freeG la5 (by kernel_rfl) (fun K hK=>?_) ?_
     ·obtain ⟨-,d3,-⟩:=rowc5 ((setRow_other u0 (w.heap.size+2) (w.heap.size+1) #[.bool s1,.int .i64 s2,.int .u64 s3] (by omega)).trans ((HU0.out.block (w.heap.size+1) (ltR R1c)).trans R1c.out))
      go_simp;clear d3;refine hK.out _ _ ?_;clear hK K;(try simp only [J0,J1,J2,J3,J4]);apply tkW 6 (past_k (by kernel_rfl)) rfl (by kernel_rfl) (fun _ _ _ h=>h) rfl;intro w;(go_simp<;>with_reducible rfl);simp only [J0,J1,J2,J3,J4];apply tkW 8 (past_k (by kernel_rfl)) rfl (by kernel_rfl) (fun _ _ _ h=>h) rfl;intro w;(go_simp<;>with_reducible rfl);simp only [J0,J1,J2,J3,J4];refine wpAnyU_done (by kernel_rfl) ?_ _;go_wp2_with fail;refine bodyPost_ret (v:=.tuple #[.agg #[.bool s1,.int .i64 s2,.int .u64 s3],.bool bq]) (results_cell_tmp Try.results105 _ _ (w.heap.size+2) 58 _ (0,0) _ rfl (setRow_heap _ _ _ _ 58 (0,0) ZR.out) Try.underlying58 rfl (by kernel_rfl) _ (by first | rfl | simp [hbq])) rfl ?_;exact HFIN.out _ HU0.out _ (by simp)
     exact AllReadyU.nil
    exact AllReadyU.nil
   exact AllReadyU.nil
  exact AllReadyU.nil
 | false=>
  refine wp_region_until (fun w':World=>w'.cell? ⟨X,0,none⟩=some (.bool s1)∧w'.cell? ⟨X,1,none⟩=some (.int .i64 s2)∧w'.cell? ⟨X,2,none⟩=some (.int .u64 s3)∧w'.cell? ⟨w.heap.size+1,1,none⟩=some (.int .i64 rc)) 7 9 (by kernel_rfl) rfl ?_;obtain ⟨u0,hu0,HU0⟩:=drew_pack Wx;rw [hu0];clear hu0;have hSU0:=KSx.out _ HU0.out;apply tkV 0 hSU0 rfl (by kernel_rfl) (fun _ _ _ h=>h) rfl;intro w hSw;(go_simp<;>with_reducible rfl);simp only [J0,J1,J2,J3,J4];apply tkW 1 (fun _=>hSU0) rfl (by kernel_rfl) (fun _ _ _ h=>h) rfl;intro w;(go_simp<;>with_reducible rfl);simp only [J0,J1,J2,J3,J4];apply tkV 2 hSU0 rfl (by kernel_rfl) (fun _ _ _ h=>h) rfl;intro w hSw;(go_simp<;>with_reducible rfl);simp only [J0,J1,J2,J3,J4];refine wpAnyU_ready (rs:=[3,7]) (by kernel_rfl) rfl ?_;refine AllReadyU.consG la3 (fun K hK=>?_) ?_
  ·obtain ⟨d0,d1,d2,d3⟩:=KSx.out _ HU0.out
   go_simp;clear d0 d1 d2 d3;refine hK.out _ _ ?_ fun hSU1=>?_;exact hSU0;clear hK K hSU0;(try simp only [J0,J1,J2,J3,J4]);refine wpAnyU_ready (rs:=[4,7]) (by kernel_rfl) rfl ?_;refine AllReadyU.consG la4 (fun K hK=>?_) ?_
   ·obtain ⟨d0,d1,d2,d3⟩:=KSx.out _ HU0.out
    go_simp;clear d0 d1 d2 d3;refine hK.out _ _ ?_ fun hSU2=>?_;exact hSU1;clear hK K hSU1;(try simp only [J0,J1,J2,J3,J4]);refine wpAnyU_ready (rs:=[5,7]) (by kernel_rfl) rfl ?_;refine AllReadyU.consG la5 (fun K hK=>?_) ?_
    ·obtain ⟨d0,d1,d2,d3⟩:=KSx.out _ HU0.out
     go_simp;clear d0 d1 d2 d3;refine hK.out _ _ ?_ fun hSU3=>?_;exact hSU2;clear hK K hSU2;(try simp only [J0,J1,J2,J3,J4]);apply tkW 6 (fun _=>hSU3) rfl (by kernel_rfl) (fun _ _ _ h=>h) rfl;intro w;(go_simp<;>with_reducible rfl);simp only [J0,J1,J2,J3,J4];refine freeU 7 rfl (by kernel_rfl) rfl (by kernel_rfl) fun K hK=>?_;have ZR:=keepR HU0.out R2c;refine step_store_row rfl 58 _ _ rfl (w.heap.size+2) _ rfl rfl 58 _ ZR.out (by kernel_rfl) rfl (by simp [Value.oneCell']) ?_;refine hK.out _ _ ?_;clear hK K hSU3;(try simp only [J0,J1,J2,J3,J4]);apply tkW 8 (past_k (by kernel_rfl)) rfl (by kernel_rfl) (fun _ _ _ h=>h) rfl;intro w;(go_simp<;>with_reducible rfl);simp only [J0,J1,J2,J3,J4];refine wpAnyU_done (by kernel_rfl) ?_ _;go_wp2_with fail;refine bodyPost_ret (v:=.tuple #[.agg #[.bool s1,.int .i64 s2,.int .u64 s3],.bool false]) (results_cell_tmp Try.results105 _ _ (w.heap.size+2) 58 _ (0,0) _ rfl (setRow_heap _ _ _ _ 58 (0,0) ZR.out) Try.underlying58 rfl (by kernel_rfl) _ (by first | rfl | simp [hbq])) rfl ?_;exact HFIN.out _ HU0.out _ (by simp)
    refine AllReadyU.free la7 rfl (by kernel_rfl) (fun K hK=>?_) ?_
    ·have ZR:=keepR HU0.out R2c
     refine step_store_row rfl 58 _ _ rfl (w.heap.size+2) _ rfl rfl 58 _ ZR.out (by kernel_rfl) rfl (by simp [Value.oneCell']) ?_;refine hK.out _ _ ?_;clear hK K hSU2;(try simp only [J0,J1,J2,J3,J4]);refine wpAnyU_ready (rs:=[5]) (by kernel_rfl) rfl ?_;refine AllReadyU.freeG la5 (by kernel_rfl) (fun K hK=>?_) ?_
     ·obtain ⟨-,d3,-⟩:=rowc5 ((setRow_other u0 (w.heap.size+2) (w.heap.size+1) #[.bool s1,.int .i64 s2,.int .u64 s3] (by omega)).trans ((HU0.out.block (w.heap.size+1) (ltR R1c)).trans R1c.out))
      go_simp;clear d3;refine hK.out _ _ ?_;clear hK K;(try simp only [J0,J1,J2,J3,J4]);apply tkW 6 (past_k (by kernel_rfl)) rfl (by kernel_rfl) (fun _ _ _ h=>h) rfl;intro w;(go_simp<;>with_reducible rfl);simp only [J0,J1,J2,J3,J4];apply tkW 8 (past_k (by kernel_rfl)) rfl (by kernel_rfl) (fun _ _ _ h=>h) rfl;intro w;(go_simp<;>with_reducible rfl);simp only [J0,J1,J2,J3,J4];refine wpAnyU_done (by kernel_rfl) ?_ _;go_wp2_with fail;refine bodyPost_ret (v:=.tuple #[.agg #[.bool s1,.int .i64 s2,.int .u64 s3],.bool false]) (results_cell_tmp Try.results105 _ _ (w.heap.size+2) 58 _ (0,0) _ rfl (setRow_heap _ _ _ _ 58 (0,0) ZR.out) Try.underlying58 rfl (by kernel_rfl) _ (by first | rfl | simp [hbq])) rfl ?_;exact HFIN.out _ HU0.out _ (by simp)
     exact AllReadyU.nil
    exact AllReadyU.nil
   refine AllReadyU.free la7 rfl (by kernel_rfl) (fun K hK=>?_) ?_
   ·have ZR:=keepR HU0.out R2c
    refine step_store_row rfl 58 _ _ rfl (w.heap.size+2) _ rfl rfl 58 _ ZR.out (by kernel_rfl) rfl (by simp [Value.oneCell']) ?_;refine hK.out _ _ ?_;clear hK K hSU1;(try simp only [J0,J1,J2,J3,J4]);refine wpAnyU_ready (rs:=[4]) (by kernel_rfl) rfl ?_;refine AllReadyU.freeG la4 (by kernel_rfl) (fun K hK=>?_) ?_
    ·obtain ⟨-,d3,-⟩:=rowc5 ((setRow_other u0 (w.heap.size+2) (w.heap.size+1) #[.bool s1,.int .i64 s2,.int .u64 s3] (by omega)).trans ((HU0.out.block (w.heap.size+1) (ltR R1c)).trans R1c.out))
     go_simp;clear d3;refine hK.out _ _ ?_;clear hK K;(try simp only [J0,J1,J2,J3,J4]);refine wpAnyU_ready (rs:=[5]) (by kernel_rfl) rfl ?_;refine AllReadyU.freeG la5 (by kernel_rfl) (fun K hK=>?_) ?_
     ·obtain ⟨-,d3,-⟩:=rowc5 ((setRow_other u0 (w.heap.size+2) (w.heap.size+1) #[.bool s1,.int .i64 s2,.int .u64 s3] (by omega)).trans ((HU0.out.block (w.heap.size+1) (ltR R1c)).trans R1c.out))
      go_simp;clear d3;refine hK.out _ _ ?_;clear hK K;(try simp only [J0,J1,J2,J3,J4]);apply tkW 6 (past_k (by kernel_rfl)) rfl (by kernel_rfl) (fun _ _ _ h=>h) rfl;intro w;(go_simp<;>with_reducible rfl);simp only [J0,J1,J2,J3,J4];apply tkW 8 (past_k (by kernel_rfl)) rfl (by kernel_rfl) (fun _ _ _ h=>h) rfl;intro w;(go_simp<;>with_reducible rfl);simp only [J0,J1,J2,J3,J4];refine wpAnyU_done (by kernel_rfl) ?_ _;go_wp2_with fail;refine bodyPost_ret (v:=.tuple #[.agg #[.bool s1,.int .i64 s2,.int .u64 s3],.bool false]) (results_cell_tmp Try.results105 _ _ (w.heap.size+2) 58 _ (0,0) _ rfl (setRow_heap _ _ _ _ 58 (0,0) ZR.out) Try.underlying58 rfl (by kernel_rfl) _ (by first | rfl | simp [hbq])) rfl ?_;exact HFIN.out _ HU0.out _ (by simp)
     exact AllReadyU.nil
    exact AllReadyU.nil
   exact AllReadyU.nil
  refine AllReadyU.free la7 rfl (by kernel_rfl) (fun K hK=>?_) ?_
  ·have ZR:=keepR HU0.out R2c
   refine step_store_row rfl 58 _ _ rfl (w.heap.size+2) _ rfl rfl 58 _ ZR.out (by kernel_rfl) rfl (by simp [Value.oneCell']) ?_;refine hK.out _ _ ?_;clear hK K hSU0;(try simp only [J0,J1,J2,J3,J4]);refine wpAnyU_ready (rs:=[3]) (by kernel_rfl) rfl ?_;refine AllReadyU.freeG la3 (by kernel_rfl) (fun K hK=>?_) ?_
   ·obtain ⟨-,d3,-⟩:=rowc5 ((setRow_other u0 (w.heap.size+2) (w.heap.size+1) #[.bool s1,.int .i64 s2,.int .u64 s3] (by omega)).trans ((HU0.out.block (w.heap.size+1) (ltR R1c)).trans R1c.out))
    go_simp;clear d3;refine hK.out _ _ ?_;clear hK K;(try simp only [J0,J1,J2,J3,J4]);refine wpAnyU_ready (rs:=[4]) (by kernel_rfl) rfl ?_;refine AllReadyU.freeG la4 (by kernel_rfl) (fun K hK=>?_) ?_
    ·obtain ⟨-,d3,-⟩:=rowc5 ((setRow_other u0 (w.heap.size+2) (w.heap.size+1) #[.bool s1,.int .i64 s2,.int .u64 s3] (by omega)).trans ((HU0.out.block (w.heap.size+1) (ltR R1c)).trans R1c.out))
     go_simp;clear d3;refine hK.out _ _ ?_;clear hK K;(try simp only [J0,J1,J2,J3,J4]);refine wpAnyU_ready (rs:=[5]) (by kernel_rfl) rfl ?_;refine AllReadyU.freeG la5 (by kernel_rfl) (fun K hK=>?_) ?_
     ·obtain ⟨-,d3,-⟩:=rowc5 ((setRow_other u0 (w.heap.size+2) (w.heap.size+1) #[.bool s1,.int .i64 s2,.int .u64 s3] (by omega)).trans ((HU0.out.block (w.heap.size+1) (ltR R1c)).trans R1c.out))
      go_simp;clear d3;refine hK.out _ _ ?_;clear hK K;(try simp only [J0,J1,J2,J3,J4]);apply tkW 6 (past_k (by kernel_rfl)) rfl (by kernel_rfl) (fun _ _ _ h=>h) rfl;intro w;(go_simp<;>with_reducible rfl);simp only [J0,J1,J2,J3,J4];apply tkW 8 (past_k (by kernel_rfl)) rfl (by kernel_rfl) (fun _ _ _ h=>h) rfl;intro w;(go_simp<;>with_reducible rfl);simp only [J0,J1,J2,J3,J4];refine wpAnyU_done (by kernel_rfl) ?_ _;go_wp2_with fail;refine bodyPost_ret (v:=.tuple #[.agg #[.bool s1,.int .i64 s2,.int .u64 s3],.bool false]) (results_cell_tmp Try.results105 _ _ (w.heap.size+2) 58 _ (0,0) _ rfl (setRow_heap _ _ _ _ 58 (0,0) ZR.out) Try.underlying58 rfl (by kernel_rfl) _ (by first | rfl | simp [hbq])) rfl ?_;exact HFIN.out _ HU0.out _ (by simp)
     exact AllReadyU.nil
    exact AllReadyU.nil
   exact AllReadyU.nil
  exact AllReadyU.nil
def fndE (l:List ChanM) (n:Int):ChanM:=if exB l n=true then chE l n else noChan
def FindQ (l:List ChanM) (n:Int) (w:World) (e:Ending) (w':World):Prop:=∃u,e=.returned (.tuple #[.agg #[.int .i64 (fndE l n).cap,u,.bool (fndE l n).closed],.bool (exB l n)])∧SlI w' .u64 u (fndE l n).buf∧Below w.heap.size w w'
def aloneC (ex:Bool) (c:ChanM) (sd:Bool):Option ResM:=
 if ex=false then none
 else if sd=true then (if c.closed=true then some ⟨5,-1,0,false,0⟩ else if (c.buf.length:Int)<c.cap then some ⟨1,-1,0,false,0⟩ else none)
 else if 0<c.buf.length then some ⟨2,-1,c.buf.getD 0 0,true,0⟩ else if c.closed=true then some ⟨2,-1,0,false,0⟩ else none
def aloneE (l:List ChanM) (x:CaseM):Option ResM:=aloneC (exB l x.chan) (fndE l x.chan) x.send
def ResQ (o:Option ResM) (w:World) (e:Ending) (w':World):Prop:=∃r b,e=.returned (.tuple #[resW r,.bool b])∧((b=true∧o=some r)∨(b=false∧o=none))∧Below w.heap.size w w'
theorem aloneE_ready (l:List ChanM) (x:CaseM):(aloneE l x).isSome=readyB l x:=by
 unfold aloneE aloneC readyB fndE;obtain ⟨sd,ch,vl⟩:=x;dsimp only;cases exB l ch with
 | false=>simp
 | true=>
  simp only [Bool.true_eq_false,if_false,if_true,Bool.true_and];obtain ⟨⟨cc,bf,cl⟩,hc⟩:∃c,chE l ch=c:=⟨_,rfl⟩;rw [hc];dsimp only;cases sd <;> cases cl <;> simp
  all_goals (split <;> simp_all)
def rdvB (l:List ChanM) (x y:CaseM):Bool:=exB l x.chan && (x.chan == y.chan && (x.send != y.send && (decide ((fndE l x.chan).cap≤0) && !(fndE l x.chan).closed)))
set_option maxRecDepth 100000 in
set_option maxHeartbeats 16000000 in
theorem qfind_any (v:Value) (l:List ChanM) (n:Int) (w:World) (hv:SlH w v l):Calls Try.prog 102 #[v,.int .i64 n] w (FindQ l n w):=by
 have hbd:=hv.bound;have HV:=Lib.hid hv;obtain ⟨a,cap,hve,-⟩:=hv.len;subst hve;clear hv;obtain ⟨c,hc⟩:∃c,fndE l n=c:=⟨_,rfl⟩;obtain ⟨ex,hex⟩:∃b,exB l n=b:=⟨_,rfl⟩;unfold FindQ;rw [hc,hex];obtain ⟨cc,bf,cl⟩:=c;dsimp only;have HC:=Lib.hid hc;have HEX:=Lib.hid hex;clear hc hex;obtain ⟨W,hW,HB,R0,hz⟩:=one_new w (.cells #[.int .i64 0,.slice none 0 0,.bool false] 63);have HW:=Lib.hid hW;clear hW;go_enter Try.func102,Try.ntmps102;go_upto_region 1 with fail
 rw [HW.out];clear HW;cases ex with
 | false=>
  have hn:(⟨cc,bf,cl⟩:ChanM)=noChan:=by rw [← HC.out]; unfold fndE; rw [HEX.out]; rfl
  simp only [noChan,ChanM.mk.injEq] at hn;obtain ⟨rfl,rfl,rfl⟩:=hn;have hx:=HEX.out;unfold exB at hx;clear HC HEX;have HF:∀w',Below w.heap.size w w'→∃u,Ending.returned (.tuple #[.agg #[.int .i64 0,.slice none 0 0,.bool false],.bool false])=.returned (.tuple #[.agg #[.int .i64 0,u,.bool false],.bool false])∧SlI w' .u64 u []∧Below w.heap.size w w':=fun w' hb=>⟨_,rfl,SlI.nil _ _,hb⟩;have HF:=Lib.hid HF;by_cases h0:n<0
  ·clear hx
   go_wp2_with (refine wpList_store_row rfl 63 _ _ rfl (w.heap.size) _ rfl rfl 63 _ R0.out (by kernel_rfl) rfl (by simp [Value.oneCell']) ?_);refine bodyPost_ret (v:=.tuple #[.agg #[.int .i64 0,.slice none 0 0,.bool false],.bool false]) (results_cell_tmp Try.results102 _ _ (w.heap.size) 63 _ (0,0) _ rfl (setRow_heap _ _ _ _ 63 (0,0) R0.out) Try.underlying63 rfl (by kernel_rfl) _ rfl) rfl ?_;exact HF.out _ (row_below HB.out (by omega) _)
  ·have h1:(l.length:Int)≤n:=by
    simp only [Bool.and_eq_false_iff,decide_eq_false_iff_not] at hx;omega
   clear hx;go_wp2_with (refine wpList_store_row rfl 63 _ _ rfl (w.heap.size) _ rfl rfl 63 _ R0.out (by kernel_rfl) rfl (by simp [Value.oneCell']) ?_);refine bodyPost_ret (v:=.tuple #[.agg #[.int .i64 0,.slice none 0 0,.bool false],.bool false]) (results_cell_tmp Try.results102 _ _ (w.heap.size) 63 _ (0,0) _ rfl (setRow_heap _ _ _ _ 63 (0,0) R0.out) Try.underlying63 rfl (by kernel_rfl) _ rfl) rfl ?_;exact HF.out _ (row_below HB.out (by omega) _)
 | true=>
  have hx:=HEX.out;unfold exB at hx;simp only [Bool.and_eq_true,decide_eq_true_eq] at hx;obtain ⟨i,hi⟩:∃i:Nat,n=(i:Int):=⟨n.toNat,by omega⟩;subst hi;have hil:i<l.length:=by omega
  have hiI:(i:Int)<(l.length:Int):=by omega
  have hcc:l.getD i noChan=⟨cc,bf,cl⟩:=by
   rw [← HC.out];unfold fndE;rw [HEX.out,if_pos rfl];rfl
  obtain ⟨b,off,cap',u,hve,hb,c0,c1,c2,hu⟩:=HV.out.at i hil;simp only [Value.slice.injEq] at hve;obtain ⟨rfl,-,rfl⟩:=hve;rw [hcc] at c0 c2 hu;dsimp only at c0 c2 hu;obtain ⟨ua,uc,rfl,-⟩:=hu.len;have HU:=Lib.hid hu;have c0:=(HB.out.cell (p:=⟨b,off+i * 3,none⟩) hb).trans c0;have c1:=(HB.out.cell (p:=⟨b,off+i * 3+1,none⟩) hb).trans c1;have c2:=(HB.out.cell (p:=⟨b,off+i * 3+2,none⟩) hb).trans c2;have hb:=Nat.lt_of_lt_of_le hb HB.out.size;clear hx hcc HEX HC HV hu;go_wp2_with (refine wpList_store_row rfl 63 _ _ rfl (w.heap.size) _ rfl rfl 63 _ R0.out (by kernel_rfl) rfl (by simp [Value.oneCell']) ?_);refine bodyPost_ret (v:=.tuple #[.agg #[.int .i64 cc,.slice ua bf.length uc,.bool cl],.bool true]) (results_cell_tmp Try.results102 _ _ (w.heap.size) 63 _ (0,0) _ rfl (setRow_heap _ _ _ _ 63 (0,0) R0.out) Try.underlying63 rfl (by kernel_rfl) _ rfl) rfl ?_;exact ⟨_,rfl,(HU.out.below HB.out).grown (row_grown _ _ _) (HU.out.offOf (Nat.le_refl _)),row_below HB.out (by omega) _⟩
set_option maxRecDepth 100000 in
set_option maxHeartbeats 16000000 in
theorem qalone_any (v:Value) (l:List ChanM) (x:CaseM) (w:World) (hv:SlH w v l):Calls Try.prog 85 #[v,caseW x] w (ResQ (aloneE l x) w):=by
 have TF:=Lib.hid fun w' (hb:Below w.heap.size w w')=>qfind_any v l x.chan w' (hv.below hb);obtain ⟨ro,hro⟩:∃o,aloneE l x=o:=⟨_,rfl⟩;rw [hro];unfold aloneE at hro;obtain ⟨sd,ch,vl⟩:=x;dsimp only at hro TF;unfold caseW;try dsimp only
 obtain ⟨ex,hex⟩:∃b,exB l ch=b:=⟨_,rfl⟩;obtain ⟨⟨cc,bf,cl⟩,hc⟩:∃c,fndE l ch=c:=⟨_,rfl⟩;unfold FindQ at TF;rw [hex,hc] at TF;dsimp only at TF;rw [hex,hc] at hro;have HRO:=Lib.hid hro;obtain ⟨a,cap,hve,-⟩:=hv.len;subst hve;clear hv hro hex hc;obtain ⟨W,hW,HB,R0,R1,hz⟩:=two_new w (.cells #[.bool sd,.int .i64 ch,.int .u64 vl] 58) (.cells #[.int .i64 0,.int .i64 0,.int .u64 0,.bool false,.int .i64 0] 73);have HW:=Lib.hid hW;clear hW;go_enter Try.func85,Try.ntmps85;go_upto_region 1 with fail
 rw [HW.out];clear HW;obtain ⟨x0_0,x0_1,x0_2⟩:=rowc3 R0.out;go_wp2_with fail;refine (TF.out _ HB.out).mono ?_; rintro e w1 ⟨u,rfl,hu,hb1⟩;have hbl:=hu.1;obtain ⟨ua,uc,rfl,-⟩:=hu.len;have HU1:=Lib.hid hu;have HB1:=Lib.hid (below_then HB.out hb1);have R0b:=keepR hb1 R0;have R1b:=keepR hb1 R1;clear x0_0 x0_1 x0_2;clear hu hb1;obtain ⟨Wx,hWx⟩:∃Wx,(w1.alloc (.cells #[.int .i64 0,.slice none 0 0,.bool false] 63)).setRow w1.heap.size #[.int .i64 cc,.slice ua bf.length uc,.bool cl]=Wx:=⟨_,rfl⟩;have Nx:Hid ((w1.alloc (.cells #[.int .i64 0,.slice none 0 0,.bool false] 63)).heap[w1.heap.size]?=some (.cells #[.int .i64 0,.slice none 0 0,.bool false] 63 (0,0))):=heap_alloc_new _ _;have HBx:Hid (Below w1.heap.size w1 Wx):=hWx▸row_below (below_new (Below.refl _ _) _) (Nat.le_refl _) _;have Rx:Hid (Wx.heap[w1.heap.size]?=some (.cells #[.int .i64 cc,.slice ua bf.length uc,.bool cl] 63 (0,0))):=hWx▸setRow_heap _ _ _ _ _ (0,0) Nx.out;have HWx:=Lib.hid hWx;clear hWx;go_upto_region 2 with (refine wpList_store_row rfl 63 _ _ rfl (w1.heap.size) _ rfl rfl 63 _ Nx.out (by kernel_rfl) rfl (by simp [Value.oneCell']) ?_)
 rw [HWx.out];try simp only [Act.put]
 clear HWx Nx;have HBX:=Lib.hid (below_then HB1.out HBx.out);have R0c:=keepR HBx.out R0b;have R1c:=keepR HBx.out R1b;have HUx:=Lib.hid (HU1.out.below HBx.out);obtain ⟨y0,y1,y2⟩:=rowc3 Rx.out;obtain ⟨x0_0,x0_1,x0_2⟩:=rowc3 R0c.out;cases ex with
 | false=>
  go_wp2_with (refine wpList_store_row rfl 73 _ _ rfl (w.heap.size+1) _ rfl rfl 73 _ R1c.out (by kernel_rfl) rfl (by simp [Value.oneCell']) ?_);refine bodyPost_ret (v:=.tuple #[.agg #[.int .i64 0,.int .i64 0,.int .u64 0,.bool false,.int .i64 0],.bool false]) (results_cell_tmp Try.results85 _ _ (w.heap.size+1) 73 _ (0,0) _ rfl (setRow_heap _ _ _ _ 73 (0,0) R1c.out) Try.underlying73 rfl (by kernel_rfl) _ rfl) rfl ?_;unfold ResQ;exact ⟨⟨0,0,0,false,0⟩,false,rfl,.inr ⟨rfl,by rw [← HRO.out]; simp [aloneC]⟩,row_below HBX.out (by omega) _⟩
 | true=>
  cases sd with
  | true=>
   cases cl with
   | true=>
    go_wp2_with (refine wpList_store_row rfl 73 _ _ rfl (w.heap.size+1) _ rfl rfl 73 _ R1c.out (by kernel_rfl) rfl (by simp [Value.oneCell']) ?_);refine bodyPost_ret (v:=.tuple #[.agg #[.int .i64 5,.int .i64 (-1),.int .u64 0,.bool false,.int .i64 0],.bool true]) (results_cell_tmp Try.results85 _ _ (w.heap.size+1) 73 _ (0,0) _ rfl (setRow_heap _ _ _ _ 73 (0,0) R1c.out) Try.underlying73 rfl (by kernel_rfl) _ rfl) rfl ?_;unfold ResQ;exact ⟨⟨5,(-1),0,false,0⟩,true,rfl,.inl ⟨rfl,by rw [← HRO.out]; simp [aloneC]⟩,row_below HBX.out (by omega) _⟩
   | false=>
    by_cases hlt:(bf.length:Int)<cc
    ·skip
     go_wp2_with (refine wpList_store_row rfl 73 _ _ rfl (w.heap.size+1) _ rfl rfl 73 _ R1c.out (by kernel_rfl) rfl (by simp [Value.oneCell']) ?_);refine bodyPost_ret (v:=.tuple #[.agg #[.int .i64 1,.int .i64 (-1),.int .u64 0,.bool false,.int .i64 0],.bool true]) (results_cell_tmp Try.results85 _ _ (w.heap.size+1) 73 _ (0,0) _ rfl (setRow_heap _ _ _ _ 73 (0,0) R1c.out) Try.underlying73 rfl (by kernel_rfl) _ rfl) rfl ?_;unfold ResQ;exact ⟨⟨1,(-1),0,false,0⟩,true,rfl,.inl ⟨rfl,by rw [← HRO.out]; simp [aloneC,hlt]⟩,row_below HBX.out (by omega) _⟩
    ·skip
     go_wp2_with (refine wpList_store_row rfl 73 _ _ rfl (w.heap.size+1) _ rfl rfl 73 _ R1c.out (by kernel_rfl) rfl (by simp [Value.oneCell']) ?_);refine bodyPost_ret (v:=.tuple #[.agg #[.int .i64 0,.int .i64 0,.int .u64 0,.bool false,.int .i64 0],.bool false]) (results_cell_tmp Try.results85 _ _ (w.heap.size+1) 73 _ (0,0) _ rfl (setRow_heap _ _ _ _ 73 (0,0) R1c.out) Try.underlying73 rfl (by kernel_rfl) _ rfl) rfl ?_;unfold ResQ;exact ⟨⟨0,0,0,false,0⟩,false,rfl,.inr ⟨rfl,by rw [← HRO.out]; simp [aloneC,hlt]⟩,row_below HBX.out (by omega) _⟩
  | false=>
   cases bf with
   | nil=>
    simp only [List.length_nil] at y1;cases cl with
    | true=>
     go_wp2_with (refine wpList_store_row rfl 73 _ _ rfl (w.heap.size+1) _ rfl rfl 73 _ R1c.out (by kernel_rfl) rfl (by simp [Value.oneCell']) ?_);refine bodyPost_ret (v:=.tuple #[.agg #[.int .i64 2,.int .i64 (-1),.int .u64 0,.bool false,.int .i64 0],.bool true]) (results_cell_tmp Try.results85 _ _ (w.heap.size+1) 73 _ (0,0) _ rfl (setRow_heap _ _ _ _ 73 (0,0) R1c.out) Try.underlying73 rfl (by kernel_rfl) _ rfl) rfl ?_;unfold ResQ;exact ⟨⟨2,(-1),0,false,0⟩,true,rfl,.inl ⟨rfl,by rw [← HRO.out]; simp [aloneC]⟩,row_below HBX.out (by omega) _⟩
    | false=>
     go_wp2_with (refine wpList_store_row rfl 73 _ _ rfl (w.heap.size+1) _ rfl rfl 73 _ R1c.out (by kernel_rfl) rfl (by simp [Value.oneCell']) ?_);refine bodyPost_ret (v:=.tuple #[.agg #[.int .i64 0,.int .i64 0,.int .u64 0,.bool false,.int .i64 0],.bool false]) (results_cell_tmp Try.results85 _ _ (w.heap.size+1) 73 _ (0,0) _ rfl (setRow_heap _ _ _ _ 73 (0,0) R1c.out) Try.underlying73 rfl (by kernel_rfl) _ rfl) rfl ?_;unfold ResQ;exact ⟨⟨0,0,0,false,0⟩,false,rfl,.inr ⟨rfl,by rw [← HRO.out]; simp [aloneC]⟩,row_below HBX.out (by omega) _⟩
   | cons yb bt=>
    obtain ⟨b2,off2,cap2,e2,hcp,hb2,hcc2⟩:=HUx.out.open (by simp);simp only [Value.slice.injEq] at e2;obtain ⟨rfl,-,rfl⟩:=e2;have q0:=hcc2 0 (by simp);simp only [Nat.add_zero,List.getD_cons_zero] at q0;simp only [List.length_cons] at y1;simp only [List.length_cons] at hbl;have h03:(0:Int)<(bt.length:Int)+1:=by omega
    have h04:(0:Int)<((bt.length+1:Nat):Int):=by omega
    clear hcc2;go_wp2_with (refine wpList_store_row rfl 73 _ _ rfl (w.heap.size+1) _ rfl rfl 73 _ R1c.out (by kernel_rfl) rfl (by simp [Value.oneCell']) ?_);refine bodyPost_ret (v:=.tuple #[.agg #[.int .i64 2,.int .i64 (-1),.int .u64 yb,.bool true,.int .i64 0],.bool true]) (results_cell_tmp Try.results85 _ _ (w.heap.size+1) 73 _ (0,0) _ rfl (setRow_heap _ _ _ _ 73 (0,0) R1c.out) Try.underlying73 rfl (by kernel_rfl) _ rfl) rfl ?_;unfold ResQ;exact ⟨⟨2,(-1),yb,true,0⟩,true,rfl,.inl ⟨rfl,by rw [← HRO.out]; simp [aloneC]⟩,row_below HBX.out (by omega) _⟩
set_option maxRecDepth 100000 in
set_option maxHeartbeats 16000000 in
theorem qready_any (v:Value) (l:List ChanM) (x:CaseM) (w:World) (hv:SlH w v l):Calls Try.prog 56 #[v,caseW x] w fun e w'=>e=.returned (.bool (readyB l x))∧Below w.heap.size w w':=by
 have TF:=Lib.hid fun w' (hb:Below w.heap.size w w')=>qalone_any v l x w' (hv.below hb);rw [← aloneE_ready];obtain ⟨ro,hro⟩:∃o,aloneE l x=o:=⟨_,rfl⟩;rw [hro] at TF;rw [hro];obtain ⟨sd,ch,vl⟩:=x;unfold caseW at TF ⊢;try dsimp only at TF ⊢
 obtain ⟨a,cap,hve,-⟩:=hv.len;subst hve;clear hv hro;obtain ⟨W,hW,HB,R0,hz⟩:=one_new w (.cells #[.bool sd,.int .i64 ch,.int .u64 vl] 58);have HW:=Lib.hid hW;clear hW;go_enter Try.func56,Try.ntmps56;go_upto_region 1 with fail
 rw [HW.out];clear HW;obtain ⟨x0_0,x0_1,x0_2⟩:=rowc3 R0.out;go_wp2_with fail;refine (TF.out _ HB.out).mono ?_; rintro e w1 ⟨⟨q1,q2,q3,q4,q5⟩,b,rfl,hr,hb1⟩;unfold resW;dsimp only;have HB1:=Lib.hid (below_then HB.out hb1);have HR:Hid (ro.isSome=b):=by
  rcases hr with ⟨rfl,rfl⟩ | ⟨rfl,rfl⟩ <;> rfl
 clear hr hb1 x0_0 x0_1 x0_2;obtain ⟨Wx,hWx⟩:∃Wx,(w1.alloc (.cells #[.int .i64 0,.int .i64 0,.int .u64 0,.bool false,.int .i64 0] 73)).setRow w1.heap.size #[.int .i64 q1,.int .i64 q2,.int .u64 q3,.bool q4,.int .i64 q5]=Wx:=⟨_,rfl⟩;have Nx:Hid ((w1.alloc (.cells #[.int .i64 0,.int .i64 0,.int .u64 0,.bool false,.int .i64 0] 73)).heap[w1.heap.size]?=some (.cells #[.int .i64 0,.int .i64 0,.int .u64 0,.bool false,.int .i64 0] 73 (0,0))):=heap_alloc_new _ _;have HBx:Hid (Below w1.heap.size w1 Wx):=hWx▸row_below (below_new (Below.refl _ _) _) (Nat.le_refl _) _;have Rx:Hid (Wx.heap[w1.heap.size]?=some (.cells #[.int .i64 q1,.int .i64 q2,.int .u64 q3,.bool q4,.int .i64 q5] 73 (0,0))):=hWx▸setRow_heap _ _ _ _ _ (0,0) Nx.out;have HWx:=Lib.hid hWx;clear hWx;go_upto_region 2 with (refine wpList_store_row rfl 73 _ _ rfl (w1.heap.size) _ rfl rfl 73 _ Nx.out (by kernel_rfl) rfl (by simp [Value.oneCell']) ?_)
 rw [HWx.out];try simp only [Act.put]
 clear HWx Nx;go_wp2;go_ret;exact ⟨by rw [HR.out]; rfl,below_then HB1.out HBx.out⟩
section
variable {e:TypeId} {s base:Nat} {w:World} {v:Value} {rows:List (List Value)}
theorem wp_append_ss (st:TypeId) {bytes:Nat} {z:Value} (hu:Try.prog.underlying st=some (.slice e)) (hinfo:(Try.prog.info? e).map (fun i=>(i.zero,i.size,i.bytes))=some (some z,s,bytes)) (hzs:z.cells.size=s) (hsz:0<s) (hby:bytes≤200)
  {ops:Array Oper} {rest:List Oper} {o:Oper} {a:Act} {Q:Exit→Act→World→Prop}
  (hgd:o.guard=none) (sl x:Operand) (hop:o.op=Op.call { callee:=Callee.builtin Builtin.append,args:=#[sl,x],argTypes:=#[st,st] })
  (hs:a.eval sl=v) (hown:OwnS w base e s v rows) (rs:List (List Value)) (hr:Rows' s rs) (g n:Nat) (hn:rs.length=n)
  (hx:a.eval x=.slice (some ⟨g,0,none⟩) n n) (hcell:w.heap[g]?=some (.cells rs.flatten.toArray e (0,0))) (hl:rows.length+rs.length≤1000001) (hb:base≤w.heap.size)
  (hK:∀v' w',OwnS w' base e s v' (rows ++ rs)→w.grownBy w' v.ownBlock→wpList Try.prog ops Q rest (a.put o.dst v') w') :
  wpList Try.prog ops Q (o :: rest) a w:=by
 subst hn;obtain ⟨i0,hi,hz0,hz1,hz2⟩:=info_parts hinfo;obtain ⟨v',w',hrun,h2,h3,-,h4⟩:=run_append_own_at (P:=Try.prog) w base st o.type e i0 z s bytes hu hi hz0 hz1 hz2 hzs hsz v rows.length _ hown.2 ⟨g,0,none⟩ rs.length rs.length rs.flatten (flatS_length rs hr) (fun j u hj=>by
  have:w.cell? ⟨g,j,none⟩=rs.flatten.toArray[j]?:=cell_of_row _ _ j _ _ _ hcell;have e2:((⟨g,0,none⟩:Addr).add j)=⟨g,j,none⟩:=by rw [Addr.add_mid,Nat.zero_add]
  rw [e2,this];simpa using hj) (fun u hu=>by
   obtain ⟨r,hr2,hur⟩:=List.mem_flatten.1 hu;exact (hr r hr2).2 u hur) (by unfold maxLen; omega) (by have:(rows.length+rs.length) * bytes≤1000001 * 200:=Nat.mul_le_mul (by omega) hby; omega) hb
 refine Lib.wpList_append_run w hgd sl x _ _ hop _ _ hs hx v' w' hrun (hK v' w' ⟨fun r hr2=>?_,?_⟩ h3)
 ·rcases List.mem_append.1 hr2 with h | h
  ·exact hown.1 r h
  ·exact hr r h
 ·rw [List.length_append,List.flatten_append]
  exact h2
theorem SlS.lit1 (w:World) (e:TypeId) (row:List Value) (s:Nat) (hs:row.length=s) (h1:∀u∈row,u.oneCell'=true):SlS (w.alloc (.cells row.toArray e)) s (.slice (some ⟨w.heap.size,0,none⟩) 1 1) [row]:=by
 refine ⟨by simp,fun r hr=>?_,_,1,rfl,Nat.le_refl _,fun i hi=>⟨w.heap.size,0,rfl,by simp,?_⟩⟩
 ·rw [List.mem_singleton.1 hr]; exact ⟨hs,h1⟩
 ·have hi0:i=0:=by simp at hi; exact hi
  subst hi0;intro j u hj;have h2:(w.alloc (.cells row.toArray e)).cell? ⟨w.heap.size,j,none⟩=row.toArray[j]?:=cell_of_row _ _ j _ _ (0,0) (heap_alloc_new w (.cells row.toArray e));simp only [Nat.zero_mul,Nat.zero_add];rw [h2];simpa using hj
end
def resL (r:ResM):List Value:=[.int .i64 r.kind,.int .i64 r.case,.int .u64 r.val,.bool r.ok,.int .i64 r.num]
def resRows (l:List ResM):List (List Value):=l.map resL
theorem resRows_length (l:List ResM):(resRows l).length=l.length:=List.length_map _
theorem resRows_get (l:List ResM) (i:Nat) (hi:i<l.length):(resRows l).getD i []=resL (l.getD i ⟨0,0,0,false,0⟩):=by
 simp [resRows,List.getD_eq_getElem?_getD,hi]
theorem SlS.res {w:World} {v:Value} {l:List ResM} (h:SlS w 5 v (resRows l)) (i:Nat) (hi:i<l.length) {r:ResM} (hr:l.getD i ⟨0,0,0,false,0⟩=r):∃b off cap,v=.slice (some ⟨b,off,none⟩) l.length cap∧b<w.heap.size∧w.cell? ⟨b,off+i * 5,none⟩=some (.int .i64 r.kind)∧w.cell? ⟨b,off+i * 5+1,none⟩=some (.int .i64 r.case)∧w.cell? ⟨b,off+i * 5+2,none⟩=some (.int .u64 r.val)∧w.cell? ⟨b,off+i * 5+3,none⟩=some (.bool r.ok)∧w.cell? ⟨b,off+i * 5+4,none⟩=some (.int .i64 r.num):=by
 have hl:=resRows_length l;obtain ⟨b,off,cap,rfl,hb,hc⟩:=h.open (by omega);have h5:=hc i (by omega);rw [resRows_get l i hi,hr] at h5;exact ⟨b,off,cap,by rw [hl],hb,h5 0 _ rfl,h5 1 _ rfl,h5 2 _ rfl,h5 3 _ rfl,h5 4 _ rfl⟩
theorem blockedB_no {l:List ChanM} {op:OpM} {k:Nat} (hk:k<(casesE op).length) (h:readyB l ((casesE op).getD k noCase)=true):blockedB l op=false:=by
 unfold blockedB;rw [List.all_eq_false];rw [List.getD_eq_getElem?_getD,List.getElem?_eq_getElem hk] at h;exact ⟨_,List.getElem_mem hk,by simpa using h⟩
theorem blockedB_yes {l:List ChanM} {op:OpM} (h:∀j,j<(casesE op).length→readyB l ((casesE op).getD j noCase)=false):blockedB l op=true:=by
 unfold blockedB;rw [List.all_eq_true];intro x hx;obtain ⟨j,hj,rfl⟩:=List.mem_iff_getElem.1 hx;have h1:=h j hj;rw [List.getD_eq_getElem?_getD,List.getElem?_eq_getElem hj] at h1;simpa using h1
set_option maxRecDepth 100000 in
set_option maxHeartbeats 16000000 in
theorem mblocked_any (v vo:Value) (l:List ChanM) (op:OpM) (w:World) (hv:SlH w v l) (h:OpV w vo op) (hok:op.chan=IntKind.i64.wrap op.chan∧op.val=IntKind.u64.wrap op.val):Calls Try.prog 109 #[v,vo] w fun e w'=>e=.returned (.bool (blockedB l op))∧Below w.heap.size w w':=by
 have TC:=Lib.hid fun w' (hb:Below w.heap.size w w')=>rcases_any vo op w' (h.below hb) hok;have TR:=Lib.hid fun x w' (hb:Below w.heap.size w w')=>mready_any v l x w' (hv.below hb);have HNO:Hid (∀k,k<(casesE op).length→readyB l ((casesE op).getD k noCase)=true→blockedB l op=false):=fun k hk h=>blockedB_no hk h;have HYES:Hid ((∀j,j<(casesE op).length→readyB l ((casesE op).getD j noCase)=false)→blockedB l op=true):=fun h=>blockedB_yes h;obtain ⟨rb,hrb⟩:∃b,blockedB l op=b:=⟨_,rfl⟩;rw [hrb] at HNO HYES ⊢;obtain ⟨cl,hcl⟩:∃l,casesE op=l:=⟨_,rfl⟩;rw [hcl] at TC HNO HYES;clear hrb hcl;obtain ⟨al,cpl,hve,-⟩:=hv.len;obtain ⟨vc,vd,rfl,hc,hd⟩:=h;obtain ⟨kd,md,ch,vl,dl,cs,ds⟩:=op;dsimp only at *;obtain ⟨a3,cap3,rfl⟩:=hc.len;obtain ⟨a4,cap4,rfl,-⟩:=hd.len;subst hve;clear hc hd hv hok;obtain ⟨W,hW,HB,R0,hz⟩:=one_new w (.cells #[.int .i64 kd,.int .i64 md,.int .i64 ch,.int .u64 vl,.int .i64 dl,.slice a3 cs.length cap3,.slice a4 ds.length cap4] 44);have HW:=Lib.hid hW;clear hW;go_enter Try.func109,Try.ntmps109;go_upto_region 1 with fail
 rw [HW.out];clear HW;obtain ⟨x0_0,x0_1,x0_2,x0_3,x0_4,x0_5,x0_6⟩:=rowc7 R0.out;go_wp2_with fail;refine (TC.out _ HB.out).mono ?_; rintro e w1 ⟨u,rfl,hu,hb1⟩;have HB1:=Lib.hid (below_then HB.out hb1);have HU:=Lib.hid hu;obtain ⟨au,cu,hue⟩:=hu.len;subst hue;have hbl:=hu.1;clear hb1 hu TC;clear x0_0 x0_1 x0_2 x0_3 x0_4 x0_5 x0_6;go_wp2_with fail;go_loopw [6] (fun u6 wr=>∃i:Nat,u6=.int .i64 i∧i≤cl.length∧Hid (∀j,j<i→readyB l (cl.getD j noCase)=false)∧Hid (Below w1.heap.size w1 wr)) (fun u6 _=>cl.length - (intOf u6).toNat)
 case atStart=>exact ⟨0,rfl,by omega,fun j hj=>by omega,Below.refl _ _⟩
 case round=>
  obtain ⟨i,rfl,hi,HN,HBi⟩:=hrel;obtain ⟨wo,rfl⟩:∃wo:World,wo=wr:=⟨_,rfl⟩;by_cases hlt:i<cl.length
  ·have hltI:(i:Int)<(cl.length:Int):=by omega
   obtain ⟨-,-,a',cap',hve,-,hcell⟩:=HU.out.below HBi.out;simp only [Value.slice.injEq,true_and] at hve;obtain ⟨rfl,rfl⟩:=hve;obtain ⟨b,off,rfl,hbb,hca⟩:=hcell i hlt;obtain ⟨⟨s1,s2,s3⟩,hx⟩:∃x,cl.getD i noCase=x:=⟨_,rfl⟩;rw [hx] at hca;obtain ⟨c0,c1,c2⟩:=hca;dsimp only at c0 c1 c2;have HX:=Lib.hid hx;have T:=Lib.hid (TR.out ⟨s1,s2,s3⟩ wo (below_then HB1.out HBi.out));unfold caseW at T;dsimp only at T;obtain ⟨q,hq⟩:∃q,readyB l ⟨s1,s2,s3⟩=q:=⟨_,rfl⟩;rw [hq] at T;have HQ:=Lib.hid hq;clear hcell hx hq;go_wp2_with fail;refine T.out.mono ?_; rintro e w3 ⟨rfl,hb3⟩;have HB3:=Lib.hid (below_then HBi.out hb3);clear c0 c1 c2 hb3 T hbb;cases q with
   | true=>
    have hr:rb=false:=HNO.out i hlt (by rw [HX.out]; exact HQ.out);subst hr;have HBF:=Lib.hid (below_then HB1.out HB3.out);go_wp2;go_ret;exact ⟨rfl,HBF.out⟩
   | false=>
    go_wp2_with fail;go_roundw
    case rel=>exact ⟨i+1,by go_num,by omega,fun j hj=>by
     by_cases e:j=i
     ·rw [e,HX.out]; exact HQ.out
     ·exact HN.out j (by omega),HB3⟩
    case measure=>simp [intOf]; omega
  ·have hge:¬(i:Int)<(cl.length:Int):=by omega
   have hr:rb=true:=HYES.out fun j hj=>HN.out j (by omega);subst hr;have HBF:=Lib.hid (below_then HB1.out HBi.out);go_wp2;go_ret;exact ⟨rfl,HBF.out⟩
end Go.Proofs.Ytiekicailidhcaa
