/- Proved: RingRoom returns true, and its arguments read afterwards as before, for every list of codes, every list of picks and every number; no condition. -/
import Derived.LoopTactic
import Derived.WalkKit
import Derived.ProofKit
import Derived.OpenShut
import Derived.SizedLaws
import Derived.Test.YtjnlkemdaffgbaaGreatB01
import Derived.Test.YtjnlkemdaffgbaaGreatB26
namespace Go.Proofs.YtjnlkemdaffgbaaGreat.ringRoom
open Go.ChangeShapes Go.WideShapes Go.ChangeAt Go.RowKit
set_option linter.unusedVariables false
set_option linter.unusedSimpArgs false
theorem memAt {w wr:World} {S:List (Option Nat)} {base bl n cap:Nat} {pl:List (List Value × MemM)} (ho:OwnS wr base 33 3 (.slice (some ⟨bl,0,none⟩) n cap) (pl.map Prod.fst)) (hp:∀z∈pl,StM (OffS S w) (.agg z.1.toArray) z.2) (hw:OffS S w wr) (h2:∀z∈pl,2≤z.2.words.length) (i:Nat) (hi:i<pl.length) :
  ∃wb wo wc la ln lc ti,wb<wr.heap.size∧wr.cell? ⟨bl,i * 3,none⟩=some (.slice (some ⟨wb,wo,none⟩) pl[i].2.words.length wc)∧wr.cell? ⟨bl,i * 3+1,none⟩=some (.slice la ln lc)∧wr.cell? ⟨bl,i * 3+2,none⟩=some (.int .i64 ti)∧wr.cell? ⟨wb,wo,none⟩=some (.int .u64 (pl[i].2.words.getD 0 0))∧wr.cell? ⟨wb,wo+1,none⟩=some (.int .u64 (pl[i].2.words.getD 1 0))∧Hid (StM (OffS S w) (.agg #[.slice (some ⟨wb,wo,none⟩) pl[i].2.words.length wc,.slice la ln lc,.int .i64 ti]) pl[i].2):=by
 have hm:=List.getElem_mem hi;have hs:=hp _ hm;have h3:=h2 _ hm;have hr:=ho.row i (by rw [List.length_map]; exact hi);rw [List.getElem_map] at hr;obtain ⟨vw,vl,us,e2,h4⟩:=hs;simp only [Value.agg.injEq] at e2;have e3:pl[i].1=[vw,vl,.int .i64 pl[i].2.tick]:=by have:=congrArg Array.toList e2; simpa using this
 obtain ⟨a2,k2,rfl,-⟩:=(h4 wr hw).2.len;have h5:=(h4 wr hw).1;obtain ⟨wb,wo,wc,rfl,-,h6,h7⟩:=h5.open (by intro e; rw [e] at h3; simp at h3);rw [e3] at hr;exact ⟨wb,wo,wc,a2,_,k2,_,h6,hr.1 0 _ rfl,hr.1 1 _ rfl,hr.1 2 _ rfl,h7 0 (by omega),h7 1 (by omega),Lib.hid ⟨_,_,us,rfl,h4⟩⟩
theorem diff_step {a b:Int} (h:b=a∨b=nextI a 1) (h0:0≤a) (h1:a<9223372036854775808):0≤diffI b a:=by
 unfold diffI;rcases h with rfl | rfl
 ·omega
 ·unfold nextI; omega
set_option maxRecDepth 100000 in
set_option maxHeartbeats 32000000 in
theorem walk (w:World) (v0:Value) (l0:List Int) (s0:SlI w .u8 v0 l0) (v1:Value) (l1:List Int) (s1:SlI w .u8 v1 l1) (a2:Int) (w2:(Lit.int .u8 a2).wf=true) :
  Calls Tryz.prog 3 #[v0,v1,.int .u8 a2] w fun e w'=>e=.returned (.bool true)∧Below w.heap.size w w':=by
 have HS0:=Lib.hid s0;have HS1:=Lib.hid s1;have hn1:0≤a2∧a2<256:=by
  have h1:=wrap_of_wf w2;rw [IntKind.wrap_u8] at h1;omega
 obtain ⟨q,hq⟩:∃q:Nat,a2.tmod 3=(q:Int):=⟨(a2.tmod 3).toNat,by have:=Int.tmod_nonneg 3 hn1.1; omega⟩;have hq4:q≤2:=by have:=Int.tmod_lt_of_pos a2 (b:=3) (by omega); omega
 have hqu:IntKind.u8.wrap (q:Int)=q:=by rw [IntKind.wrap_u8]; omega
 have hqi:IntKind.i64.wrap (q:Int)=q:=by rw [IntKind.wrap_i64]; omega
 have hqm:a2 % 3=(q:Int):=by rw [← hq,Int.tmod_eq_emod_of_nonneg hn1.1]
 clear s0 s1 w2 hn1;go_enter Tryz.func3,Tryz.ntmps3;go_wp2_with fail;refine (awake8_any _).mono ?_; rintro e wa ⟨rfl,hba⟩;have HBA:=Lib.hid hba;clear hba;have HO:=Lib.hid (run_any v0 v1 l0 l1 q (by omega) wa (HS0.out.below HBA.out) (HS1.out.below HBA.out));go_wp2_with fail;refine HO.out.mono ?_;clear hq hqu hqi hqm HO HS0 HS1;rintro e wb ⟨B,g,x,y,c,N,k0,is,rfl,HL,HW,HIS,HG⟩;have HI:Hid (∃P Q cl,HI c (c.st 0) (hstW y) P Q cl):=by
  have hlen:=HG.out.2.2.2.1;have h5:=HG.out.2.2.2.2.1;have h1:=(HI.start HG.out.1 HG.out.2.1 (newE_fits HG.out.1) k0 HG.out.2.2.1).run (by show k0.length≤100000; omega) is (fun i hi=>by show i<k0.length; rw [hlen]; exact HIS.out.1 i hi);rw [← HW.out] at h1;exact h1
 have HGC:Hid (c.good∧1≤c.caps.length):=⟨HG.out.1,HG.out.2.1⟩;obtain ⟨T,hT⟩:∃T,y.p.length=T:=⟨_,rfl⟩;have hT5:T≤4200:=by rw [← hT]; exact HL.out.small.2
 have HTL:Hid (y.p.length=T):=hT;obtain ⟨mw,hmw⟩:∃mw,y.m.words.length=mw:=⟨_,rfl⟩;obtain ⟨ml,hml⟩:∃ml,y.m.lists.length=ml:=⟨_,rfl⟩;obtain ⟨pl,hpl⟩:∃pl,y.p ++ [([.slice x.mA mw x.mc,.slice x.nA ml x.nc,.int .i64 y.m.tick],y.m)]=pl:=⟨_,rfl⟩;obtain ⟨rows,hrows⟩:∃rows,y.p.map Prod.fst=rows:=⟨_,rfl⟩;have HRL:Hid (rows.length=T):=by rw [← hrows,List.length_map]; exact hT
 have HRP:Hid (rows ++ [[.slice x.mA mw x.mc,.slice x.nA ml x.nc,.int .i64 y.m.tick]]=pl.map Prod.fst):=by rw [← hpl,← hrows,List.map_append]; rfl
 have HPS:Hid ((hstW y).p ++ [(hstW y).m]=pl.map Prod.snd):=by rw [← hpl,List.map_append]; rfl
 have HPL:Hid (pl.length=T+1):=by rw [← hpl,List.length_append,hT]; rfl
 have HST:Hid (∀z∈pl,StM (OffS (x.RS [some g] B) wb) (.agg z.1.toArray) z.2):=fun z hz=>by
  rw [← hpl,List.mem_append,List.mem_singleton] at hz;rcases hz with hz | rfl
  ·exact HL.out.wi.past z hz
  ·have:=HL.out.wi.mem
   unfold WV.mem at this;rw [hmw,hml] at this;exact this
 have HEV:Hid (∀z∈pl,2≤z.2.words.length∧U64 (z.2.words.getD 0 0)∧0≤restI (z.2.words.getD 0 0 / 2) (z.2.words.getD 1 0)∧restI (z.2.words.getD 0 0 / 2) (z.2.words.getD 1 0)≤c.caps.getD 0 0):=fun z hz=>by
  obtain ⟨P,Q,cl,H⟩:=HI.out;obtain ⟨i,hi,rfl⟩:=List.getElem_of_mem hz;obtain ⟨P1,Q1,cl1,h1⟩:=H.each i pl[i].2 (by rw [HPS.out,List.getElem?_map,List.getElem?_eq_getElem hi]; rfl);obtain ⟨e1,e2,e3⟩:=h1.used;have h6:=HGC.out.1.size 0 HGC.out.2;have h7:=h1.len;rw [e1];refine ⟨by omega,?_,e2,e3⟩;rw [h1.tail];have h:=nextI_rng (c.st 0) P1;unfold packI;cases cl1
  ·exact ⟨by simp; omega,by simp; omega⟩
  ·exact ⟨by simp; omega,by simp; omega⟩
 have HPR:Hid (∀i (h1:i<pl.length) (h2:i+1<pl.length),(0≤diffI (pl[i+1].2.words.getD 1 0) (pl[i].2.words.getD 1 0))∧(0≤diffI (pl[i+1].2.words.getD 0 0 / 2) (pl[i].2.words.getD 0 0 / 2))∧(closedB (pl[i].2.words.getD 0 0)=true→pl[i+1].2.words.getD 0 0=pl[i].2.words.getD 0 0)):=fun i h1 h2=>by
  obtain ⟨P,Q,cl,H⟩:=HI.out;have h3:=H.pair i pl[i].2 pl[i+1].2 (by rw [HPS.out,List.getElem?_map,List.getElem?_eq_getElem h1]; rfl) (by rw [HPS.out,List.getElem?_map,List.getElem?_eq_getElem h2]; rfl);obtain ⟨f1,f2,f3,f4,f5⟩:=h3.facts;exact ⟨diff_step f1 f4.1 f4.2,diff_step f2 f5.1 f5.2,f3⟩
 have HOP:Hid (∀w',Below wb.heap.size wb w'→OwnS w' (B+1) 33 3 (.slice x.pA T x.pc) rows):=fun w' hb=>by
  have h:=(HL.out.next hb).wi.op;unfold WV.vp at h;rw [hT,hrows] at h;exact h
 have row0:=HL.out.wi.row;unfold WV.rrow at row0;rw [hT,hmw,hml] at row0;have ROW:=Lib.hid row0;have KS:Hid (∀w',Below wb.heap.size wb w'→(fun w':World=>(w'.cell? ⟨B,3,none⟩=some (.slice x.mA mw x.mc)∧w'.cell? ⟨B,4,none⟩=some (.slice x.nA ml x.nc)∧w'.cell? ⟨B,5,none⟩=some (.int .i64 y.m.tick))∧(w'.cell? ⟨B,8,none⟩=some (.slice x.pA T x.pc))) w'):=fun w' hb=>by
  obtain ⟨x0,x1,x2,x3,x4,x5,x6,x7,x8⟩:=rowc9 ((hb.block B HL.out.wi.lt).trans ROW.out);exact ⟨⟨x3,x4,x5⟩,x8⟩
 clear hT hmw hml hpl hrows row0 HW HIS HG HI HPS ROW hq4;go_upto_region 4 with fail
 go_cut [8] (fun s8 wx=>Hid (∃A9 c9,s8=.slice A9 (T+1) c9∧OwnS wx wb.heap.size 33 3 (.slice A9 (T+1) c9) (pl.map Prod.fst))∧Hid (Below wb.heap.size wb wx))
 case first=>
  refine untilK KS 11 12 (by kernel_rfl) rfl ?_;obtain ⟨u0,hu0,HU0⟩:=drew_pack wb;rw [hu0];clear hu0;have hSU0:=KS.out _ HU0.out;apply tkV 0 hSU0 rfl (by kernel_rfl) (fun _ _ _ h=>h) rfl;intro w hSw;(go_simp<;>with_reducible rfl);simp only [J0,J1,J2,J3,J4];apply tkV 1 hSU0 rfl (by kernel_rfl) (fun _ _ _ h=>h) rfl;intro w hSw;(go_simp<;>with_reducible rfl);simp only [J0,J1,J2,J3,J4];apply tkV 2 hSU0 rfl (by kernel_rfl) (fun _ _ _ h=>h) rfl;intro w hSw;(go_simp<;>with_reducible rfl);simp only [J0,J1,J2,J3,J4];apply tkV 3 hSU0 rfl (by kernel_rfl) (fun _ _ _ h=>h) rfl;intro w hSw;(go_simp<;>with_reducible rfl);simp only [J0,J1,J2,J3,J4];apply tkV 5 hSU0 rfl (by kernel_rfl) (fun _ _ _ h=>h) rfl;intro w hSw;(go_simp<;>with_reducible rfl);simp only [J0,J1,J2,J3,J4];apply tkV 6 hSU0 rfl (by kernel_rfl) (fun _ _ _ h=>h) rfl;intro w hSw;(go_simp<;>with_reducible rfl);simp only [J0,J1,J2,J3,J4];apply tkV 7 hSU0 rfl (by kernel_rfl) (fun _ _ _ h=>h) rfl;intro w hSw;(go_simp<;>with_reducible rfl);simp only [J0,J1,J2,J3,J4];apply tkV 8 hSU0 rfl (by kernel_rfl) (fun _ _ _ h=>h) rfl;intro w hSw;(go_simp<;>with_reducible rfl);simp only [J0,J1,J2,J3,J4];refine wpAnyU_ready (rs:=[4,9]) (by kernel_rfl) rfl ?_;refine AllReadyU.cons la4 rfl (fun K hK=>?_) ?_
  ·refine step_copy_s (w:=u0) (st:=26) (by kernel_rfl) Tryz.info_mem3 rfl (by decide) (by decide) (by rfl) _ _ (by rfl) (by rfl) (by rfl) (HOP.out _ HU0.out) (by rw [HRL.out]; omega) (base:=wb.heap.size) HU0.out.size ?_
   intro v4 u1 ho4 hg4;obtain ⟨A4,c4,e4⟩:=ho4.len;rw [HRL.out] at e4;subst e4;have HO1:=Lib.hid ho4;have HU1:Hid (Below wb.heap.size wb u1):=HU0.out.grown hg4 HU0.out.size (fun k hk=>by cases hk);clear ho4 hg4;refine hK.out _ _ ?_ fun hSU1=>?_;exact KS.out _ HU1.out;clear hK K hSU0;(try simp only [J0,J1,J2,J3,J4]);refine consU 9 rfl (by kernel_rfl) rfl fun K hK=>?_;go_simp;obtain ⟨u2,bI,hv,hXe,RL2,hbX,ltI⟩:=alloc_pack u1 (.cells #[.slice x.mA mw x.mc,.slice x.nA ml x.nc,.int .i64 y.m.tick] 33);rw [hv,hXe];have HU2:Hid (Below wb.heap.size wb u2):=below_then HU1.out hbX.out;have HO2:=Lib.hid (HO1.out.below hbX.out);clear hv hXe hbX ltI;refine hK.out _ _ ?_ fun hSU2=>?_;exact KS.out _ HU2.out;clear hK K hSU1;(try simp only [J0,J1,J2,J3,J4]);refine consU 10 rfl (by kernel_rfl) rfl fun K hK=>?_;refine step_append_s (w:=u2) 26 (by kernel_rfl) Tryz.info_mem3 rfl (by decide) (by decide) (by rfl) _ _ (by rfl) (by rfl) HO2.out ([.slice x.mA mw x.mc,.slice x.nA ml x.nc,.int .i64 y.m.tick]) rfl (by intro u hu; simp only [List.mem_cons,List.not_mem_nil,or_false] at hu; rcases hu with rfl | rfl | rfl <;> rfl) bI (by rfl) RL2.out (by rw [HRL.out]; omega) HU2.out.size ?_;intro v9 u3 ho9 hg9 hz9;obtain ⟨A9,c9,e9⟩:=ho9.len;rw [List.length_append,List.length_singleton,HRL.out] at e9;subst e9;have HO3:=Lib.hid ho9;have HU3:Hid (Below wb.heap.size wb u3):=HU2.out.grown hg9 HU2.out.size (fun k hk=>(HO2.out.lt k hk).1);clear ho9 hg9 hz9;refine hK.out _ _ ?_ fun hSU3=>?_;exact KS.out _ HU3.out;clear hK K hSU2;(try simp only [J0,J1,J2,J3,J4]);refine freeU 11 rfl (by kernel_rfl) rfl (by kernel_rfl) fun K hK=>?_;go_simp;refine hK.out _ _ ?_;clear hK K hSU3;(try simp only [J0,J1,J2,J3,J4]);refine wpAnyU_done (by kernel_rfl) ?_ _;go_wp2_with fail;go_meet;exact ⟨⟨A9,c9,rfl,HRP.out▸HO3.out⟩,HU3⟩
  refine AllReadyU.cons la9 rfl (fun K hK=>?_) ?_
  ·go_simp
   obtain ⟨u1,bI,hv,hXe,RL1,hbX,ltI⟩:=alloc_pack u0 (.cells #[.slice x.mA mw x.mc,.slice x.nA ml x.nc,.int .i64 y.m.tick] 33);rw [hv,hXe];have HU1:Hid (Below wb.heap.size wb u1):=below_then HU0.out hbX.out;clear hv hXe hbX ltI;refine hK.out _ _ ?_ fun hSU4=>?_;exact KS.out _ HU1.out;clear hK K hSU0;(try simp only [J0,J1,J2,J3,J4]);refine consU 4 rfl (by kernel_rfl) rfl fun K hK=>?_;refine step_copy_s (w:=u1) (st:=26) (by kernel_rfl) Tryz.info_mem3 rfl (by decide) (by decide) (by rfl) _ _ (by rfl) (by rfl) (by rfl) (HOP.out _ HU1.out) (by rw [HRL.out]; omega) (base:=wb.heap.size) HU1.out.size ?_;intro v4 u2 ho4 hg4;obtain ⟨A4,c4,e4⟩:=ho4.len;rw [HRL.out] at e4;subst e4;have HO2:=Lib.hid ho4;have HU2:Hid (Below wb.heap.size wb u2):=HU1.out.grown hg4 HU1.out.size (fun k hk=>by cases hk);have RL2:=Lib.hid ((hg4.block bI (ltR RL1) (by simp)).trans RL1.out);clear ho4 hg4;refine hK.out _ _ ?_ fun hSU5=>?_;exact KS.out _ HU2.out;clear hK K hSU4;(try simp only [J0,J1,J2,J3,J4]);refine consU 10 rfl (by kernel_rfl) rfl fun K hK=>?_;refine step_append_s (w:=u2) 26 (by kernel_rfl) Tryz.info_mem3 rfl (by decide) (by decide) (by rfl) _ _ (by rfl) (by rfl) HO2.out ([.slice x.mA mw x.mc,.slice x.nA ml x.nc,.int .i64 y.m.tick]) rfl (by intro u hu; simp only [List.mem_cons,List.not_mem_nil,or_false] at hu; rcases hu with rfl | rfl | rfl <;> rfl) bI (by rfl) RL2.out (by rw [HRL.out]; omega) HU2.out.size ?_;intro v9 u3 ho9 hg9 hz9;obtain ⟨A9,c9,e9⟩:=ho9.len;rw [List.length_append,List.length_singleton,HRL.out] at e9;subst e9;have HO3:=Lib.hid ho9;have HU3:Hid (Below wb.heap.size wb u3):=HU2.out.grown hg9 HU2.out.size (fun k hk=>(HO2.out.lt k hk).1);clear ho9 hg9 hz9;refine hK.out _ _ ?_ fun hSU6=>?_;exact KS.out _ HU3.out;clear hK K hSU5;(try simp only [J0,J1,J2,J3,J4]);refine freeU 11 rfl (by kernel_rfl) rfl (by kernel_rfl) fun K hK=>?_;go_simp;refine hK.out _ _ ?_;clear hK K hSU6;(try simp only [J0,J1,J2,J3,J4]);refine wpAnyU_done (by kernel_rfl) ?_ _;go_wp2_with fail;go_meet;exact ⟨⟨A9,c9,rfl,HRP.out▸HO3.out⟩,HU3⟩
  exact AllReadyU.nil
 case rest=>
  clear HOP KS HRL HRP;obtain ⟨hs8,HUE⟩:=hcut;obtain ⟨w5,rfl⟩:∃w9:World,w9=wc:=⟨_,rfl⟩;obtain ⟨A9,c9,rfl,ho9⟩:=hs8.out;obtain ⟨bl,cl9,he9,-,-,-⟩:=ho9.open (by rw [List.length_map,HPL.out]; omega);rw [List.length_map,HPL.out] at he9;simp only [Value.slice.injEq] at he9;obtain ⟨rfl,-,rfl⟩:=he9;have HOE:=Lib.hid ho9;have HL5:=Lib.hid (HL.out.next HUE.out);have hcv:=HL5.out.wi.confV;rw [HL5.out.ce] at hcv;unfold WV.vc WV.vs at hcv;have TT:=Lib.hid fun w' (hb:Below w5.heap.size w5 w')=>rtail_any _ c 0 w' (hcv.below hb) (Nat.zero_le _) HGC.out.1;have TH:=Lib.hid fun w' (hb:Below w5.heap.size w5 w')=>rheadW_any _ c 0 HGC.out.2 w' (hcv.below hb) HGC.out.1;rw [show c.base 0=0 from rfl] at TT TH;rw [Int.zero_add] at TH;have row0:=HL5.out.wi.row;unfold WV.rrow at row0;rw [HL5.out.ce] at row0;obtain ⟨x0,x1,x2,x3,x4,x5,x6,x7,x8⟩:=rowc9 row0;have hBl:=HL5.out.wi.lt;have X0:=ext_cell _ _ hBl _ x0;have X1:=ext_cell _ _ hBl _ x1;have X2:=ext_cell _ _ hBl _ x2;clear hs8 ho9 row0 x0 x1 x2 x3 x4 x5 x6 x7 x8 hcv;go_upto_region 5 with fail
  refine wp_region_ext w5 (by kernel_rfl) (by kernel_rfl) (Below.refl _ _) ?_
  repeat (go_big_quiet_step (first
   | (go_at_call 7; with_reducible exact calls_ext (TT.out _ (Ext.below _)))
   | (go_at_call 8; with_reducible exact calls_ext (TH.out _ (Ext.below _)))))
  refine wpQuiet_nil ?_;intro _ hw';obtain ⟨n9,rfl⟩:=hw';have HUM:Hid (Below wb.heap.size wb n9.wd):=below_then HUE.out n9.below;have HLM:=Lib.hid (HL5.out.next n9.below);have HOM:=Lib.hid (HOE.out.below n9.below);generalize n9.wd=wm at *;clear X0 X1 X2 TT TH HL5 HOE HUE HL hBl;go_wp2_with fail;go_loopw [47] (fun u47 wr=>∃(i:Nat),u47=.int .i64 i∧i≤T+1∧Hid (Below wm.heap.size wm wr)) (fun u47 _=>4202 - (intOf u47).toNat)
  case atStart=>exact ⟨0,rfl,by omega,Below.refl _ _⟩
  case round=>
   obtain ⟨i,rfl,hi,HBW⟩:=hrel;obtain ⟨wo,rfl⟩:∃wo:World,wo=wr:=⟨_,rfl⟩;by_cases hlt:i<T+1
   ·have hltI:(i:Int)<(T:Int)+1:=by omega
    have hltJ:(i:Int)<((T+1:Nat):Int):=by omega
    have HLo:=Lib.hid (HLM.out.next HBW.out);have HOo:=Lib.hid (HOM.out.below HBW.out);have HOFo:Hid (OffS (x.RS [some g] B) wb wo):=OffS.below (below_then HUM.out HBW.out);have hip:i<pl.length:=by rw [HPL.out]; exact hlt
    obtain ⟨kb1,ko1,kc1,la,ln,lc,ti,hkb1,q0,q1,q2,k0,k1,HSM⟩:=memAt HOo.out HST.out HOFo.out (fun z hz=>(HEV.out z hz).1) i hip;obtain ⟨he1,he2,he3,he4⟩:=HEV.out _ (List.getElem_mem hip);have TU:=Lib.hid fun w' (hb:Below wo.heap.size wo w') (vc vs:Value) (hv:ConfV w' (.agg #[vc,vs,.int .i64 c.threads]) c)=>used_any HGC.out.1 HGC.out.2 he2 he1 w' hv HSM.out (HOFo.out.trans1 (OffS.below hb));obtain ⟨un,hun⟩:∃un,restI (pl[i].2.words.getD 0 0 / 2) (pl[i].2.words.getD 1 0)=un:=⟨_,rfl⟩;obtain ⟨cb,hcb⟩:∃cb,closedB (pl[i].2.words.getD 0 0)=cb:=⟨_,rfl⟩;obtain ⟨nw1,hnw1⟩:∃nw1,pl[i].2.words.length=nw1:=⟨_,rfl⟩;have hcv:=HLo.out.wi.confV;rw [HLo.out.ce] at hcv;unfold WV.vc WV.vs at hcv;have HCV:=Lib.hid hcv;obtain ⟨kb,ko,kc,hke,-,hkb,hkc⟩:∃b off cap,(Value.slice x.cA c.caps.length x.cc)=.slice (some ⟨b,off,none⟩) c.caps.length cap∧c.caps.length≤cap∧b<wo.heap.size∧∀t,t<c.caps.length→wo.cell? ⟨b,off+t,none⟩=some (.int .i64 (c.caps.getD t 0)):=by
     have h1:=(HLo.out.wi.conf wo (OffS.self _ _)).1;rw [HLo.out.ce] at h1;unfold WV.vc at h1;exact h1.open (by intro e; have:=HGC.out.2; rw [e] at this; simp at this)
    have hk0:=hkc 0 (by have:=HGC.out.2; omega);rw [Nat.add_zero] at hk0;obtain ⟨cv,hcve⟩:∃cv,c.caps.getD 0 0=cv:=⟨_,rfl⟩;simp only [Value.slice.injEq] at hke;obtain ⟨hkA,-,hkC⟩:=hke;have hnk:(0:Int)<(c.caps.length:Int):=by have:=HGC.out.2; omega
    obtain ⟨nk,hnk2⟩:∃nk,c.caps.length=nk:=⟨_,rfl⟩;have row0:=HLo.out.wi.row;unfold WV.rrow at row0;rw [HLo.out.ce,hkA,hnk2] at row0;have TUc:=Lib.hid fun w' (hb:Below wo.heap.size wo w')=>TU.out w' hb _ _ (HCV.out.below hb);rw [hun,hcb,hnw1] at TUc;rw [hkA,hnk2] at TUc;rw [hnw1] at q0;rw [hcve] at hk0 he4;rw [hun] at he4;rw [hnk2] at hnk;have hle:¬cv<un:=by omega
    have hBl:=HLo.out.wi.lt;have hBl2:bl<wo.heap.size:=(HOo.out.lt bl rfl).2;obtain ⟨x0,x1,x2,x3,x4,x5,x6,x7,x8⟩:=rowc9 row0;have X0:=ext_cell _ _ hBl _ x0;have X1:=ext_cell _ _ hBl _ x1;have X2:=ext_cell _ _ hBl _ x2;have Q0:=ext_cell _ _ hBl2 _ q0;have Q1:=ext_cell _ _ hBl2 _ q1;have Q2:=ext_cell _ _ hBl2 _ q2;have HX0:Hid (wo.cell? ⟨B,0,none⟩=some (.slice (some ⟨kb,ko,none⟩) nk x.cc)):=x0;have HK0:Hid (wo.cell? ⟨kb,ko,none⟩=some (.int .i64 cv)):=hk0;have HKB:Hid (kb<wo.heap.size∧B<wo.heap.size):=⟨hkb,hBl⟩;clear x0 x1 x2 x3 x4 x5 x6 x7 x8 row0 q0 q1 q2 k0 k1 hkb hkc hkA hkC hcve hnk2 hcv hk0 TU hun hcb hnw1 he1 he2 he3 he4 hkb1 HSM;go_upto_region 9 with fail
    refine wp_region_ext wo (by kernel_rfl) (by kernel_rfl) (Below.refl _ _) ?_
    repeat (go_big_quiet_step (first
     | (go_at_call 9; with_reducible exact calls_ext (TUc.out _ (Ext.below _)))))
    refine wpQuiet_nil ?_;intro _ hw';obtain ⟨n9,rfl⟩:=hw';have HB9:Hid (Below wm.heap.size wm n9.wd):=below_then HBW.out n9.below;have c0:=(n9.below.cell (p:=⟨B,0,none⟩) HKB.out.2).trans HX0.out;have ck:=(n9.below.cell (p:=⟨kb,ko,none⟩) HKB.out.1).trans HK0.out;generalize n9.wd=w9 at *;clear X0 X1 X2 Q0 Q1 Q2 HLo HOo HOFo TUc hBl hBl2 HCV HX0 HK0 HKB;have hi42:i≤4200:=by omega
    by_cases hi0:i=0
    ·subst hi0
     go_wp2_with fail;go_roundw
     case rel=>exact ⟨1,by go_num,by omega,HB9⟩
     case measure=>simp [intOf]
    ·obtain ⟨j,rfl⟩:∃j,i=j+1:=⟨i - 1,by omega⟩
     have hjI:¬((j:Int)+1=0):=by omega
     have hjw:IntKind.i64.wrap ((j:Int)+1 - 1)=(j:Int):=by rw [IntKind.wrap_i64]; omega
     have hjw2:IntKind.i64.wrap (((j+1:Nat):Int) - 1)=(j:Int):=by rw [IntKind.wrap_i64]; omega
     have hjlt:(j:Int)<(T:Int)+1:=by omega
     have hjlt2:(j:Int)<((T+1:Nat):Int):=by omega
     have HOo:=Lib.hid (HOM.out.below HB9.out);have HOFo:Hid (OffS (x.RS [some g] B) wb w9):=OffS.below (below_then HUM.out HB9.out);have hjp:j<pl.length:=by omega
     obtain ⟨ab,ao,ac,la,ln,lc,ti,hab,q0,q1,q2,k0,k1,-⟩:=memAt HOo.out HST.out HOFo.out (fun z hz=>(HEV.out z hz).1) j hjp;obtain ⟨bb,bo,bc,la2,ln2,lc2,ti2,hbb,p0,p1,p2,m0,m1,-⟩:=memAt HOo.out HST.out HOFo.out (fun z hz=>(HEV.out z hz).1) (j+1) hip;obtain ⟨ha1,ha2,-,-⟩:=HEV.out _ (List.getElem_mem hjp);obtain ⟨hb1,hb2,-,-⟩:=HEV.out _ (List.getElem_mem hip);obtain ⟨f1,f2,f3⟩:=HPR.out j hjp hip;obtain ⟨ta,hta⟩:∃t,pl[j].2.words.getD 0 0=t:=⟨_,rfl⟩;obtain ⟨ha,hha⟩:∃t,pl[j].2.words.getD 1 0=t:=⟨_,rfl⟩;obtain ⟨tb,htb⟩:∃t,pl[j+1].2.words.getD 0 0=t:=⟨_,rfl⟩;obtain ⟨hb,hhb⟩:∃t,pl[j+1].2.words.getD 1 0=t:=⟨_,rfl⟩;obtain ⟨na,hna⟩:∃t,pl[j].2.words.length=t:=⟨_,rfl⟩;obtain ⟨nb,hnb⟩:∃t,pl[j+1].2.words.length=t:=⟨_,rfl⟩;rw [hta] at k0 ha2 f2 f3;rw [hha] at k1 f1;rw [htb] at m0 f2 f3;rw [hhb] at m1 f1;rw [hna] at q0 ha1;rw [hnb] at p0 hb1;obtain ⟨d1,hd1⟩:∃d,diffI hb ha=d:=⟨_,rfl⟩;obtain ⟨d2,hd2⟩:∃d,diffI (tb / 2) (ta / 2)=d:=⟨_,rfl⟩;obtain ⟨cb,hcb⟩:∃cb,closedB ta=cb:=⟨_,rfl⟩;have TD1:=Lib.hid fun w'=>(rdiff_any hb ha w').mono fun e w2 (h:e=.returned (.int .i64 (diffI hb ha))∧w'=w2)=>(⟨h.1,h.2▸Below.refl _ _⟩:e=.returned (.int .i64 (diffI hb ha))∧Below w'.heap.size w' w2);have TD2:=Lib.hid fun w'=>(rdiff_any (tb / 2) (ta / 2) w').mono fun e w2 (h:e=.returned (.int .i64 (diffI (tb / 2) (ta / 2)))∧w'=w2)=>(⟨h.1,h.2▸Below.refl _ _⟩:e=.returned (.int .i64 (diffI (tb / 2) (ta / 2)))∧Below w'.heap.size w' w2);have TS1:=Lib.hid fun w'=>(rseq1_any tb w').mono fun e w2 (h:e=.returned (.int .u64 (tb / 2))∧w'=w2)=>(⟨h.1,h.2▸Below.refl _ _⟩:e=.returned (.int .u64 (tb / 2))∧Below w'.heap.size w' w2);have TS2:=Lib.hid fun w'=>(rseq1_any ta w').mono fun e w2 (h:e=.returned (.int .u64 (ta / 2))∧w'=w2)=>(⟨h.1,h.2▸Below.refl _ _⟩:e=.returned (.int .u64 (ta / 2))∧Below w'.heap.size w' w2);have TC:=Lib.hid fun w'=>(rclosed1_any ta w' ha2.1 ha2.2).mono fun e w2 (h:e=.returned (.bool (closedB ta))∧w'=w2)=>(⟨h.1,h.2▸Below.refl _ _⟩:e=.returned (.bool (closedB ta))∧Below w'.heap.size w' w2);rw [hd1] at TD1 f1
     rw [hd2] at TD2 f2;rw [hcb] at TC f3;obtain ⟨t2a,ht2a⟩:∃t,ta / 2=t:=⟨_,rfl⟩;obtain ⟨t2b,ht2b⟩:∃t,tb / 2=t:=⟨_,rfl⟩;rw [ht2a] at TS2 TD2;rw [ht2b] at TS1 TD2;have f1':¬d1<0:=by omega
     have f2':¬d2<0:=by omega
     have hna0:(0:Int)<(na:Int):=by omega
     have hna1:(1:Int)<(na:Int):=by omega
     have hnb0:(0:Int)<(nb:Int):=by omega
     have hnb1:(1:Int)<(nb:Int):=by omega
     have F3:=Lib.hid f3;have HT2:Hid (tb=ta→t2b=t2a):=fun h=>by rw [← ht2a,← ht2b,h]
     clear hta hha htb hhb hna hnb hd1 hd2 hcb ht2a ht2b ha1 ha2 hb1 hb2 f1 f2 f3 q1 q2 p1 p2;go_upto_region 13 with fail
     clear c0 ck hle hnk;have hBl2:bl<w9.heap.size:=(HOo.out.lt bl rfl).2;have Q0:=ext_cell _ _ hBl2 _ q0;have P0:=ext_cell _ _ hBl2 _ p0;have K0:=ext_cell _ _ hab _ k0;have K1:=ext_cell _ _ hab _ k1;have M0:=ext_cell _ _ hbb _ m0;have M1:=ext_cell _ _ hbb _ m1;clear q0 p0 k0 k1 m0 m1 HOo HOFo;refine wp_region_ext w9 (by kernel_rfl) (by kernel_rfl) (Below.refl _ _) ?_
     repeat (go_big_quiet_step (fail))
     refine wpQuiet_nil ?_;intro _ hw';obtain ⟨n9,rfl⟩:=hw';have HB10:Hid (Below wm.heap.size wm n9.wd):=below_then HB9.out n9.below;have hab1:=Nat.lt_of_lt_of_le hab n9.below.size;have hbb1:=Nat.lt_of_lt_of_le hbb n9.below.size;have k0:=K0 n9;have k1:=K1 n9;have m0:=M0 n9;have m1:=M1 n9;generalize n9.wd=w10 at *;clear Q0 P0 K0 K1 M0 M1 HB9 hBl2 hab hbb;have K0:=ext_cell _ _ hab1 _ k0;have K1:=ext_cell _ _ hab1 _ k1;have M0:=ext_cell _ _ hbb1 _ m0;have M1:=ext_cell _ _ hbb1 _ m1;clear k0 k1 m0 m1;go_upto_region 14 with fail
     have hdd1:decide (d1<0)=false:=decide_eq_false (by omega);have hdd2:decide (d2<0)=false:=decide_eq_false (by omega);clear f1' f2';cases cb with
     | true=>
      have hta:=F3.out rfl;have hta2:=HT2.out hta;subst hta;subst hta2;refine wp_region_ext w10 (by kernel_rfl) (by kernel_rfl) (Below.refl _ _) ?_
      repeat (go_big_quiet_step (first
       | (go_at_call 10; with_reducible exact calls_ext (TD1.out _))
       | (go_at_call 10; with_reducible exact calls_ext (TD2.out _))
       | (go_at_call 11; with_reducible exact calls_ext (TS1.out _))
       | (go_at_call 11; with_reducible exact calls_ext (TS2.out _))
       | (go_at_call 12; with_reducible exact calls_ext (TC.out _))))
      refine wpQuiet_nil ?_;intro _ hw';obtain ⟨n9,rfl⟩:=hw';have HB11:Hid (Below wm.heap.size wm n9.wd):=below_then HB10.out n9.below;generalize n9.wd=w11 at *;clear K0 K1 M0 M1 TD1 TD2 TS1 TS2 TC HB10 hab1 hbb1;go_wp2_with fail;go_roundw
      case rel=>exact ⟨j+2,by go_num,by omega,HB11⟩
      case measure=>simp [intOf]; omega
     | false=>
      refine wp_region_ext w10 (by kernel_rfl) (by kernel_rfl) (Below.refl _ _) ?_
      repeat (go_big_quiet_step (first
       | (go_at_call 10; with_reducible exact calls_ext (TD1.out _))
       | (go_at_call 10; with_reducible exact calls_ext (TD2.out _))
       | (go_at_call 11; with_reducible exact calls_ext (TS1.out _))
       | (go_at_call 11; with_reducible exact calls_ext (TS2.out _))
       | (go_at_call 12; with_reducible exact calls_ext (TC.out _))))
      refine wpQuiet_nil ?_;intro _ hw';obtain ⟨n9,rfl⟩:=hw';have HB11:Hid (Below wm.heap.size wm n9.wd):=below_then HB10.out n9.below;generalize n9.wd=w11 at *;clear K0 K1 M0 M1 TD1 TD2 TS1 TS2 TC HB10 hab1 hbb1;go_wp2_with fail;go_roundw
      case rel=>exact ⟨j+2,by go_num,by omega,HB11⟩
      case measure=>simp [intOf]; omega
   ·have hge:¬(i:Int)<(T:Int)+1:=by omega
    have hge2:¬(i:Int)<((T+1:Nat):Int):=by omega
    have HBF:=Lib.hid (below_then HBA.out (HLM.out.next HBW.out).wi.below);go_wp2_with fail;go_ret;exact ⟨rfl,HBF.out⟩
set_option maxRecDepth 100000 in
theorem lifted (os:Os) (started:os.Started) (H:Type) (enc:TypeId × Value→H) :
  ReturnsInHanded {} Tryz.checked os 3 .any (Rows.ringRoomSpec.pre6 enc Tryz.prog Tryz.f3 Rows.ringRoomRow.domain false) (Rows.ringRoomSpec.post enc Tryz.prog Tryz.f3 false true false false):=by
 refine returnsInHanded_of_change_sized (C:=Tryz.checked) own started (by kernel_rfl) Tryz.func3
  (ChangeSpec.witness6 (enc:=enc) (C:=Tryz.checked) false ⟨#[],#[.slice none 0 0,.slice none 0 0,.int .u8 0],[]⟩ 8 (by kernel_rfl) (by kernel_rfl) (by kernel_rfl) (by kernel_rfl)) ?_
 intro W base args ds gs before hval0 hW _ hsz0 _;have hsz:(DataW.weightsEach Tryz.prog (Tryz.f3.params.toList ++ Rows.ringRoomSpec.plain.varTypes Tryz.prog) (ds ++ gs)).all (·≤reachBytes)=true:=hsz0;clear hsz0;have hval:∀(j:Nat) t v,Tryz.f3.params[j]?=some t→args[j]?=some v→Value.okWide Tryz.prog W .any base t v:=hval0;have hW':=hW;obtain ⟨p,q,hA0,hV,rfl,_,_⟩:=hW;have hA:DataW.TrodAll enc Tryz.prog W 0 (fun _=>true) true Tryz.f3.params.toList args.toList ds p:=hA0;rw [Tryz.params3] at hA hval hsz;obtain ⟨v0,vs0,d0,ds0,p0,q0,hargs,rfl,rfl,h0,r0⟩:=trodAll_cons hA;obtain ⟨v1,vs1,d1,ds1,p1,q1,rfl,rfl,rfl,h1,r1⟩:=trodAll_cons r0;obtain ⟨v2,vs2,d2,ds2,p2,q2,rfl,rfl,rfl,h2,r2⟩:=trodAll_cons r1;obtain ⟨rfl,rfl,rfl⟩:=trodAll_nil r2;obtain rfl:args=#[v0,v1,v2]:=by cases args; simp_all
 obtain ⟨rfl,rfl⟩:=trodVars_none hV;have k0:=h0;have k1:=h1;have k2:=h2;obtain ⟨l0,s0⟩:=view_sl (k:=.u8) Tryz.underlying22 Tryz.underlying5 (by kernel_rfl) (fun elems sp hd=>sized_slice hsz (j:=0) (t:=22) (e:=5) rfl (by rw [hd]; rfl) Tryz.underlying22) (of_decide_eq_true (by kernel_rfl)) (hval 0 22 v0 rfl rfl) h0;obtain ⟨l1,s1⟩:=view_sl (k:=.u8) Tryz.underlying22 Tryz.underlying5 (by kernel_rfl) (fun elems sp hd=>sized_slice hsz (j:=1) (t:=22) (e:=5) rfl (by rw [hd]; rfl) Tryz.underlying22) (of_decide_eq_true (by kernel_rfl)) (hval 1 22 v1 rfl rfl) h1;obtain ⟨a2,rfl,-,-,w2⟩:=open_int Tryz.underlying5 (hval 2 5 v2 rfl rfl) h2;clear hA0 hval0;simp only [List.append_nil] at hW';have hlt:=hW'.lt;refine (walk W v0 l0 s0 v1 l1 s1 a2 w2).mono fun e W' ⟨he,hb⟩=>?_;subst he;exact ⟨_,rfl,_,_,_,[],_,[],hW',trodAll_cons_mk (shut_bool Tryz.underlying4 _) trodAll_mk0,(trodAll_cons_mk (Below.trod Tryz.laidOut (by kernel_rfl) (of_decide_eq_true (by kernel_rfl)) k0 hb (fun x hx=>by simpa using hlt x (by simp [hx]))) (trodAll_cons_mk (Below.trod Tryz.laidOut (by kernel_rfl) (of_decide_eq_true (by kernel_rfl)) k1 hb (fun x hx=>by simpa using hlt x (by simp [hx]))) (trodAll_cons_mk (Below.trod Tryz.laidOut (by kernel_rfl) (of_decide_eq_true (by kernel_rfl)) k2 hb (fun x hx=>by simpa using hlt x (by simp [hx]))) trodAll_mk0))),rfl,hb.frame _,fun h=>by cases h⟩
theorem over:Rows.ringRoomRow.holds Tryz.pinned (OpenSpec.ofChange Rows.ringRoomSpec):=
 OpenClaim.holds_of_wide 3 Tryz.f3 rfl rfl rfl rfl rfl rfl rfl ⟨rfl,rfl,rfl,rfl,rfl⟩ rfl rfl rfl rfl rfl (by kernel_rfl) Tryz.func3 (by kernel_rfl)
  (of_decide_eq_true (by kernel_rfl)) (by unfold Func.isWrapper; first | (rw [if_pos (by decide +kernel)]; kernel_rfl) | (rw [if_neg (by decide +kernel)]; exact ⟨rfl,rfl⟩))
  (fun os started H enc _=>lifted os started H enc)
theorem proved:Rows.RingRoomSaid:=
 over
end Go.Proofs.YtjnlkemdaffgbaaGreat.ringRoom
