
import Derived.Test.YtjnlkemdaffgbaaGreatB19
import Derived.Test.YtjnlkemdaffgbaaGreatB25
import Derived.Test.YtjnlkemdaffgbaaGreatB24
set_option linter.unusedVariables false
set_option linter.unusedSimpArgs false
namespace Go.Proofs.YtjnlkemdaffgbaaGreat
open Go.ChangeShapes Go.WideShapes Go.ChangeAt Go.RowKit
set_option maxRecDepth 100000
theorem WI.notIn {WT:TypeId} {w0 w:World} {E:List (Option Nat)} {B D:Nat} {x:WV} {y:WM} (h:WI WT w0 w E B D x y) {K:Nat} {cs:Array Value} {T:TypeId} (hK:w.heap[K]?=some (.cells cs T (0,0))) (hE:some K ∉ E) (hB:K≠B) (h1:T≠81) (h2:T≠58) (h3:T≠33) (h4:T≠51):some K ∉ x.S E B:=by
 have k:∀{a:Option Addr} {n c:Nat} {e:TypeId} {s:Nat} {r:List (List Value)},OwnS w D e s (.slice a n c) r→T≠e→some K=addrB a→False:=fun ho he e=>by
  rcases ho.2.2 with ⟨hv,_⟩ | ⟨b,cap,cur,hv,_,hb,_⟩
  ·simp only [Value.slice.injEq] at hv
   rw [hv.1] at e;cases e
  ·simp only [Value.slice.injEq] at hv
   rw [hv.1] at e;simp only [addrB,Option.map_some,Option.some.injEq] at e;rw [e,hb] at hK;simp at hK;exact he hK.2.symm
 intro hm;simp only [WV.S,List.mem_append,List.mem_cons,List.not_mem_nil,or_false,Option.some.injEq] at hm;rcases hm with e | e | e | e | e | e
 ·exact hE e
 ·exact hB e
 ·exact k h.ol h1 e
 ·exact k h.ot h2 e
 ·exact k h.op h3 e
 ·exact k h.of h4 e
structure AL (w0 wr:World) (E:List (Option Nat)) (B:Nat) (x:WV) (y:WM) (c:ConfM) (n q:Nat):Prop where
 wi:WI 66 w0 wr E B (B+1) x y
 fr:FrI PuR (OffS (x.S E B) wr) y
 ce:y.c=c
 ks:∀m∈y.l,rgK y.c m∧aK m
 len:y.l.length=n
 small:y.t.length≤q∧y.p.length≤q
 one:1≤c.caps.length
theorem al_add {w0 w:World} {E:List (Option Nat)} {B:Nat} {x:WV} {y:WM} {c:ConfM} {n q:Nat} (h:AL w0 w E B x y c n q) (hn:n≤100) (what v:Int) (hw:what=3∨what=6) (hv:U64 v) :
  Calls Tryz.prog 16 #[.pointer (some ⟨B,0,none⟩),.int .i64 what,.int .i64 0,.int .i64 0,.int .u64 v] w fun e w'=>∃x2 y2,e=.returned (.tuple #[])∧Hid (AL w0 w' E B x2 y2 c (n+1) q)∧y2.m=y.m∧y2.l=y.l ++ [⟨what,1,0,0,v % 4,v % 8,v,0,0,0,0⟩]∧Hid (OffS (x.S E B) w w'):=by
 have key:∀e w',AddQ PuR w0 w E B (B+1) x y ⟨what,1,0,0,v % 4,v % 8,v,0,0,0,0⟩ e w'→∃x2 y2,e=.returned (.tuple #[])∧Hid (AL w0 w' E B x2 y2 c (n+1) q)∧y2.m=y.m∧y2.l=y.l ++ [⟨what,1,0,0,v % 4,v % 8,v,0,0,0,0⟩]∧Hid (OffS (x.S E B) w w'):=by
  rintro e w' ⟨x2,f2,rfl,h1,h2,-,h3⟩;refine ⟨x2,_,rfl,⟨h1.out,h2.out,h.ce,fun m hm=>?_,by show (y.l ++ [_]).length=_; rw [List.length_append,h.len]; rfl,h.small,h.one⟩,rfl,rfl,Lib.hid (h3.out _ (OffS.self _ _))⟩;have hm':m∈y.l ++ [⟨what,1,0,0,v % 4,v % 8,v,0,0,0,0⟩]:=hm;rw [List.mem_append,List.mem_singleton] at hm';rcases hm' with hm' | rfl
  ·exact h.ks m hm'
  ·exact ⟨rgK_new y.c what 0 0 v (by omega) (by rw [h.ce]; exact h.one) hv,by rcases hw with rfl | rfl <;> simp [aK]⟩
 by_cases hw4:what=6
 ·subst hw4
  exact (wadd_own pu_sim h.wi h.fr 6 0 0 v rfl hv.1 (pu_starts h.wi.good 0 0 v hv (by rw [h.ce]; exact h.one) _ _ _ _) (by have:=h.len; omega)).mono key
 ·exact (wadd_not pu_sim h.wi h.fr what 0 0 v (by unfold ownM; simpa using hw4) hv.1 (by have:=h.len; omega)).mono key
theorem stepE_length (c:ConfM) (m:MemM) (l:List MachM) (i:Nat):(stepE rgNE rgRE c m l i).2.length=l.length:=by
 unfold stepE;split
 ·rfl
 ·split
  ·rfl
  ·split
   ·simp
   ·rfl
def goB (c:ConfM) (m:MemM) (l:List MachM) (i:Nat):Bool:=match l[i]? with
 | none=>false
 | some k=>(k.pl == 0) || ((applyE m (rgNE c k)).2.2 && okB c k (applyE m (rgNE c k)).2.1)
theorem al_stepE {w0 w:World} {E:List (Option Nat)} {B:Nat} {x:WV} {y:WM} {c:ConfM} {n q:Nat} (h:AL w0 w E B x y c n q) (hn:n≤200) (hq:q≤1000) (i:Nat) (hi:i<n) {s:MemM × List MachM} (hs:(y.m,y.l)=s) (hA:goB c s.1 s.2 i=true) :
  Calls Tryz.prog 17 #[.pointer (some ⟨B,0,none⟩),.int .i64 i] w fun e w'=>∃x2 y2,e=.returned (.bool true)∧Hid (AL w0 w' E B x2 y2 c n (q+1))∧(y2.m,y2.l)=stepE rgNE rgRE c y.m y.l i∧Hid (OffS (x.S E B) w w'):=by
 subst hs;have hil:i<y.l.length:=by rw [h.len]; omega
 unfold goB at hA;simp only [List.getElem?_eq_getElem hil,Bool.or_eq_true,Bool.and_eq_true,beq_iff_eq] at hA;have key:(∀m∈(stepE rgNE rgRE c y.m y.l i).2,rgK c m∧aK m)→∀e w',StepW rgNE rgRE PuR w0 w E B (B+1) x y i e w'→∃x2 y2,e=.returned (.bool true)∧Hid (AL w0 w' E B x2 y2 c n (q+1))∧(y2.m,y2.l)=stepE rgNE rgRE c y.m y.l i∧Hid (OffS (x.S E B) w w'):=by
  rintro hall e w' ⟨x2,y2,rfl,h1,h2,h3,h4⟩;have hm:=h3.out.m;have hL:=h3.out.l;rw [h.ce] at hm hL;exact ⟨x2,y2,rfl,⟨h1.out,h2.out,h3.out.c.trans h.ce,by rw [h3.out.c,h.ce,hL]; exact hall,by rw [hL,stepE_length,h.len],⟨by have:=h3.out.t; have:=h.small; omega,by have:=h3.out.p; have:=h.small; omega⟩,h.one⟩,by rw [hm,hL],Lib.hid (h4.out _ (OffS.self _ _))⟩
 have hks:=h.ks;rw [h.ce] at hks;by_cases hp:y.l[i].pl=0
 ·refine (wstepL_end pu_sim rg_doc h.wi h.fr h.ks i hil (by rw [h.len]; omega) _ rfl hp).mono (key ?_)
  unfold stepE;simp only [List.getElem?_eq_getElem hil,if_pos hp];exact hks
 ·obtain ⟨hA2,hA3⟩:=hA.resolve_left hp
  have hgr:=hA2;have hA4:=hA3;rw [← h.ce] at hA2 hA3;refine (wstepL_yes pu_sim rg_doc h.wi h.fr h.ks i hil (by rw [h.len]; omega) _ rfl hp hA2 (by have:=h.small; omega) (by have:=h.small; omega) hA3).mono (key ?_);have hbv:U64 (applyE y.m (rgNE c y.l[i])).2.1.val:=applyE_val h.wi.fits _;unfold stepE;simp only [List.getElem?_eq_getElem hil,if_neg hp,if_pos hgr];intro m hm;rcases List.mem_or_eq_of_mem_set hm with h5 | rfl
  ·exact hks m h5
  ·exact rg_doc.stays c y.l[i] _ (hks _ (List.getElem_mem hil)) hbv hA4
theorem AL.next {w0 w w':World} {E:List (Option Nat)} {B:Nat} {x:WV} {y:WM} {c:ConfM} {n q:Nat} (h:AL w0 w E B x y c n q) (hb:Below w.heap.size w w'):AL w0 w' E B x y c n q:=
 ⟨h.wi.next hb,h.fr.sub pu_sim fun w3 h3=>(OffS.below hb).trans1 h3,h.ce,h.ks,h.len,h.small,h.one⟩
theorem AL.le {w0 w:World} {E:List (Option Nat)} {B:Nat} {x:WV} {y:WM} {c:ConfM} {n q q2:Nat} (h:AL w0 w E B x y c n q) (hq:q≤q2):AL w0 w E B x y c n q2:=
 ⟨h.wi,h.fr,h.ce,h.ks,h.len,⟨by have:=h.small.1; omega,by have:=h.small.2; omega⟩,h.one⟩
theorem AL.ends {w0 w:World} {E:List (Option Nat)} {B:Nat} {x:WV} {y:WM} {c:ConfM} {n q:Nat} (h:AL w0 w E B x y c n q) (i:Nat) (m:MachM) (hm:y.l[i]?=some m) (ho:ownM m=true) :
  ∃fl fc r0 r1 s2 k2 l2 s3 k3 l3 s4 k4 l4,i<n∧fl<w.heap.size∧B<w.heap.size∧w.cell? ⟨B,9,none⟩=some (.slice (some ⟨fl,0,none⟩) n fc)∧w.cell? ⟨fl,i * 5,none⟩=some (.int .i64 r0)∧w.cell? ⟨fl,i * 5+1,none⟩=some (.int .i64 r1)∧w.cell? ⟨fl,i * 5+2,none⟩=some (.slice s2 k2 l2)∧w.cell? ⟨fl,i * 5+3,none⟩=some (.slice s3 k3 l3)∧w.cell? ⟨fl,i * 5+4,none⟩=some (.slice s4 k4 l4)
   ∧Hid (∀w',Below w.heap.size w w'→Calls Tryz.prog 18 #[.agg #[.int .i64 r0,.int .i64 r1,.slice s2 k2 l2,.slice s3 k3 l3,.slice s4 k4 l4]] w' fun e w2=>e=.returned (.tuple #[.agg #[.int .i64 m.ok,.int .u64 m.ov],.bool (m.pl == 0)])∧Below w'.heap.size w' w2):=by
 obtain ⟨hi,hmi⟩:=List.getElem?_eq_some_iff.1 hm;have hif:i<y.f.length:=by rw [h.fr.1]; exact hi
 have hR:=h.fr.2 i hif hi;rw [hmi] at hR;obtain ⟨fl,fc,hvf,hfA,hfc,hfl,hfls,hfcap,FG,-⟩:=h.wi.frameAt i hif;obtain ⟨r0,r1,s2,k2,l2,s3,k3,l3,s4,k4,l4,he⟩:=pu_sim.form hR ho;rw [he] at FG hR;have row0:=h.wi.row;have hf3:y.f.length=n:=by rw [h.fr.1,h.len]
 unfold WV.row at row0;rw [hfA,hfc,hf3] at row0;obtain ⟨f0,f1,f2,f3,f4⟩:=range5 FG;exact ⟨fl,fc,r0,r1,s2,k2,l2,s3,k3,l3,s4,k4,l4,by rw [← h.len]; exact hi,hfls,h.wi.lt,(rowc10 row0).2.2.2.2.2.2.2.2.2,f0,f1,f2,f3,f4,Lib.hid fun w' hb=>pu_sim.ends w' (OffS.below hb) hR ho⟩
theorem run_next {c:ConfM} {s:MemM × List MachM} {y y2:WM} {is:List Nat} {i:Nat} (h:(y.m,y.l)=runE rgNE rgRE c s is) (h2:(y2.m,y2.l)=stepE rgNE rgRE c y.m y.l i):(y2.m,y2.l)=runE rgNE rgRE c s (is ++ [i]):=by
 rw [runE_snoc,← h]; exact h2
theorem run_rep {c:ConfM} {s:MemM × List MachM} {y y2:WM} {j i:Nat} (h:(y.m,y.l)=runE rgNE rgRE c s (List.replicate j i)) (h2:(y2.m,y2.l)=stepE rgNE rgRE c y.m y.l i):(y2.m,y2.l)=runE rgNE rgRE c s (List.replicate (j+1) i):=by
 rw [List.replicate_succ']; exact run_next h h2
theorem SlI.offN {w w2:World} {k:IntKind} {v:Value} {l:List Int} (h:SlI w k v l) (h2:OffS [] w w2):SlI w2 k v l:=by
 have hb:Below w.heap.size w { w with heap:=w2.heap }:=⟨rfl,rfl,rfl,h2.1,fun j hj=>h2.2 j hj (by simp)⟩;exact (h.below hb).heapEq (w:={ w with heap:=w2.heap }) rfl
theorem runE_nil (c:ConfM) (s:MemM × List MachM):runE rgNE rgRE c s []=s:=rfl
def awA:MemM × List MachM:=runE rgNE rgRE oneC (newE oneC,[⟨3,1,0,0,1,5,5,0,0,0,0⟩,⟨6,1,0,0,0,0,0,0,0,0,0⟩]) (List.replicate 7 0)
def awB:MemM × List MachM:=runE rgNE rgRE oneC awA [1,1,1]
theorem awB_1:awB.2[1]?=some ⟨6,0,0,0,0,0,0,2,0,9,1⟩:=by kernel_rfl
theorem awOk (j:Nat) (hj:j<7):goB oneC (runE rgNE rgRE oneC (newE oneC,[⟨3,1,0,0,1,5,5,0,0,0,0⟩,⟨6,1,0,0,0,0,0,0,0,0,0⟩]) (List.replicate j 0)).1 (runE rgNE rgRE oneC (newE oneC,[⟨3,1,0,0,1,5,5,0,0,0,0⟩,⟨6,1,0,0,0,0,0,0,0,0,0⟩]) (List.replicate j 0)).2 0=true:=by
 have h:j=0∨j=1∨j=2∨j=3∨j=4∨j=5∨j=6:=by omega
 rcases h with rfl | rfl | rfl | rfl | rfl | rfl | rfl
 all_goals (clear hj; show _=true; kernel_rfl)
theorem awOk1:goB oneC (runE rgNE rgRE oneC awA []).1 (runE rgNE rgRE oneC awA []).2 1=true:=by kernel_rfl
theorem awOk2:goB oneC (runE rgNE rgRE oneC awA ([] ++ [1])).1 (runE rgNE rgRE oneC awA ([] ++ [1])).2 1=true:=by kernel_rfl
theorem awOk3:goB oneC (runE rgNE rgRE oneC awA ([] ++ [1] ++ [1])).1 (runE rgNE rgRE oneC awA ([] ++ [1] ++ [1])).2 1=true:=by kernel_rfl
set_option maxRecDepth 100000 in
set_option maxHeartbeats 16000000 in
theorem awake8_any (w:World):Calls Tryz.prog 5 #[] w fun e w'=>e=.returned (.bool true)∧Below w.heap.size w w':=by
 go_enter Tryz.func5,Tryz.ntmps5;go_wp2_with fail;refine (one_any _).mono ?_; rintro e wa ⟨a,a2,rfl,hcv,hba⟩;have HCV:=Lib.hid hcv;have HBA:=Lib.hid hba;clear hcv hba;go_wp2_with fail;refine (begin_any a a2 1 1 oneC _ HCV.out oneC_good).mono ?_; rintro e wd ⟨m1,n1,m2,n2,rfl,HM,HBD⟩;have HSC:Hid (∀w2,OffS [] wa w2→SlI w2 .i64 (.slice a oneC.caps.length 1) oneC.caps∧SlI w2 .u64 (.slice a2 oneC.starts.length 1) oneC.starts):=fun w2 h2=>by
  obtain ⟨vc,vs,e,h3,h4⟩:=HCV.out;simp only [Value.agg.injEq,Array.mk.injEq,List.cons.injEq] at e;obtain ⟨rfl,rfl,-⟩:=e;exact ⟨h3.offN h2,h4.offN h2⟩
 have HI0:=Lib.hid (WI.start (WT:=66) (w0:=w) (E:=[]) oneC_good (fun j hj=>by cases hj) HSC.out HBD.out HM.out HBA.out);have hBw:Hid (w.heap.size≤wd.heap.size):=by have h1:=HBA.out.size; have h2:=HBD.out.size; show _≤_; omega
 have HDB:Hid (Below w.heap.size w wd):=below_then HBA.out HBD.out;clear HM HBD HSC HCV HBA;obtain ⟨B,hB⟩:∃B,wd.heap.size=B:=⟨_,rfl⟩;rw [hB] at HI0 hBw;go_wp2_with fail;try rw [hB]
 clear hB;obtain ⟨w1,hw1⟩:∃w1,wd.alloc (.cells #[.slice a oneC.caps.length 1,.slice a2 oneC.starts.length 1,.int .i64 oneC.threads,.slice m1 (newE oneC).words.length n1,.slice m2 (newE oneC).lists.length n2,.int .i64 (newE oneC).tick,.slice none 0 0,.slice none 0 0,.slice none 0 0,.slice none 0 0] 66)=w1:=⟨_,rfl⟩;rw [hw1] at HI0;rw [hw1];clear hw1 HDB;have HA1:Hid (AL w w1 [] B _ _ oneC 0 0):=⟨HI0.out,⟨rfl,fun i h1 _=>by simp at h1⟩,rfl,(fun m hm=>absurd hm (by simp)),rfl,⟨Nat.le_refl _,Nat.le_refl _⟩,by decide⟩;clear HI0;have TA:=Lib.hid (al_add HA1.out (by omega) 3 5 (.inl rfl) ⟨by omega,by omega⟩);clear HA1;go_wp2_with fail;refine TA.out.mono ?_;rintro e w2 ⟨x2,y2,rfl,HA2,hm2,hl2,-⟩;have E2:Hid (y2.m=newE oneC∧y2.l=[⟨3,1,0,0,1,5,5,0,0,0,0⟩]):=⟨hm2,hl2⟩;clear hm2 hl2 TA;have TA:=Lib.hid (al_add HA2.out (by omega) 6 0 (.inr rfl) U64.zero);clear HA2;go_wp2_with fail;refine TA.out.mono ?_;rintro e w3 ⟨x3,y3,rfl,HA3,hm3,hl3,-⟩;have E3:Hid ((y3.m,y3.l)=runE rgNE rgRE oneC (newE oneC,[⟨3,1,0,0,1,5,5,0,0,0,0⟩,⟨6,1,0,0,0,0,0,0,0,0,0⟩]) (List.replicate 0 0)):=by
  show (y3.m,y3.l)=(newE oneC,[⟨3,1,0,0,1,5,5,0,0,0,0⟩,⟨6,1,0,0,0,0,0,0,0,0,0⟩]);rw [hm3,hl3,E2.out.1,E2.out.2]; rfl
 clear hm3 hl3 TA E2;go_wp2_with fail;go_loopw [3,2] (fun u3 u2 wr=>∃(j:Nat) (x:WV) (y:WM),u3=.int .i64 j∧u2=.bool true∧j≤7∧Hid (AL w wr [] B x y oneC 2 (0+j))∧Hid ((y.m,y.l)=runE rgNE rgRE oneC (newE oneC,[⟨3,1,0,0,1,5,5,0,0,0,0⟩,⟨6,1,0,0,0,0,0,0,0,0,0⟩]) (List.replicate j 0))) (fun u3 _ _=>8 - (intOf u3).toNat)
 case atStart=>exact ⟨0,x3,y3,rfl,rfl,by omega,HA3,E3⟩
 case round=>
  clear HA3 E3;obtain ⟨j,x,y,rfl,rfl,hj,HAj,HEj⟩:=hrel;obtain ⟨wo,rfl⟩:∃wo:World,wo=wr:=⟨_,rfl⟩;by_cases hlt:j<7
  ·have hltI:(j:Int)<7:=by omega
   have TS:=Lib.hid (al_stepE HAj.out (by omega) (by omega) 0 (by omega) HEj.out (awOk j hlt));go_wp2_with fail;refine TS.out.mono ?_;rintro e w9 ⟨x9,y9,rfl,HA9,he,-⟩;have HE9:=Lib.hid (run_rep HEj.out he);clear he TS HAj HEj;go_wp2_with fail;go_roundw
   case rel=>exact ⟨j+1,x9,y9,by go_num,rfl,by omega,HA9,HE9⟩
   case measure=>simp [intOf]; omega
  ·have hj7:j=7:=by omega
   subst hj7;have EA0:Hid ((y.m,y.l)=awA):=HEj.out;have E3:Hid ((y.m,y.l)=runE rgNE rgRE oneC awA []):=by show _=_; rw [runE_nil]; exact EA0.out
   clear EA0;clear HEj;have HA3:=HAj;clear HAj;have TS:=Lib.hid (al_stepE HA3.out (by omega) (by omega) 1 (by omega) E3.out awOk1);clear HA3;go_wp2_with fail;refine TS.out.mono ?_;rintro e w4 ⟨x4,y4,rfl,HA4,he,-⟩;have E4:=Lib.hid (run_next E3.out he);clear he TS E3;have TS:=Lib.hid (al_stepE HA4.out (by omega) (by omega) 1 (by omega) E4.out awOk2);clear HA4;go_wp2_with fail;refine TS.out.mono ?_;rintro e w5 ⟨x5,y5,rfl,HA5,he,-⟩;have E5:=Lib.hid (run_next E4.out he);clear he TS E4;have TS:=Lib.hid (al_stepE HA5.out (by omega) (by omega) 1 (by omega) E5.out awOk3);clear HA5;go_wp2_with fail;refine TS.out.mono ?_;rintro e w6 ⟨x6,y6,rfl,HA6,he,-⟩;have E6:=Lib.hid (run_next E5.out he);clear he TS E5;have EA:Hid ((y6.m,y6.l)=awB):=E6.out;have hm0:y6.l[1]?=some ⟨6,0,0,0,0,0,0,2,0,9,1⟩:=by rw [show y6.l=awB.2 from congrArg Prod.snd EA.out]; exact awB_1
   have HM0:=Lib.hid hm0;clear hm0 E6 EA;obtain ⟨fl,fc,r0,r1,s2,k2,l2,s3,k3,l3,s4,k4,l4,hin,hfl,hBl,c9,f0,f1,f2,f3,f4,TE⟩:=HA6.out.ends 1 _ HM0.out rfl;go_wp2_with fail;refine (TE.out _ (Below.refl _ _)).mono ?_; rintro e w6e ⟨rfl,hbe⟩;have HA6e:=Lib.hid (HA6.out.next hbe);have HBe7:=Lib.hid hbe;clear hbe c9 f0 f1 f2 f3 f4 TE hin hfl hBl;obtain ⟨W7,hW7⟩:∃W7,(w6e.alloc (.cells #[.int .i64 0,.int .u64 0] 47)).setRow w6e.heap.size #[.int .i64 9,.int .u64 1]=W7:=⟨_,rfl⟩;have N7:Hid ((w6e.alloc (.cells #[.int .i64 0,.int .u64 0] 47)).heap[w6e.heap.size]?=some (.cells #[.int .i64 0,.int .u64 0] 47 (0,0))):=heap_alloc_new _ _;have HB7:Hid (Below w6e.heap.size w6e W7):=hW7▸row_below (below_new (Below.refl _ _) _) (Nat.le_refl _) _;have R7:Hid (W7.heap[w6e.heap.size]?=some (.cells #[.int .i64 9,.int .u64 1] 47 (0,0))):=hW7▸setRow_heap _ _ _ _ _ (0,0) N7.out;have HW7:=Lib.hid hW7;clear hW7;go_upto_region 11 with (refine wpList_store_row rfl 47 _ _ rfl (w6e.heap.size) _ rfl rfl 47 _ N7.out (by kernel_rfl) rfl (by simp [Value.oneCell']) ?_)
   rw [HW7.out];try simp only [Act.put]
   clear HW7 N7;have HA6o:=Lib.hid (HA6e.out.next HB7.out);obtain ⟨O7,hO7⟩:∃b,w6e.heap.size=b:=⟨_,rfl⟩;have hBO7:Hid (O7≠B):=by have:=HA6e.out.wi.lt; show _≠_; omega
   rw [hO7] at R7;rw [hO7];clear hO7 HA6e;have HBW:=Lib.hid HA6o.out.wi.below;clear HA6o HA6 HBe7 HB7;obtain ⟨o0,o1⟩:=rowc2 R7.out;go_wp2;go_ret;exact ⟨rfl,HBW.out⟩
theorem RL.ends {w0 w:World} {E:List (Option Nat)} {B:Nat} {x:WV} {y:WM} {c:ConfM} {n q:Nat} (h:RL w0 w E B x y c n q) (i:Nat) (m:MachM) (hm:y.l[i]?=some m) :
  ∃fl fc v r0 r1 s2 k2 l2 s3 k3 l3 s4 k4 l4,i<n∧fl<w.heap.size∧B<w.heap.size∧w.cell? ⟨B,6,none⟩=some (.slice (some ⟨fl,0,none⟩) n fc)∧w.cell? ⟨fl,i * 7,none⟩=some (.int .i64 m.what)∧w.cell? ⟨fl,i * 7+1,none⟩=some (.int .u64 v)∧w.cell? ⟨fl,i * 7+2,none⟩=some (.int .i64 r0)∧w.cell? ⟨fl,i * 7+3,none⟩=some (.int .i64 r1)∧w.cell? ⟨fl,i * 7+4,none⟩=some (.slice s2 k2 l2)∧w.cell? ⟨fl,i * 7+5,none⟩=some (.slice s3 k3 l3)∧w.cell? ⟨fl,i * 7+6,none⟩=some (.slice s4 k4 l4)
   ∧Hid (∀w',Below w.heap.size w w'→Calls Tryz.prog 13 #[.agg #[.int .i64 m.what,.int .u64 v,.int .i64 r0,.int .i64 r1,.slice s2 k2 l2,.slice s3 k3 l3,.slice s4 k4 l4]] w' fun e w2=>e=.returned (.tuple #[.agg #[.int .i64 m.ok,.int .u64 m.ov],.bool (m.pl == 0)])∧Below w'.heap.size w' w2):=by
 obtain ⟨hi,hmi⟩:=List.getElem?_eq_some_iff.1 hm;have hif:i<y.f.length:=by rw [h.fr.1]; exact hi
 have hR:=h.fr.2 i hif hi;rw [hmi] at hR;obtain ⟨v,r0,r1,a2,n2,k2,a3,n3,k3,a4,n4,k4,he,-⟩:=hR.form;obtain ⟨fl,fc,hvf,hfA,hfc,hfD,hfls,hfcap,FG,-⟩:=h.wi.frameAt i hif;rw [he] at FG hR;have row0:=h.wi.row;unfold WV.rrow at row0;rw [hfA,hfc,h.len] at row0;obtain ⟨f0,f1,f2,f3,f4,f5,f6⟩:=range7 FG;exact ⟨fl,fc,v,r0,r1,a2,n2,k2,a3,n3,k3,a4,n4,k4,by rw [← h.len]; exact hif,hfls,h.wi.lt,(rowc9 row0).2.2.2.2.2.2.1,f0,f1,f2,f3,f4,f5,f6,Lib.hid fun w' hb=>mend_any hR w' fun w2 h2=>OffS.below (below_then hb h2)⟩
theorem RI.traceAt {w0 wr:World} {E:List (Option Nat)} {B D:Nat} {x:WV} {y:WM} (h:RI w0 wr E B D x y) (i:Nat) (hi:i<y.t.length):∃tl tc,x.tA=some ⟨tl,0,none⟩∧x.tc=tc∧tl<wr.heap.size∧wr.rangeAt tl (i * 8) (itemCells y.t[i]):=by
 obtain ⟨fl,fc,e,h1,h2,h3⟩:=h.ot.open (by rw [List.length_map]; omega);have e':=e;rw [List.length_map] at e';simp only [WV.vt,Value.slice.injEq,true_and] at e';have ho:=h.ot;rw [e] at ho;have hr:=ho.row i (by rw [List.length_map]; exact hi);rw [List.getElem_map] at hr;exact ⟨fl,fc,e'.1,e'.2,h2,hr.1⟩
theorem follow_none (l:List MachM):∀t:List (Nat × Bool),t.foldl (follow l) none=none
 | []=>rfl
 | _ :: t=>follow_none l t
theorem take_snoc {α:Type} (l:List α) (i:Nat) (k:α) (h:l[i]?=some k):l.take (i+1)=l.take i ++ [k]:=by
 rw [List.take_add_one,h]; rfl
theorem follow_at (l:List MachM) (t:List (Nat × Bool)) (b:Bool) (h:t.foldl (follow l) (some false)=some b) (i:Nat) (z:Nat × Bool) (hz:t[i]?=some z) (cl:Bool) (hc:(t.take i).foldl (follow l) (some false)=some cl) :
  (z.2=false→(t.take (i+1)).foldl (follow l) (some false)=some cl)∧(z.2=true→cl=false∧(t.take (i+1)).foldl (follow l) (some false)=some ((l[z.1]?.map MachM.what) == some 5)):=by
 have e:(t.take (i+1)).foldl (follow l) (some false)=follow l (some cl) z:=by rw [take_snoc t i z hz,List.foldl_append,hc]; rfl
 rw [e];refine ⟨fun hz=>by unfold follow; simp [hz],fun hz=>?_⟩;have ht:t.foldl (follow l) (some false)=(t.drop (i+1)).foldl (follow l) (follow l (some cl) z):=by rw [← e,← List.foldl_append,List.take_append_drop]
 cases cl with
 | false=>exact ⟨rfl,by unfold follow; simp [hz]⟩
 | true=>
  rw [ht] at h;have:follow l (some true) z=none:=by unfold follow; simp [hz]
  rw [this,follow_none] at h;cases h
theorem countP_take {p:MachM→Bool} (l:List MachM) (i:Nat) (k:MachM) (h:l[i]?=some k):(l.take (i+1)).countP p=(l.take i).countP p+(if p k=true then 1 else 0):=by
 rw [List.take_add_one,h,List.countP_append];show _+[k].countP p=_;rw [List.countP_cons,List.countP_nil,Nat.zero_add]
theorem run_append_zero3 {w:World} {T ty e:TypeId} {i:TypeInfo} (ht:Tryz.prog.underlying T=some (.slice e)) (hi:Tryz.prog.info? e=some i) (B:Option Addr) (c':Nat) :
  (Builtin.append_ #[T,T] ty #[.slice none 0 0,.slice B 0 c']).run Tryz.prog w=.ok (.slice none 0 0) w:=by
 cases B <;> simp [Builtin.append_,run_underlying ht,sizeOf,typeInfo,hi,Builtin.lenOf,Builtin.firstCells,storeCells,loadCells,loadCellsFrom,Result.andThen]
theorem run_copy_s (w:World) (st ty:TypeId) {e:TypeId} {s bytes:Nat} {z:Value} (hu:Tryz.prog.underlying st=some (.slice e)) (hinfo:(Tryz.prog.info? e).map (fun i=>(i.zero,i.size,i.bytes))=some (some z,s,bytes)) (hzs:z.cells.size=s) (hsz:0<s) (hby:bytes≤200)
  {D base:Nat} {v:Value} {rows:List (List Value)} (hown:OwnS w D e s v rows) (hl:rows.length≤1000000) (hb:base≤w.heap.size) :
  ∃v' w',(Builtin.append_ #[st,st] ty #[.slice none 0 0,v]).run Tryz.prog w=.ok v' w'∧OwnS w' base e s v' rows∧w.grownBy w' none:=by
 obtain ⟨i0,hi,hz0,hz1,hz2⟩:=info_parts hinfo;rcases hown.shape with ⟨rfl,rfl⟩ | ⟨g,cap,rfl,hg,hg2,hcap⟩
 ·exact ⟨_,w,run_append_zero3 hu hi none 0,OwnS.nil _ _ _ _,grownBy_refl _ _⟩
 ·obtain ⟨v',w',hrun,h2,h3,-,h4⟩:=run_append_own_at (P:=Tryz.prog) w base st ty e i0 z s bytes hu hi hz0 hz1 hz2 hzs hsz (.slice none 0 0) 0 [] (World.ownsRow_nil w base e s) ⟨g,0,none⟩ rows.length cap rows.flatten (flatS_length rows hown.1) (fun j u hj=>by
   have hlt:=(List.getElem?_eq_some_iff.1 hj).1;rw [flatS_length rows hown.1] at hlt;have e2:((⟨g,0,none⟩:Addr).add j)=⟨g,j,none⟩:=by rw [Addr.add_mid,Nat.zero_add]
   rw [e2,World.ownsRow.cellAt hown.2 j hlt];exact hj) (fun u hu=>by
   obtain ⟨r,hr,hur⟩:=List.mem_flatten.1 hu;exact (hown.1 r hr).2 u hur) (by unfold maxLen; omega) (by have:(0+rows.length) * bytes≤1000000 * 200:=Nat.mul_le_mul (by omega) hby; omega) hb
  rw [Nat.zero_add,List.nil_append] at h2;exact ⟨v',w',hrun,⟨hown.1,h2⟩,h3⟩
theorem step_copy_s {e st:TypeId} {s bytes D base:Nat} {z v:Value} {rows:List (List Value)} {w:World} (hu:Tryz.prog.underlying st=some (.slice e)) (hinfo:(Tryz.prog.info? e).map (fun i=>(i.zero,i.size,i.bytes))=some (some z,s,bytes)) (hzs:z.cells.size=s) (hsz:0<s) (hby:bytes≤200)
  {ops:Array Oper} {o:Oper} {a:Act} {K:Act→World→Prop} {Q:Exit→Act→World→Prop} {E:Prop}
  (hgd:o.guard=none) (sl x:Operand) (hop:o.op=Op.call { callee:=Callee.builtin Builtin.append,args:=#[sl,x],argTypes:=#[st,st] })
  (hs:a.eval sl=.slice none 0 0) (hx:a.eval x=v) (hown:OwnS w D e s v rows) (hl:rows.length≤1000000) (hb:base≤w.heap.size)
  (hK:∀v' w',OwnS w' base e s v' rows→w.grownBy w' none→K (a.put o.dst v') w') :
  if Region.wanted o (yielded ops a.tmps)=true then Oper.wp Tryz.prog o a w K Q else E:=by
 rw [if_pos (by simp [Region.wanted,hgd])];obtain ⟨v',w',hrun,h2,h3⟩:=run_copy_s w st o.type hu hinfo hzs hsz hby hown hl hb;exact Lib.wp_append_run w sl x _ _ hop _ _ hs hx v' w' hrun (hK v' w' h2 h3)
end Go.Proofs.YtjnlkemdaffgbaaGreat
