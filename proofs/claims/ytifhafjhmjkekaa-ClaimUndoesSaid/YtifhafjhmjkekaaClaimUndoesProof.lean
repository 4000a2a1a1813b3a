/- Proved: ClaimUndoes returns true for every n; no condition. -/
import Derived.Deep.CutBlock
import Derived.LoopTactic
import Derived.WalkKit
import Derived.ProofKit
import Derived.OpenShut
import Derived.SizedLaws
import Derived.Test.YtifhafjhmjkekaaB01
import Derived.Test.YtifhafjhmjkekaaB11
namespace Go.Proofs.Ytifhafjhmjkekaa.claimUndoes
open Go.ChangeShapes Go.WideShapes Go.ChangeAt Go.RowKit
set_option linter.unusedVariables false
set_option linter.unusedSimpArgs false
set_option maxRecDepth 100000 in
set_option maxHeartbeats 64000000 in
theorem walk (w:World) (a0:Int) (w0:(Lit.int .u8 a0).wf=true) :
  Calls Try.prog 7 #[.int .u8 a0] w fun e w'=>e=.returned (.bool true)∧Below w.heap.size w w':=by
 have hn1:0≤a0∧a0<256:=by
  have h1:=wrap_of_wf w0;rw [IntKind.wrap_u8] at h1;omega
 obtain ⟨q,hq⟩:∃q:Nat,a0.tmod 5=(q:Int):=⟨(a0.tmod 5).toNat,by have:=Int.tmod_nonneg 5 hn1.1; omega⟩;have hq4:q≤4:=by have:=Int.tmod_lt_of_pos a0 (b:=5) (by omega); omega
 have hqu:IntKind.u8.wrap (q:Int)=q:=by rw [IntKind.wrap_u8]; omega
 have hqi:IntKind.i64.wrap (q:Int)=q:=by rw [IntKind.wrap_i64]; omega
 have hqa:IntKind.i64.wrap (1+(q:Int))=1+q:=by rw [IntKind.wrap_i64]; omega
 have hqb:IntKind.i64.wrap (3 * (1+(q:Int)))=3 * (1+q):=by rw [IntKind.wrap_i64]; omega
 have HQ:Hid ((a0.tmod 5=(q:Int)∧IntKind.u8.wrap (q:Int)=q∧IntKind.i64.wrap (q:Int)=q)∧IntKind.i64.wrap (1+(q:Int))=1+q∧IntKind.i64.wrap (3 * (1+(q:Int)))=3 * (1+q)):=⟨⟨hq,hqu,hqi⟩,hqa,hqb⟩;clear w0 hn1 hq hqu hqi hqa hqb;go_enter Try.func7,Try.ntmps7;go_wp2_with fail;refine (awake8_any _).mono ?_; rintro e wz ⟨rfl,hba⟩;have HB00:=Lib.hid hba;clear hba;go_wp2_with fail;refine (one_any _).mono ?_; rintro e wa ⟨a,a2,rfl,hcv,hba⟩;have HCV:=Lib.hid hcv;have HBA:=Lib.hid (below_then HB00.out hba);clear hcv hba;go_wp2_with fail;refine (begin_pk a a2 1 1 oneC _ HCV.out oneC_good).mono ?_; rintro e wd ⟨m1,n1,m2,n2,rfl,-,HBD,HPK⟩;have HSC:Hid (∀w2,OffS [] wa w2→SlI w2 .i64 (.slice a oneC.caps.length 1) oneC.caps∧SlI w2 .u64 (.slice a2 oneC.starts.length 1) oneC.starts):=fun w2 h2=>by
  obtain ⟨vc,vs,e,h3,h4⟩:=HCV.out;simp only [Value.agg.injEq,Array.mk.injEq,List.cons.injEq] at e;obtain ⟨rfl,rfl,-⟩:=e;exact ⟨h3.offN h2,h4.offN h2⟩
 have HBW:Hid (Below w.heap.size w wa):=HBA.out;have HDW:Hid (Below w.heap.size w wd):=below_then HBA.out HBD.out;obtain ⟨w1,hw1⟩:∃w1,wd.alloc (.cells #[.slice a oneC.caps.length 1,.slice a2 oneC.starts.length 1,.int .i64 oneC.threads,.slice m1 (newE oneC).words.length n1,.slice m2 (newE oneC).lists.length n2,.int .i64 (newE oneC).tick,.slice none 0 0,.slice none 0 0,.slice none 0 0,.slice none 0 0] 44)=w1:=⟨_,rfl⟩;have HRB0:Hid (w1.heap[wd.heap.size]?=some (.cells #[.slice a oneC.caps.length 1,.slice a2 oneC.starts.length 1,.int .i64 oneC.threads,.slice m1 (newE oneC).words.length n1,.slice m2 (newE oneC).lists.length n2,.int .i64 (newE oneC).tick,.slice none 0 0,.slice none 0 0,.slice none 0 0,.slice none 0 0] 44 (0,0))):=hw1▸heap_alloc_new _ _;have HB1:Hid (Below wd.heap.size wd w1):=hw1▸below_new (Below.refl _ _) _;have KEY:Hid (∃X,m1=some ⟨X,0,none⟩∧X<wd.heap.size∧wa.heap.size≤X∧∀u,Below w1.heap.size w1 u→(u.cell? ⟨X,9,none⟩=some (.int .u64 ((newE oneC).words.getD 9 0))∧u.frozen? ⟨X,9,none⟩=false)∧AL w (u.setCell ⟨X,9,none⟩ (.int .u64 1)) [] wd.heap.size ⟨a,1,a2,1,m1,n1,m2,n2,none,0,none,0,none,0,none,0⟩ ⟨oneC,pokeM oneC 9 1,[],[],[],[]⟩ oneC 0 0):=by
  have key:=fun u (hu:Below w1.heap.size w1 u)=>AL.startP (w0:=w) (E:=[]) oneC_good (by decide) (fun j hj=>by cases hj) HSC.out HPK.out HBD.out.size
   ⟨(below_then HB1.out hu).size,fun j h1 h2=>(below_then HB1.out hu).block j h2⟩ ⟨(below_then HBD.out (below_then HB1.out hu)).size,fun j h1 _=>(below_then HBD.out (below_then HB1.out hu)).block j h1⟩ (Nat.le_refl _) ((hu.block _ (ltR HRB0)).trans HRB0.out) (below_then HDW.out (below_then HB1.out hu)) HBW.out.size
  obtain ⟨X,h1,h2,h3,-⟩:=key w1 (Below.refl _ _);refine ⟨X,h1,h2,h3,fun u hu=>?_⟩;obtain ⟨X',h1',-,-,h4,h5⟩:=key u hu;rw [h1] at h1';simp only [Option.some.injEq,Addr.mk.injEq] at h1';obtain ⟨rfl,-⟩:=h1';exact ⟨h4 9 (by decide +kernel),h5 9 1 (by decide +kernel) (by unfold U64; omega)⟩
 obtain ⟨X,hm1,hXB,hwX,hstp⟩:=KEY.out;subst hm1;have HSTP0:=Lib.hid hstp;have HCVk:=Lib.hid fun w' (hb:Below w1.heap.size w1 w')=>one_conf HCV.out (below_then HBD.out (below_then HB1.out hb));have TCL:=Lib.hid fun w' (hb:Below w1.heap.size w1 w')=>rclaimW_any _ oneC 0 (by decide) (by decide) w' (HCVk.out w' hb) oneC_good;rw [show oneC.thrW 0=9 from by decide +kernel] at TCL;have hA1:(9:Int)<((newE oneC).words.length:Int):=by decide +kernel
 clear HSC HPK HBD HCV HBA KEY hstp HB1 HBW HDW;have HBX:Hid (X<wd.heap.size):=hXB;clear hXB hwX;go_upto_region 4 with fail
 obtain ⟨B,hB⟩:∃B,wd.heap.size=B:=⟨_,rfl⟩;rw [hB] at HRB0 HSTP0 HBX;have HRB:=Lib.hid HRB0.out;have HSTP:=Lib.hid HSTP0.out;clear HRB0 HSTP0;try rw [hw1]
 try rw [hB]
 clear hw1 hB;obtain ⟨c0,c1,c2,-⟩:=rowc10 HRB.out;go_wp2_with fail;refine (TCL.out _ (Below.refl _ _)).mono ?_; rintro e w2 ⟨rfl,hb2⟩;have HB2:=Lib.hid hb2;clear c0 c1 c2 hb2 TCL;obtain ⟨-,-,-,c3,-⟩:=rowc10 ((HB2.out.block B (ltR HRB)).trans HRB.out);obtain ⟨cX,fX⟩:=(HSTP.out w2 HB2.out).1;have HAL:=Lib.hid (HSTP.out w2 HB2.out).2;go_upto_region 6 with fail
 clear c3 cX fX;obtain ⟨w3,hw3⟩:∃w3,w2.setCell ⟨X,9,none⟩ (.int .u64 1)=w3:=⟨_,rfl⟩;rw [hw3] at HAL;rw [hw3];have HU0:Hid (UndI (pokeM oneC 9 1) 1):=⟨by decide +kernel,by decide +kernel⟩;clear hw3 HSTP HB2 HRB HCVk HBX hA1;go_wp2_with fail;go_loopw [5] (fun u5 wr=>∃(i r:Nat) (x:WV) (y:WM),u5=.int .i64 i∧Hid (i=3 * r∧r≤q+1)∧Hid (AL w wr [] B x y oneC i i)∧Hid (UndI y.m 1)) (fun u5 _=>16 - (intOf u5).toNat)
 case atStart=>exact ⟨0,0,_,_,rfl,⟨rfl,by omega⟩,HAL,HU0⟩
 case round=>
  clear HAL HU0;obtain ⟨i,r,x,y,rfl,HIR,HA,HU⟩:=hrel;obtain ⟨wo,rfl⟩:∃wo:World,wo=wr:=⟨_,rfl⟩;obtain ⟨⟨hq1,hq2,hq3⟩,hq5,hq6⟩:=HQ.out;have hi15:i≤15:=by have:=HIR.out; omega
  have e1:((i+1:Nat):Int)=(i:Int)+1:=by omega
  have e2:((i+2:Nat):Int)=(i:Int)+2:=by omega
  have hw1:IntKind.i64.wrap ((i:Int)+1)=(i:Int)+1:=by rw [IntKind.wrap_i64]; omega
  have hw2:IntKind.i64.wrap ((i:Int)+2)=(i:Int)+2:=by rw [IntKind.wrap_i64]; omega
  have hw0':IntKind.i64.wrap (i:Int)=(i:Int):=by rw [IntKind.wrap_i64]; omega
  have E1:=Lib.hid e1;have E2:=Lib.hid e2;have HW:=Lib.hid (And.intro hw1 (And.intro hw2 hw0'));clear e1 e2 hw1 hw2 hw0';have HAlen:Hid (y.l.length=i):=HA.out.len;by_cases hlt:i<3 * (1+q)
  ·have hltI:(i:Int)<3 * (1+(q:Int)):=by omega
   have TA:=Lib.hid (al_add HA.out (by omega) 7 0 0 (by omega) (by decide) U64.zero);go_wp2_with fail;clear hq1 hq2 hq3 hq5 hq6;refine TA.out.mono ?_;rintro e v1 ⟨x1,y1,rfl,HA1,hm1,hl1,-,-,-,-⟩;have HM1:=Lib.hid hm1;have HL1:Hid (y1.l=y.l ++ [nk 7]):=hl1;clear TA hm1 hl1 HA;have TA:=Lib.hid (al_add HA1.out (by omega) 10 0 0 (by omega) (by decide) U64.zero);go_wp2_with fail;skip
   refine TA.out.mono ?_;rintro e v2 ⟨x2,y2,rfl,HA2,hm2,hl2,-,-,-,-⟩;have HM2:=Lib.hid hm2;have HL2:Hid (y2.l=y1.l ++ [nk 10]):=hl2;clear TA hm2 hl2 HA1;have TA:=Lib.hid (al_add HA2.out (by omega) 8 0 0 (by omega) (by decide) U64.zero);go_wp2_with fail;skip
   refine TA.out.mono ?_;rintro e v3 ⟨x3,y3,rfl,HA3,hm3,hl3,-,-,-,-⟩;have HM3:=Lib.hid hm3;have HL3:Hid (y3.l=y2.l ++ [nk 8]):=hl3;clear TA hm3 hl3 HA2;have HLN:Hid (y.l.length=i):=HAlen.out;have hU3:Hid (UndI y3.m 1):=by rw [HM3.out,HM2.out,HM1.out]; exact HU
   have HL:Hid (y3.l=y.l ++ [nk 7] ++ [nk 10] ++ [nk 8]):=by rw [HL3.out,HL2.out,HL1.out]; rfl
   have hg0:y3.l[i]?=some (nk 7):=by rw [HL.out,← HLN.out]; simp
   have hg1:y3.l[i+1]?=some (nk 10):=by rw [HL.out,← HLN.out]; simp
   have hg2:y3.l[i+2]?=some (nk 8):=by rw [HL.out,← HLN.out]; simp
   have HG0:=Lib.hid hg0;have HG1:=Lib.hid hg1;have HG2:=Lib.hid hg2;clear hg0 hg1 hg2 HL HL1 HL2 HL3 HM1 HM2 HM3 HU;have TS:=Lib.hid (al_stepE HA3.out (by omega) (by omega) i (by omega));go_wp2_with fail;refine TS.out.mono ?_;rintro e v4 ⟨x4,y4,rfl,HA4,he,-⟩;obtain ⟨m4,he4,hu4⟩:=und_res HG0.out hU3.out;rw [he4] at he;have hm4:y4.m=m4:=congrArg Prod.fst he;have hl4:y4.l=y3.l.set i (wonK 7 7):=congrArg Prod.snd he;have HU4:Hid (UndI y4.m 2):=by rw [hm4]; exact hu4
   have HX0:Hid (y4.l[i]?=some (wonK 7 7)):=by
    have hlt9:i<y3.l.length:=(List.getElem?_eq_some_iff.1 HG0.out).1;show _=_; rw [hl4,List.getElem?_set_self hlt9]
   have HX1:Hid (y4.l[i+1]?=some (nk 10)):=by show _=_; rw [hl4,List.getElem?_set_ne (by omega)]; exact HG1.out
   have HX2:Hid (y4.l[i+2]?=some (nk 8)):=by show _=_; rw [hl4,List.getElem?_set_ne (by omega)]; exact HG2.out
   clear TS HA3 he he4 hu4 hm4 hl4 HG0 HG1 HG2 hU3;obtain ⟨mb,mo,hmA,hwc⟩:=HA4.out.wi.wordsAt (by rw [HU4.out.lt]; decide);have hwd:=hwc v4 (OffS.self _ _) 9 (by rw [HU4.out.lt]; decide);rw [HU4.out.val] at hwd;have row0:=HA4.out.wi.row;unfold WV.row at row0;rw [hmA,HU4.out.lt] at row0;obtain ⟨-,-,-,c3,-⟩:=rowc10 row0;clear hmA hwc row0;have TS:=Lib.hid (al_stepE HA4.out (by omega) (by omega) (i+1) (by omega));rw [E1.out] at TS;obtain ⟨hw1,hw2,-⟩:=HW.out;go_wp2_with fail;clear c3 hwd hw1 hw2;refine TS.out.mono ?_;rintro e v5 ⟨x5,y5,rfl,HA5,he,-⟩;rw [und_exp HX1.out HU4.out] at he;have hm5:y5.m=y4.m:=congrArg Prod.fst he;have hl5:y5.l=y4.l.set (i+1) (wonK 10 8):=congrArg Prod.snd he;have HU5:Hid (UndI y5.m 2):=by rw [hm5]; exact HU4
   have HY0:Hid (y5.l[i]?=some (wonK 7 7)):=by show _=_; rw [hl5,List.getElem?_set_ne (by omega)]; exact HX0.out
   have HY1:Hid (y5.l[i+1]?=some (wonK 10 8)):=by
    have hlt9:i+1<y4.l.length:=(List.getElem?_eq_some_iff.1 HX1.out).1;show _=_; rw [hl5,List.getElem?_set_self hlt9]
   have HY2:Hid (y5.l[i+2]?=some (nk 8)):=by show _=_; rw [hl5,List.getElem?_set_ne (by omega)]; exact HX2.out
   clear TS HA4 he hm5 hl5 HX0 HX1 HX2 HU4;have TS:=Lib.hid (al_stepE HA5.out (by omega) (by omega) (i+2) (by omega));rw [E2.out] at TS;obtain ⟨hw1,hw2,-⟩:=HW.out;go_wp2_with fail;clear hw1 hw2;refine TS.out.mono ?_;rintro e v6 ⟨x6,y6,rfl,HA6,he,-⟩;obtain ⟨m6,he6,hu6⟩:=und_und HY2.out HU5.out;rw [he6] at he;have hm6:y6.m=m6:=congrArg Prod.fst he;have hl6:y6.l=y5.l.set (i+2) (wonK 8 1):=congrArg Prod.snd he;have HU6:Hid (UndI y6.m 1):=by rw [hm6]; exact hu6
   have HM0:Hid (y6.l[i]?=some ⟨7,0,0,0,0 % 4,0 % 8,0,0,0,7,0⟩):=by show _=_; rw [hl6,List.getElem?_set_ne (by omega)]; exact HY0.out
   have HM1:Hid (y6.l[i+1]?=some ⟨10,0,0,0,0 % 4,0 % 8,0,0,0,8,0⟩):=by show _=_; rw [hl6,List.getElem?_set_ne (by omega)]; exact HY1.out
   clear TS HA5 he he6 hu6 hm6 hl6 HY0 HY1 HY2 HU5;obtain ⟨mb,mo,hmA,hwc⟩:=HA6.out.wi.wordsAt (by rw [HU6.out.lt]; decide);have hwd:=hwc v6 (OffS.self _ _) 9 (by rw [HU6.out.lt]; decide);rw [HU6.out.val] at hwd;have row0:=HA6.out.wi.row;unfold WV.row at row0;rw [hmA,HU6.out.lt] at row0;obtain ⟨-,-,-,c3,-⟩:=rowc10 row0;clear hmA hwc row0;go_upto_region 14 with fail
   clear c3 hwd;obtain ⟨fl,fc,r0,r1,s2,k2,l2,s3,k3,l3,s4,k4,l4,hin,hfl,hBl,c9,f0,f1,f2,f3,f4,TE⟩:=HA6.out.ends i _ HM0.out rfl;go_wp2_with fail;refine (TE.out _ (Below.refl _ _)).mono ?_; rintro e v6e ⟨rfl,hbe⟩;have HA6e:=Lib.hid (HA6.out.next hbe);have HBe7:=Lib.hid hbe;clear hbe c9 f0 f1 f2 f3 f4 TE hin hfl hBl;obtain ⟨W7,hW7⟩:∃W7,(v6e.alloc (.cells #[.int .i64 0,.int .u64 0] 56)).setRow v6e.heap.size #[.int .i64 7,.int .u64 0]=W7:=⟨_,rfl⟩;have N7:Hid ((v6e.alloc (.cells #[.int .i64 0,.int .u64 0] 56)).heap[v6e.heap.size]?=some (.cells #[.int .i64 0,.int .u64 0] 56 (0,0))):=heap_alloc_new _ _;have HB7:Hid (Below v6e.heap.size v6e W7):=hW7▸row_below (below_new (Below.refl _ _) _) (Nat.le_refl _) _;have R7:Hid (W7.heap[v6e.heap.size]?=some (.cells #[.int .i64 7,.int .u64 0] 56 (0,0))):=hW7▸setRow_heap _ _ _ _ _ (0,0) N7.out;have HW7:=Lib.hid hW7;clear hW7;go_upto_region 15 with (refine wpList_store_row rfl 56 _ _ rfl (v6e.heap.size) _ rfl rfl 56 _ N7.out (by kernel_rfl) rfl (by simp [Value.oneCell']) ?_)
   rw [HW7.out];try simp only [Act.put]
   clear HW7 N7;have HA6o:=Lib.hid (HA6e.out.next HB7.out);obtain ⟨O7,hO7⟩:∃b,v6e.heap.size=b:=⟨_,rfl⟩;have hBO7:Hid (O7≠B):=by have:=HA6e.out.wi.lt; show _≠_; omega
   rw [hO7] at R7;rw [hO7];clear hO7 HA6e;obtain ⟨fl,fc,r0,r1,s2,k2,l2,s3,k3,l3,s4,k4,l4,hin,hfl,hBl,c9,f0,f1,f2,f3,f4,TE⟩:=HA6o.out.ends (i+1) _ HM1.out rfl;obtain ⟨hw1,hw2,-⟩:=HW.out;go_wp2_with fail;refine (TE.out _ (Below.refl _ _)).mono ?_; rintro e W7e ⟨rfl,hbe⟩;have HA6oe:=Lib.hid (HA6o.out.next hbe);have HBe8:=Lib.hid hbe;clear hw1 hw2 hbe c9 f0 f1 f2 f3 f4 TE hin hfl hBl;obtain ⟨W8,hW8⟩:∃W8,(W7e.alloc (.cells #[.int .i64 0,.int .u64 0] 56)).setRow W7e.heap.size #[.int .i64 8,.int .u64 0]=W8:=⟨_,rfl⟩;have N8:Hid ((W7e.alloc (.cells #[.int .i64 0,.int .u64 0] 56)).heap[W7e.heap.size]?=some (.cells #[.int .i64 0,.int .u64 0] 56 (0,0))):=heap_alloc_new _ _;have HB8:Hid (Below W7e.heap.size W7e W8):=hW8▸row_below (below_new (Below.refl _ _) _) (Nat.le_refl _) _;have R8:Hid (W8.heap[W7e.heap.size]?=some (.cells #[.int .i64 8,.int .u64 0] 56 (0,0))):=hW8▸setRow_heap _ _ _ _ _ (0,0) N8.out;have HW8:=Lib.hid hW8;clear hW8;go_upto_region 16 with (refine wpList_store_row rfl 56 _ _ rfl (W7e.heap.size) _ rfl rfl 56 _ N8.out (by kernel_rfl) rfl (by simp [Value.oneCell']) ?_)
   rw [HW8.out];try simp only [Act.put]
   clear HW8 N8;have HA6oo:=Lib.hid (HA6oe.out.next HB8.out);obtain ⟨O8,hO8⟩:∃b,W7e.heap.size=b:=⟨_,rfl⟩;have hBO8:Hid (O8≠B):=by have:=HA6oe.out.wi.lt; show _≠_; omega
   rw [hO8] at R8;rw [hO8];clear hO8 HA6oe;have hOO:Hid (O7<W7.heap.size):=(ltR R7);have RO8:=Lib.hid ((HB8.out.block O7 (by have:=HBe8.out.size; have:=hOO.out; omega)).trans ((HBe8.out.block O7 hOO.out).trans R7.out));have HAF:=Lib.hid (HA6oo.out.le (q2:=i+3) (by omega));clear HA6oo HA6o HA6 HBe8 HB8 HBe7 HB7 R7 hOO;obtain ⟨o0,o1⟩:=rowc2 RO8.out;obtain ⟨p0,p1⟩:=rowc2 R8.out;have hw3:IntKind.i64.wrap ((i:Int)+3)=((i+3:Nat):Int):=by rw [IntKind.wrap_i64]; omega
   go_wp2_with fail;go_roundw
   case rel=>exact ⟨i+3,r+1,x6,y6,by first | rfl | exact congrArg (Value.int .i64) hw3 | (simp; omega),⟨by have:=HIR.out; omega,by have:=HIR.out; omega⟩,HAF,HU6⟩
   case measure=>simp [intOf]; omega
  ·have hge:¬(i:Int)<3 * (1+(q:Int)):=by omega
   have TA:=Lib.hid (al_add HA.out (by omega) 10 0 0 (by omega) (by decide) U64.zero);go_wp2_with fail;clear hq1 hq2 hq3 hq5 hq6;refine TA.out.mono ?_;rintro e v21 ⟨x21,y21,rfl,HA21,hm21,hl21,-,-,-,-⟩;have HM21:=Lib.hid hm21;have HL21:Hid (y21.l=y.l ++ [nk 10]):=hl21;clear TA hm21 hl21 HA;have hU3:Hid (UndI y21.m 1):=by rw [HM21.out]; exact HU
   have hg0:y21.l[i]?=some (nk 10):=by rw [HL21.out,← HAlen.out]; simp
   have HG0:=Lib.hid hg0;clear hg0 HU HL21 HM21;obtain ⟨fl,fc,r0,r1,s2,k2,l2,s3,k3,l3,s4,k4,l4,hin,hfl,hBl,c9,f0,f1,f2,f3,f4,TE⟩:=HA21.out.ends i _ HG0.out rfl;clear hin hfl hBl f0 f1 f2 f3 f4 TE;have TS:=Lib.hid (al_stepE HA21.out (by omega) (by omega) i (by omega));obtain ⟨hw1,hw2,hw0'⟩:=HW.out;have hwl:IntKind.i64.wrap ((i:Int)+1 - 1)=(i:Int):=by rw [IntKind.wrap_i64]; omega
   go_upto_region 20 with fail
   go_wp2_with fail;clear c9 hw1 hw2 hw0' hwl;refine TS.out.mono ?_;rintro e v4 ⟨x4,y4,rfl,HA4,he,-⟩;obtain ⟨m4,he4,hu4⟩:=und_win HG0.out hU3.out;rw [he4] at he;have hm4:y4.m=m4:=congrArg Prod.fst he;have hl4:y4.l=y21.l.set i (wonK 10 7):=congrArg Prod.snd he;have HU4:Hid (UndI y4.m 4):=by rw [hm4]; exact hu4
   have HM0:Hid (y4.l[i]?=some ⟨10,0,0,0,0 % 4,0 % 8,0,0,0,7,0⟩):=by
    have hlt9:i<y21.l.length:=(List.getElem?_eq_some_iff.1 HG0.out).1;show _=_; rw [hl4,List.getElem?_set_self hlt9]; rfl
   clear TS HA21 he he4 hu4 hm4 hl4 HG0 hU3;obtain ⟨fl,fc,r0,r1,s2,k2,l2,s3,k3,l3,s4,k4,l4,hin,hfl,hBl,c9,f0,f1,f2,f3,f4,TE⟩:=HA4.out.ends i _ HM0.out rfl;go_wp2_with fail;refine (TE.out _ (Below.refl _ _)).mono ?_; rintro e v4e ⟨rfl,hbe⟩;have HA4e:=Lib.hid (HA4.out.next hbe);have HBe7:=Lib.hid hbe;clear hbe c9 f0 f1 f2 f3 f4 TE hin hfl hBl;obtain ⟨W7,hW7⟩:∃W7,(v4e.alloc (.cells #[.int .i64 0,.int .u64 0] 56)).setRow v4e.heap.size #[.int .i64 7,.int .u64 0]=W7:=⟨_,rfl⟩;have N7:Hid ((v4e.alloc (.cells #[.int .i64 0,.int .u64 0] 56)).heap[v4e.heap.size]?=some (.cells #[.int .i64 0,.int .u64 0] 56 (0,0))):=heap_alloc_new _ _;have HB7:Hid (Below v4e.heap.size v4e W7):=hW7▸row_below (below_new (Below.refl _ _) _) (Nat.le_refl _) _;have R7:Hid (W7.heap[v4e.heap.size]?=some (.cells #[.int .i64 7,.int .u64 0] 56 (0,0))):=hW7▸setRow_heap _ _ _ _ _ (0,0) N7.out;have HW7:=Lib.hid hW7;clear hW7;go_upto_region 22 with (refine wpList_store_row rfl 56 _ _ rfl (v4e.heap.size) _ rfl rfl 56 _ N7.out (by kernel_rfl) rfl (by simp [Value.oneCell']) ?_)
   rw [HW7.out];try simp only [Act.put]
   clear HW7 N7;have HA4o:=Lib.hid (HA4e.out.next HB7.out);obtain ⟨O7,hO7⟩:∃b,v4e.heap.size=b:=⟨_,rfl⟩;have hBO7:Hid (O7≠B):=by have:=HA4e.out.wi.lt; show _≠_; omega
   rw [hO7] at R7;rw [hO7];clear hO7 HA4e;obtain ⟨mb,mo,hmA,hwc⟩:=HA4o.out.wi.wordsAt (by rw [HU4.out.lt]; decide);have hwd:=hwc W7 (OffS.self _ _) 9 (by rw [HU4.out.lt]; decide);rw [HU4.out.val] at hwd;have row0:=HA4o.out.wi.row;unfold WV.row at row0;rw [hmA,HU4.out.lt] at row0;obtain ⟨-,-,-,c3,-⟩:=rowc10 row0;clear hmA hwc row0;obtain ⟨o0,o1⟩:=rowc2 R7.out;have HBF:=Lib.hid HA4o.out.wi.below;clear HA4o HA4 HBe7 HB7;go_wp2;go_ret;exact ⟨rfl,HBF.out⟩
set_option maxRecDepth 100000 in
theorem lifted (os:Os) (started:os.Started) (H:Type) (enc:TypeId × Value→H) :
  ReturnsInHanded {} Try.checked os 7 .any (Rows.claimUndoesSpec.pre6 enc Try.prog Try.f7 Rows.claimUndoesRow.domain false) (Rows.claimUndoesSpec.post enc Try.prog Try.f7 false true false false):=by
 refine returnsInHanded_of_change_sized (C:=Try.checked) own started (by kernel_rfl) Try.func7
  (ChangeSpec.witness6 (enc:=enc) (C:=Try.checked) false ⟨#[],#[.int .u8 0],[]⟩ 8 (by kernel_rfl) (by kernel_rfl) (by kernel_rfl) (by kernel_rfl)) ?_
 intro W base args ds gs before hval0 hW _ hsz0 _;have hsz:(DataW.weightsEach Try.prog (Try.f7.params.toList ++ Rows.claimUndoesSpec.plain.varTypes Try.prog) (ds ++ gs)).all (·≤reachBytes)=true:=hsz0;clear hsz0;have hval:∀(j:Nat) t v,Try.f7.params[j]?=some t→args[j]?=some v→Value.okWide Try.prog W .any base t v:=hval0;have hW':=hW;obtain ⟨p,q,hA0,hV,rfl,_,_⟩:=hW;have hA:DataW.TrodAll enc Try.prog W 0 (fun _=>true) true Try.f7.params.toList args.toList ds p:=hA0;rw [Try.params7] at hA hval hsz;obtain ⟨v0,vs0,d0,ds0,p0,q0,hargs,rfl,rfl,h0,r0⟩:=trodAll_cons hA;obtain ⟨rfl,rfl,rfl⟩:=trodAll_nil r0;obtain rfl:args=#[v0]:=by cases args; simp_all
 obtain ⟨rfl,rfl⟩:=trodVars_none hV;have k0:=h0;obtain ⟨a0,rfl,-,-,w0⟩:=open_int Try.underlying5 (hval 0 5 v0 rfl rfl) h0;clear hA0 hval0;simp only [List.append_nil] at hW';have hlt:=hW'.lt;refine (walk W a0 w0).mono fun e W' ⟨he,hb⟩=>?_;subst he;exact ⟨_,rfl,_,_,_,[],_,[],hW',trodAll_cons_mk (shut_bool Try.underlying4 _) trodAll_mk0,(trodAll_cons_mk (Below.trod Try.laidOut (by kernel_rfl) (of_decide_eq_true (by kernel_rfl)) k0 hb (fun x hx=>by simpa using hlt x (by simp [hx]))) trodAll_mk0),rfl,hb.frame _,fun h=>by cases h⟩
theorem over:Rows.claimUndoesRow.holds Try.pinned (OpenSpec.ofChange Rows.claimUndoesSpec):=
 OpenClaim.holds_of_wide 7 Try.f7 rfl rfl rfl rfl rfl rfl rfl ⟨rfl,rfl,rfl,rfl,rfl⟩ rfl rfl rfl rfl rfl (by kernel_rfl) Try.func7 (by kernel_rfl)
  (of_decide_eq_true (by kernel_rfl)) (by unfold Func.isWrapper; first | (rw [if_pos (by decide +kernel)]; kernel_rfl) | (rw [if_neg (by decide +kernel)]; exact ⟨rfl,rfl⟩))
  (fun os started H enc _=>lifted os started H enc)
theorem proved:Rows.ClaimUndoesSaid:=
 over
end Go.Proofs.Ytifhafjhmjkekaa.claimUndoes
