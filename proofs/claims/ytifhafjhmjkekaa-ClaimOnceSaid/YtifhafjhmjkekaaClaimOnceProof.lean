/- Proved: ClaimOnce returns true, and its arguments read afterwards as before, for every list of codes and every list of picks; no condition. -/
import Derived.Deep.CutBlock
import Derived.LoopTactic
import Derived.WalkKit
import Derived.ProofKit
import Derived.OpenShut
import Derived.SizedLaws
import Derived.Test.YtifhafjhmjkekaaB01
import Derived.Test.YtifhafjhmjkekaaB11
namespace Go.Proofs.Ytifhafjhmjkekaa.claimOnce
open Go.ChangeShapes Go.WideShapes Go.ChangeAt Go.RowKit
set_option linter.unusedVariables false
set_option linter.unusedSimpArgs false
theorem playL_ne {n:Nat} (hn:1≤n) (l:List Int) (most:Nat):playL l most 1 n≠[]:=by
 unfold playL;intro h;have h2:=congrArg List.length h;simp at h2;omega
set_option maxRecDepth 100000 in
set_option maxHeartbeats 64000000 in
theorem walk (w:World) (v0:Value) (l0:List Int) (s0:SlI w .u8 v0 l0) (v1:Value) (l1:List Int) (s1:SlI w .u8 v1 l1) :
  Calls Try.prog 5 #[v0,v1] w fun e w'=>e=.returned (.bool true)∧Below w.heap.size w w':=by
 have HS0:=Lib.hid s0;have HS1:=Lib.hid s1;clear s0 s1;go_enter Try.func5,Try.ntmps5;go_wp2_with fail;refine (awake8_any _).mono ?_; rintro e wa ⟨rfl,hba⟩;have HBA:=Lib.hid hba;clear hba;go_wp2_with fail;refine (new_any _ l0 40 _ (HS0.out.below HBA.out) (by omega)).mono ?_; rintro e wb ⟨rfl,hcb,hbb⟩;have HCB:Hid (CodesE wb wa.heap.size):=⟨_,_,hcb⟩;have HBB:Hid (Below wa.heap.size wa wb):=hbb;clear hcb hbb HS0;obtain ⟨g,hg⟩:∃g,wa.heap.size=g:=⟨_,rfl⟩;have hwg:w.heap.size≤g:=by rw [← hg]; exact HBA.out.size
 have HWB:Hid (Below w.heap.size w wb):=below_then HBA.out HBB.out;rw [hg] at HCB;rw [hg];clear hg HBA HBB;have hgb:g<wb.heap.size:=HCB.out.lt;go_wp2_with fail;refine (one_stb _).mono ?_; rintro e wc ⟨a,a2,rfl,HST,HBC⟩;have hgl:g<wc.heap.size:=Nat.lt_of_lt_of_le hgb HBC.out.size;have HSC:Hid (∀w2,OffS [some g] wc w2→SlI w2 .i64 (.slice a oneC.caps.length 1) oneC.caps∧SlI w2 .u64 (.slice a2 oneC.starts.length 1) oneC.starts):=fun w2 h2=>HST.out w2 ⟨h2.1,fun j h1 h3=>h2.2 j h3 (by simp; omega)⟩;have HCC:=Lib.hid (HCB.out.kept hgb HBC.out);have HCV:Hid (ConfV wc (.agg #[.slice a oneC.caps.length 1,.slice a2 oneC.starts.length 1,.int .i64 oneC.threads]) oneC):=⟨_,_,rfl,(HSC.out wc (OffS.self _ _)).1,(HSC.out wc (OffS.self _ _)).2⟩;have HWC:Hid (Below w.heap.size w wc):=below_then HWB.out HBC.out;clear HST HCB HWB HBC;go_wp2_with fail;refine (begin_pk a a2 1 1 oneC _ HCV.out oneC_good).mono ?_; rintro e wd ⟨m1,n1,m2,n2,rfl,-,HBD,HPK⟩;obtain ⟨w1,hw1⟩:∃w1,wd.alloc (.cells #[.slice a oneC.caps.length 1,.slice a2 oneC.starts.length 1,.int .i64 oneC.threads,.slice m1 (newE oneC).words.length n1,.slice m2 (newE oneC).lists.length n2,.int .i64 (newE oneC).tick,.slice none 0 0,.slice none 0 0,.slice none 0 0,.slice none 0 0] 44)=w1:=⟨_,rfl⟩;have HRB0:Hid (w1.heap[wd.heap.size]?=some (.cells #[.slice a oneC.caps.length 1,.slice a2 oneC.starts.length 1,.int .i64 oneC.threads,.slice m1 (newE oneC).words.length n1,.slice m2 (newE oneC).lists.length n2,.int .i64 (newE oneC).tick,.slice none 0 0,.slice none 0 0,.slice none 0 0,.slice none 0 0] 44 (0,0))):=hw1▸heap_alloc_new _ _;have HB1:Hid (Below wd.heap.size wd w1):=hw1▸below_new (Below.refl _ _) _;have HC1:=Lib.hid (HCC.out.kept hgl (below_then HBD.out HB1.out));have hgB:g<wd.heap.size:=Nat.lt_of_lt_of_le hgl HBD.out.size;have KEY:Hid (∃X,m1=some ⟨X,0,none⟩∧X<wd.heap.size∧wc.heap.size≤X∧∀u,Below w1.heap.size w1 u→(u.cell? ⟨X,20,none⟩=some (.int .u64 ((newE oneC).words.getD 20 0))∧u.frozen? ⟨X,20,none⟩=false)∧AL w (u.setCell ⟨X,20,none⟩ (.int .u64 1)) [some g] wd.heap.size ⟨a,1,a2,1,m1,n1,m2,n2,none,0,none,0,none,0,none,0⟩ ⟨oneC,pokeM oneC 20 1,[],[],[],[]⟩ oneC 0 0):=by
  have key:=fun u (hu:Below w1.heap.size w1 u)=>AL.startP (w0:=w) (E:=[some g]) oneC_good (by decide) (fun j hj=>by simp only [List.mem_singleton,Option.some.injEq] at hj; subst hj; exact ⟨hwg,hgl⟩) HSC.out HPK.out HBD.out.size
   ⟨(below_then HB1.out hu).size,fun j h1 h2=>(below_then HB1.out hu).block j h2⟩ (OffS.below (below_then HBD.out (below_then HB1.out hu))) (Nat.le_refl _) ((hu.block _ (ltR HRB0)).trans HRB0.out) (below_then HWC.out (below_then HBD.out (below_then HB1.out hu))) HWC.out.size
  obtain ⟨X,h1,h2,h3,-⟩:=key w1 (Below.refl _ _);refine ⟨X,h1,h2,h3,fun u hu=>?_⟩;obtain ⟨X',h1',-,-,h4,h5⟩:=key u hu;rw [h1] at h1';simp only [Option.some.injEq,Addr.mk.injEq] at h1';obtain ⟨rfl,-⟩:=h1';exact ⟨h4 20 (by decide +kernel),h5 20 1 (by decide +kernel) (by unfold U64; omega)⟩
 obtain ⟨X,hm1,hXB,hwX,hstp⟩:=KEY.out;subst hm1;have HSTP0:=Lib.hid hstp;have TCL:=Lib.hid fun w' (hb:Below w1.heap.size w1 w')=>rclaimW_any _ oneC 1 (by decide) (by decide) w' (HCV.out.below (below_then HBD.out (below_then HB1.out hb))) oneC_good;rw [show oneC.thrW 1=20 from by decide +kernel] at TCL;have HGX:Hid (g<X):=by show g<X; omega
 have hA1:(20:Int)<((newE oneC).words.length:Int):=by decide +kernel
 clear HSC HPK HBD HCV KEY hstp HB1 HWC HCC hXB hwX hgl hgb;obtain ⟨B,hB⟩:∃B,wd.heap.size=B:=⟨_,rfl⟩;rw [hB] at HRB0 HSTP0 hgB;have HRB:=Lib.hid HRB0.out;have HSTP:=Lib.hid HSTP0.out;clear HRB0 HSTP0;go_upto_region 5 with fail
 try rw [hw1]
 try rw [hB]
 clear hw1 hB;have KSp:Hid (∀w',Below w1.heap.size w1 w'→(fun w':World=>w'.cell? ⟨B,0,none⟩=some (.slice a oneC.caps.length 1)∧w'.cell? ⟨B,1,none⟩=some (.slice a2 oneC.starts.length 1)∧w'.cell? ⟨B,2,none⟩=some (.int .i64 oneC.threads)∧w'.cell? ⟨B,3,none⟩=some (.slice (some ⟨X,0,none⟩) (newE oneC).words.length n1)) w'):=fun w' hb=>by
  obtain ⟨z0,z1,z2,z3,-⟩:=rowc10 ((hb.block B (ltR HRB)).trans HRB.out);exact ⟨z0,z1,z2,z3⟩
 go_cut [] (fun wx=>∃(x:WV) (y:WM),Hid (AL w wx [some g] B x y oneC 0 0)∧Hid (y.m=pokeM oneC 20 1∧y.l=[])∧Hid (CodesE wx g))
 case first=>
  refine untilK KSp 13 14 (by kernel_rfl) rfl ?_;obtain ⟨u0,hu0,HU0⟩:=drew_pack w1;rw [hu0];clear hu0;have hSU0:=KSp.out _ HU0.out;apply tkV 0 hSU0 rfl (by kernel_rfl) (fun _ _ _ h=>h) rfl;intro w hSw;(go_simp<;>with_reducible rfl);simp only [J0,J1,J2,J3,J4];apply tkV 1 hSU0 rfl (by kernel_rfl) (fun _ _ _ h=>h) rfl;intro w hSw;(go_simp<;>with_reducible rfl);simp only [J0,J1,J2,J3,J4];apply tkV 2 hSU0 rfl (by kernel_rfl) (fun _ _ _ h=>h) rfl;intro w hSw;(go_simp<;>with_reducible rfl);simp only [J0,J1,J2,J3,J4];apply tkV 3 hSU0 rfl (by kernel_rfl) (fun _ _ _ h=>h) rfl;intro w hSw;(go_simp<;>with_reducible rfl);simp only [J0,J1,J2,J3,J4];apply tkV 4 hSU0 rfl (by kernel_rfl) (fun _ _ _ h=>h) rfl;intro w hSw;(go_simp<;>with_reducible rfl);simp only [J0,J1,J2,J3,J4];apply tkV 5 hSU0 rfl (by kernel_rfl) (fun _ _ _ h=>h) rfl;intro w hSw;(go_simp<;>with_reducible rfl);simp only [J0,J1,J2,J3,J4];apply tkV 6 hSU0 rfl (by kernel_rfl) (fun _ _ _ h=>h) rfl;intro w hSw;(go_simp<;>with_reducible rfl);simp only [J0,J1,J2,J3,J4];apply tkV 7 hSU0 rfl (by kernel_rfl) (fun _ _ _ h=>h) rfl;intro w hSw;(go_simp<;>with_reducible rfl);simp only [J0,J1,J2,J3,J4];apply tkV 8 hSU0 rfl (by kernel_rfl) (fun _ _ _ h=>h) rfl;intro w hSw;(go_simp<;>with_reducible rfl);simp only [J0,J1,J2,J3,J4];apply tkV 9 hSU0 rfl (by kernel_rfl) (fun _ _ _ h=>h) rfl;intro w hSw;(go_simp<;>with_reducible rfl);simp only [J0,J1,J2,J3,J4];apply tkV 10 hSU0 rfl (by kernel_rfl) (fun _ _ _ h=>h) rfl;intro w hSw;(go_simp<;>with_reducible rfl);simp only [J0,J1,J2,J3,J4];refine consU 11 rfl (by kernel_rfl) rfl fun K hK=>?_;go_simp;go_at_call 13;refine (TCL.out _ HU0.out).mono ?_;rintro e u1 ⟨rfl,hb⟩;have HU1:=Lib.hid (below_then HU0.out hb);clear hb;refine hK.out _ _ ?_ fun hSU1=>?_;exact KSp.out _ HU1.out;clear hK K hSU0;(try simp only [J0,J1,J2,J3,J4]);apply tkV 12 hSU1 rfl (by kernel_rfl) (fun _ _ _ h=>h) rfl;intro w hSw;(go_simp<;>with_reducible rfl);simp only [J0,J1,J2,J3,J4];refine freeU 13 rfl (by kernel_rfl) rfl (by kernel_rfl) fun K hK=>?_
  obtain ⟨cX,fX⟩:=(HSTP.out u1 HU1.out).1;have HAL:=Lib.hid (HSTP.out u1 HU1.out).2;have HCO:=Lib.hid ((HC1.out.kept HC1.out.lt HU1.out).grown HGX.out (grownBy_setCell u1 ⟨X,20,none⟩ (.int .u64 1)));go_simp;clear cX fX;refine hK.out _ _ ?_;clear hK K hSU1;(try simp only [J0,J1,J2,J3,J4]);refine wpAnyU_done (by kernel_rfl) ?_ _;obtain ⟨w2,hw2⟩:∃w2,u1.setCell ⟨X,20,none⟩ (.int .u64 1)=w2:=⟨_,rfl⟩;rw [hw2] at HAL HCO;rw [hw2];clear hw2 HSTP TCL KSp HU0 HU1 HRB HC1;go_upto_region 6 with fail
  go_meet;exact ⟨_,_,HAL,⟨rfl,rfl⟩,HCO⟩
 case rest=>
 obtain ⟨x1,y1,HA1,E1,HCO⟩:=hcut;obtain ⟨w2,rfl⟩:∃w2:World,w2=wc:=⟨_,rfl⟩;have HO1:Hid (OnceI oneC 20 y1.m y1.l false):=by
  rw [E1.out.1,E1.out.2];exact ⟨by decide +kernel,fun k hk=>absurd hk (by simp),fun _=>⟨by decide +kernel,fun k hk=>absurd hk (by simp)⟩,fun e=>by cases e⟩
 clear HSTP TCL HRB KSp HC1 HGX E1;go_wp2_with fail;go_loopw [7] (fun u7 wr=>∃(i:Nat) (x:WV) (y:WM),u7=.int .i64 i∧i≤5∧Hid (AL w wr [some g] B x y oneC i 0)∧Hid (OnceI oneC 20 y.m y.l false)∧Hid (CodesE wr g)) (fun u7 _=>6 - (intOf u7).toNat)
 case atStart=>exact ⟨0,x1,y1,rfl,by omega,HA1,HO1,HCO⟩
 case round=>
  clear HA1 HO1 HCO;obtain ⟨i,x,y,rfl,hi,HA,HO,HC⟩:=hrel;obtain ⟨wo,rfl⟩:∃wo:World,wo=wr:=⟨_,rfl⟩;go_wp2_with fail;refine (nextE g 4 _ HC.out (by omega) (by omega)).mono ?_; rintro e wp ⟨z,rfl,hz0,hz1,hcz,hgz⟩;have HA2:=Lib.hid (HA.out.drawn hgB hgz);have HC2:=Lib.hid hcz;clear hcz hgz HA HC;have hwz:IntKind.i64.wrap (2+z)=2+z:=by rw [IntKind.wrap_i64]; omega
  by_cases hlt:(i:Int)<2+z
  ·obtain ⟨w3,K,hv3,hX3,RK3,HB3,hK3⟩:=alloc_pack wp (.cells #[.int .i64 7,.int .i64 10] 3)
   have hgK:g<K:=by have:=HC2.out.lt; omega
   have HV3:=Lib.hid hv3;have HX3:=Lib.hid hX3;clear hv3 hX3;go_wp2_with fail;rw [HV3.out,HX3.out];refine (nextE g 2 _ (HC2.out.kept HC2.out.lt HB3.out) (by omega) (by omega)).mono ?_; rintro e w4 ⟨q,rfl,hq0,hq1,hcq,hgq⟩;have HA4:=Lib.hid ((HA2.out.next HB3.out).drawn hgB hgq);have HC4:=Lib.hid hcq;have RK4:=Lib.hid ((hgq.block K (ltR RK3) (by simp; omega)).trans RK3.out);have hi5:i≤4:=by omega
   clear hcq hgq HA2 HC2 HV3 HX3 RK3 HB3 hK3 hwz hlt hz0 hz1;by_cases hq:q=0
   ·obtain rfl:q=0:=by omega
    have cK:=cell_of_row _ _ 0 _ _ _ RK4.out;go_wp2_with fail;refine (al_add HA4.out (by omega) 7 1 0 (by omega) (by decide) U64.zero).mono ?_;rintro e w9 ⟨x9,y9,rfl,HA9,hm9,hl9,-,-,HB9,-⟩;have HC9:=Lib.hid (HC4.out.kept hgB HB9.out);have HO9:Hid (OnceI oneC 20 y9.m y9.l false):=by
     rw [hm9,hl9];exact HO.out.add ⟨7,1,0,1,0 % 4,0 % 8,0,0,0,0,0⟩ (by left; rfl) (by decide +kernel) rfl
    clear hm9 hl9 cK HA4 HC4 RK4 HB9 HO;go_wp2_with fail;go_roundw
    case rel=>exact ⟨i+1,x9,y9,by go_num,by omega,HA9,HO9,HC9⟩
    case measure=>simp [intOf]; omega
   ·obtain rfl:q=1:=by omega
    have cK:=cell_of_row _ _ 1 _ _ _ RK4.out;go_wp2_with fail;refine (al_add HA4.out (by omega) 10 1 0 (by omega) (by decide) U64.zero).mono ?_;rintro e w9 ⟨x9,y9,rfl,HA9,hm9,hl9,-,-,HB9,-⟩;have HC9:=Lib.hid (HC4.out.kept hgB HB9.out);have HO9:Hid (OnceI oneC 20 y9.m y9.l false):=by
     rw [hm9,hl9];exact HO.out.add ⟨10,1,0,1,0 % 4,0 % 8,0,0,0,0,0⟩ (by right; rfl) (by decide +kernel) rfl
    clear hm9 hl9 cK HA4 HC4 RK4 HB9 HO;go_wp2_with fail;go_roundw
    case rel=>exact ⟨i+1,x9,y9,by go_num,by omega,HA9,HO9,HC9⟩
    case measure=>simp [intOf]; omega
  ·have hi2:2≤i:=by omega
   obtain ⟨n,hn⟩:∃n,i=n:=⟨_,rfl⟩;have HP:=Lib.hid (wplay_any pu_sim cl_doc HA2.out.wi HA2.out.fr HA2.out.ks (by rw [HA2.out.len]; omega) (by rw [HA2.out.len]; omega) (by have:=HA2.out.small; omega) (by have:=HA2.out.small; omega) v1 l1 HS1.out 60 1 (by omega) (by omega));go_wp2_with fail;clear hwz hlt hz0 hz1;refine HP.out.mono ?_;rintro e we ⟨x4,y4,rfl,HI4,HF4,HR4⟩;clear HP;have hrun:=HR4.out.run;rw [HA2.out.ce,HA2.out.len] at hrun;have hso:=OnceI.run (playL l1 60 1 i) (s:=(y.m,y.l)) HO.out (fun j hj=>by rw [show (y.m,y.l).2.length=i from HA2.out.len]; exact playL_lt _ _ _ _ (by omega) j hj) (.inr (playL_ne (by omega) _ _));rw [← hrun] at hso;have HSO:Hid ((∀k∈y4.l,7≤k.what)∧y4.l.countP wonB=1):=⟨fun k hk=>by have:=(hso.mach k hk).1; omega,(hso.done rfl).2⟩;have HA4:Hid (AL w we [some g] B x4 y4 oneC i 200):=⟨HI4.out,HF4.out,HR4.out.c.trans HA2.out.ce,HR4.out.all,HR4.out.l.trans HA2.out.len,by have h1:=HR4.out.t; have h2:=HR4.out.p; have h3:=HA2.out.small; rw [HA2.out.len] at h1 h2; omega,by decide⟩;clear hrun hso HI4 HF4 HR4 HA2 HC2 HO;have hb0:∃fl fc,we.cell? ⟨B,9,none⟩=some (.slice (some ⟨fl,0,none⟩) i fc):=by
    obtain ⟨m,hm⟩:∃m,y4.l[0]?=some m:=⟨_,List.getElem?_eq_getElem (by rw [HA4.out.len]; omega)⟩;obtain ⟨fl,fc,r0,r1,s2,k2,l2,s3,k3,l3,s4,k4,l4,-,-,-,c9,-⟩:=HA4.out.ends 0 m hm (what_own (HSO.out.1 m (List.mem_of_getElem? hm)));exact ⟨fl,fc,c9⟩
   obtain ⟨fl0,fc0,c90⟩:=hb0;go_upto_region 13 with fail
   go_wp2_with fail;clear c90;have HN:Hid (y4.l.length=i):=HA4.out.len;rw [hn] at HA4 HN hi hi2;try rw [hn]
   clear hn;go_loopw [8,56] (fun u8 u56 wr=>∃(i:Nat),u8=.int .i64 ((y4.l.take i).countP wonB:Nat)∧u56=.int .i64 i∧i≤n∧Hid (AL w wr [some g] B x4 y4 oneC n 200)) (fun _ u56 _=>7 - (intOf u56).toNat)
   case atStart=>exact ⟨0,rfl,rfl,by omega,HA4⟩
   case round=>
    clear HA4;obtain ⟨i,rfl,rfl,hi',HAi⟩:=hrel;obtain ⟨wo,rfl⟩:∃wo:World,wo=wr:=⟨_,rfl⟩;by_cases hlt:i<n
    ·have hltI:(i:Int)<(n:Int):=by omega
     obtain ⟨m,hm⟩:∃m,y4.l[i]?=some m:=⟨_,List.getElem?_eq_getElem (by rw [HN.out]; omega)⟩;obtain ⟨fl,fc,r0,r1,s2,k2,l2,s3,k3,l3,s4,k4,l4,hin,hfl,hBl,c9,f0,f1,f2,f3,f4,TE⟩:=HAi.out.ends i m hm (what_own (HSO.out.1 m (List.mem_of_getElem? hm)));by_cases hpl:m.pl=0
     ·by_cases hok:m.ok=7
      ·have hsb:wonB m=true:=by unfold wonB; rw [hpl,hok]; rfl
       have hct:=countP_take (p:=wonB) y4.l i m hm;rw [hsb] at hct;have HCT:=Lib.hid hct;have TE2:=TE.out wo (Below.refl _ _);rw [hok,show (m.pl == (0:Int))=true from by rw [hpl]; rfl] at TE2;obtain ⟨ov,hov⟩:∃ov,m.ov=ov:=⟨_,rfl⟩;rw [hov] at TE2;have HTE2:=Lib.hid TE2;clear TE TE2 hct hsb hov hpl hok;go_wp2_with fail;refine HTE2.out.mono ?_; rintro e we ⟨rfl,hbe⟩;have HAe:=Lib.hid (HAi.out.next hbe);clear hbe c9 f0 f1 f2 f3 f4 HTE2 hfl hBl;obtain ⟨W7,hW7⟩:∃W7,(we.alloc (.cells #[.int .i64 0,.int .u64 0] 56)).setRow we.heap.size #[.int .i64 7,.int .u64 ov]=W7:=⟨_,rfl⟩;have N7:Hid ((we.alloc (.cells #[.int .i64 0,.int .u64 0] 56)).heap[we.heap.size]?=some (.cells #[.int .i64 0,.int .u64 0] 56 (0,0))):=heap_alloc_new _ _;have HB7:Hid (Below we.heap.size we W7):=hW7▸row_below (below_new (Below.refl _ _) _) (Nat.le_refl _) _;have R7:Hid (W7.heap[we.heap.size]?=some (.cells #[.int .i64 7,.int .u64 ov] 56 (0,0))):=hW7▸setRow_heap _ _ _ _ _ (0,0) N7.out;have HW7:=Lib.hid hW7;clear hW7;go_upto_region 17 with (refine wpList_store_row rfl 56 _ _ rfl (we.heap.size) _ rfl rfl 56 _ N7.out (by kernel_rfl) rfl (by simp [Value.oneCell']) ?_)
       rw [HW7.out];try simp only [Act.put]
       clear HW7 N7;have HAo:=Lib.hid (HAe.out.next HB7.out);obtain ⟨o0,o1⟩:=rowc2 R7.out;obtain ⟨kk,hkk⟩:∃kk:Nat,(y4.l.take i).countP wonB=kk:=⟨_,rfl⟩;have hk5:kk≤5:=by rw [← hkk]; exact Nat.le_trans List.countP_le_length (by rw [List.length_take]; omega)
       have HKK:=Lib.hid hkk;have hkw:IntKind.i64.wrap ((kk:Int)+1)=((kk+1:Nat):Int):=by rw [IntKind.wrap_i64]; omega
       rw [hkk];clear hkk HAi HAe R7 HB7;go_wp2_with fail;clear o0 o1;go_roundw
       case rel=>
        rw [HKK.out] at HCT;exact ⟨i+1,by rw [HCT.out]; first | exact congrArg (Value.int .i64) hkw | rfl | (simp; omega),by go_num,by omega,HAo⟩
       case measure=>simp [intOf]; omega
      ·have hsb:wonB m=false:=by unfold wonB; rw [hpl]; simpa using hok
       have hct:=countP_take (p:=wonB) y4.l i m hm;rw [hsb] at hct;have HCT:=Lib.hid hct;have TE2:=TE.out wo (Below.refl _ _);rw [show (m.pl == (0:Int))=true from by rw [hpl]; rfl] at TE2;obtain ⟨ok,hoke⟩:∃ok,m.ok=ok:=⟨_,rfl⟩;rw [hoke] at TE2 hok;obtain ⟨ov,hov⟩:∃ov,m.ov=ov:=⟨_,rfl⟩;rw [hov] at TE2;have HTE2:=Lib.hid TE2;clear TE TE2 hct hsb hov hpl hoke;go_wp2_with fail;refine HTE2.out.mono ?_; rintro e we ⟨rfl,hbe⟩;have HAe:=Lib.hid (HAi.out.next hbe);clear hbe c9 f0 f1 f2 f3 f4 HTE2 hfl hBl;obtain ⟨W7,hW7⟩:∃W7,(we.alloc (.cells #[.int .i64 0,.int .u64 0] 56)).setRow we.heap.size #[.int .i64 ok,.int .u64 ov]=W7:=⟨_,rfl⟩;have N7:Hid ((we.alloc (.cells #[.int .i64 0,.int .u64 0] 56)).heap[we.heap.size]?=some (.cells #[.int .i64 0,.int .u64 0] 56 (0,0))):=heap_alloc_new _ _;have HB7:Hid (Below we.heap.size we W7):=hW7▸row_below (below_new (Below.refl _ _) _) (Nat.le_refl _) _;have R7:Hid (W7.heap[we.heap.size]?=some (.cells #[.int .i64 ok,.int .u64 ov] 56 (0,0))):=hW7▸setRow_heap _ _ _ _ _ (0,0) N7.out;have HW7:=Lib.hid hW7;clear hW7;go_upto_region 17 with (refine wpList_store_row rfl 56 _ _ rfl (we.heap.size) _ rfl rfl 56 _ N7.out (by kernel_rfl) rfl (by simp [Value.oneCell']) ?_)
       rw [HW7.out];try simp only [Act.put]
       clear HW7 N7;have HAo:=Lib.hid (HAe.out.next HB7.out);obtain ⟨o0,o1⟩:=rowc2 R7.out;obtain ⟨kk,hkk⟩:∃kk:Nat,(y4.l.take i).countP wonB=kk:=⟨_,rfl⟩;have hk5:kk≤5:=by rw [← hkk]; exact Nat.le_trans List.countP_le_length (by rw [List.length_take]; omega)
       have HKK:=Lib.hid hkk;have hkw:IntKind.i64.wrap ((kk:Int)+1)=((kk+1:Nat):Int):=by rw [IntKind.wrap_i64]; omega
       rw [hkk];clear hkk HAi HAe R7 HB7;go_wp2_with fail;clear o0 o1;go_roundw
       case rel=>
        rw [HKK.out] at HCT;exact ⟨i+1,by rw [HCT.out]; first | exact congrArg (Value.int .i64) hkw | rfl | (simp; omega),by go_num,by omega,HAo⟩
       case measure=>simp [intOf]; omega
     ·have hsb:wonB m=false:=by unfold wonB; simp [hpl]
      have hct:=countP_take (p:=wonB) y4.l i m hm;rw [hsb] at hct;have HCT:=Lib.hid hct;have TE2:=TE.out wo (Below.refl _ _);rw [show (m.pl == (0:Int))=false from by simpa using hpl] at TE2;obtain ⟨ok,hoke⟩:∃ok,m.ok=ok:=⟨_,rfl⟩;rw [hoke] at TE2;obtain ⟨ov,hov⟩:∃ov,m.ov=ov:=⟨_,rfl⟩;rw [hov] at TE2;have HTE2:=Lib.hid TE2;clear TE TE2 hct hsb hov hpl hoke;go_wp2_with fail;refine HTE2.out.mono ?_; rintro e we ⟨rfl,hbe⟩;have HAe:=Lib.hid (HAi.out.next hbe);clear hbe c9 f0 f1 f2 f3 f4 HTE2 hfl hBl;obtain ⟨W7,hW7⟩:∃W7,(we.alloc (.cells #[.int .i64 0,.int .u64 0] 56)).setRow we.heap.size #[.int .i64 ok,.int .u64 ov]=W7:=⟨_,rfl⟩;have N7:Hid ((we.alloc (.cells #[.int .i64 0,.int .u64 0] 56)).heap[we.heap.size]?=some (.cells #[.int .i64 0,.int .u64 0] 56 (0,0))):=heap_alloc_new _ _;have HB7:Hid (Below we.heap.size we W7):=hW7▸row_below (below_new (Below.refl _ _) _) (Nat.le_refl _) _;have R7:Hid (W7.heap[we.heap.size]?=some (.cells #[.int .i64 ok,.int .u64 ov] 56 (0,0))):=hW7▸setRow_heap _ _ _ _ _ (0,0) N7.out;have HW7:=Lib.hid hW7;clear hW7;go_upto_region 17 with (refine wpList_store_row rfl 56 _ _ rfl (we.heap.size) _ rfl rfl 56 _ N7.out (by kernel_rfl) rfl (by simp [Value.oneCell']) ?_)
      rw [HW7.out];try simp only [Act.put]
      clear HW7 N7;have HAo:=Lib.hid (HAe.out.next HB7.out);obtain ⟨o0,o1⟩:=rowc2 R7.out;obtain ⟨kk,hkk⟩:∃kk:Nat,(y4.l.take i).countP wonB=kk:=⟨_,rfl⟩;have hk5:kk≤5:=by rw [← hkk]; exact Nat.le_trans List.countP_le_length (by rw [List.length_take]; omega)
      have HKK:=Lib.hid hkk;have hkw:IntKind.i64.wrap ((kk:Int)+1)=((kk+1:Nat):Int):=by rw [IntKind.wrap_i64]; omega
      rw [hkk];clear hkk HAi HAe R7 HB7;go_wp2_with fail;clear o0 o1;go_roundw
      case rel=>
       rw [HKK.out] at HCT;exact ⟨i+1,by rw [HCT.out]; first | exact congrArg (Value.int .i64) hkw | rfl | (simp; omega),by go_num,by omega,HAo⟩
      case measure=>simp [intOf]; omega
    ·have hge:¬(i:Int)<(n:Int):=by omega
     have hin:i=n:=by omega
     have htk:(y4.l.take i).countP wonB=1:=by rw [hin,← HN.out,List.take_length]; exact HSO.out.2
     have HBF:=Lib.hid HAi.out.wi.below;rw [htk];clear hin htk HAi;go_wp2_with fail;go_ret;exact ⟨rfl,HBF.out⟩
set_option maxRecDepth 100000 in
theorem lifted (os:Os) (started:os.Started) (H:Type) (enc:TypeId × Value→H) :
  ReturnsInHanded {} Try.checked os 5 .any (Rows.claimOnceSpec.pre6 enc Try.prog Try.f5 Rows.claimOnceRow.domain false) (Rows.claimOnceSpec.post enc Try.prog Try.f5 false true false false):=by
 refine returnsInHanded_of_change_sized (C:=Try.checked) own started (by kernel_rfl) Try.func5
  (ChangeSpec.witness6 (enc:=enc) (C:=Try.checked) false ⟨#[],#[.slice none 0 0,.slice none 0 0],[]⟩ 8 (by kernel_rfl) (by kernel_rfl) (by kernel_rfl) (by kernel_rfl)) ?_
 intro W base args ds gs before hval0 hW _ hsz0 _;have hsz:(DataW.weightsEach Try.prog (Try.f5.params.toList ++ Rows.claimOnceSpec.plain.varTypes Try.prog) (ds ++ gs)).all (·≤reachBytes)=true:=hsz0;clear hsz0;have hval:∀(j:Nat) t v,Try.f5.params[j]?=some t→args[j]?=some v→Value.okWide Try.prog W .any base t v:=hval0;have hW':=hW;obtain ⟨p,q,hA0,hV,rfl,_,_⟩:=hW;have hA:DataW.TrodAll enc Try.prog W 0 (fun _=>true) true Try.f5.params.toList args.toList ds p:=hA0;rw [Try.params5] at hA hval hsz;obtain ⟨v0,vs0,d0,ds0,p0,q0,hargs,rfl,rfl,h0,r0⟩:=trodAll_cons hA;obtain ⟨v1,vs1,d1,ds1,p1,q1,rfl,rfl,rfl,h1,r1⟩:=trodAll_cons r0;obtain ⟨rfl,rfl,rfl⟩:=trodAll_nil r1;obtain rfl:args=#[v0,v1]:=by cases args; simp_all
 obtain ⟨rfl,rfl⟩:=trodVars_none hV;have k0:=h0;have k1:=h1;obtain ⟨l0,s0⟩:=view_sl (k:=.u8) Try.underlying22 Try.underlying5 (by kernel_rfl) (fun elems sp hd=>sized_slice hsz (j:=0) (t:=22) (e:=5) rfl (by rw [hd]; rfl) Try.underlying22) (of_decide_eq_true (by kernel_rfl)) (hval 0 22 v0 rfl rfl) h0;obtain ⟨l1,s1⟩:=view_sl (k:=.u8) Try.underlying22 Try.underlying5 (by kernel_rfl) (fun elems sp hd=>sized_slice hsz (j:=1) (t:=22) (e:=5) rfl (by rw [hd]; rfl) Try.underlying22) (of_decide_eq_true (by kernel_rfl)) (hval 1 22 v1 rfl rfl) h1;clear hA0 hval0;simp only [List.append_nil] at hW';have hlt:=hW'.lt;refine (walk W v0 l0 s0 v1 l1 s1).mono fun e W' ⟨he,hb⟩=>?_;subst he;exact ⟨_,rfl,_,_,_,[],_,[],hW',trodAll_cons_mk (shut_bool Try.underlying4 _) trodAll_mk0,(trodAll_cons_mk (Below.trod Try.laidOut (by kernel_rfl) (of_decide_eq_true (by kernel_rfl)) k0 hb (fun x hx=>by simpa using hlt x (by simp [hx]))) (trodAll_cons_mk (Below.trod Try.laidOut (by kernel_rfl) (of_decide_eq_true (by kernel_rfl)) k1 hb (fun x hx=>by simpa using hlt x (by simp [hx]))) trodAll_mk0)),rfl,hb.frame _,fun h=>by cases h⟩
theorem over:Rows.claimOnceRow.holds Try.pinned (OpenSpec.ofChange Rows.claimOnceSpec):=
 OpenClaim.holds_of_wide 5 Try.f5 rfl rfl rfl rfl rfl rfl rfl ⟨rfl,rfl,rfl,rfl,rfl⟩ rfl rfl rfl rfl rfl (by kernel_rfl) Try.func5 (by kernel_rfl)
  (of_decide_eq_true (by kernel_rfl)) (by unfold Func.isWrapper; first | (rw [if_pos (by decide +kernel)]; kernel_rfl) | (rw [if_neg (by decide +kernel)]; exact ⟨rfl,rfl⟩))
  (fun os started H enc _=>lifted os started H enc)
theorem proved:Rows.ClaimOnceSaid:=
 over
end Go.Proofs.Ytifhafjhmjkekaa.claimOnce
