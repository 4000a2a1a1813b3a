import Derived.Deep.DeepCutAuto
import Derived.Laws.CopyOwn
import Derived.Deep.OwnRows
import Derived.Test.YtjnlkemdaffgbaaGreatB09
import Derived.Test.YtjnlkemdaffgbaaGreatB03
import Derived.Test.YtjnlkemdaffgbaaGreatB02
import Derived.Test.YtjnlkemdaffgbaaGreatB01
import Derived.Test.YtjnlkemdaffgbaaGreatB10
import Derived.Test.YtjnlkemdaffgbaaGreatB11
import Derived.Test.YtjnlkemdaffgbaaGreatB08
import Derived.Test.YtjnlkemdaffgbaaGreatB04
set_option linter.unusedVariables false
set_option linter.unusedSimpArgs false
namespace Go.Proofs.YtjnlkemdaffgbaaGreat.Q4
open Go.ChangeShapes Go.WideShapes Go.ChangeAt Go.RowKit
set_option maxRecDepth 100000
theorem sl2_at {w:World} {k:IntKind} {b:Nat} {x y:Int} {T:TypeId} (h:w.heap[b]?=some (.cells #[.int k x,.int k y] T (0,0))) (hx:x=k.wrap x) (hy:y=k.wrap y):SlI w k (.slice (some ⟨b,0,none⟩) 2 2) [x,y]:=by
 refine ⟨by simp,by intro z hz; simp at hz; rcases hz with rfl | rfl; exact hx; exact hy,_,2,rfl,Nat.le_refl _,fun t ht=>⟨b,0,rfl,(Array.getElem?_eq_some_iff.1 h).1,?_⟩⟩;have h2:t=0∨t=1:=by simp at ht; omega
 rcases h2 with rfl | rfl
 ·exact cell_of_row _ _ 0 _ _ _ h
 ·exact cell_of_row _ _ 1 _ _ _ h
theorem sl3_at {w:World} {k:IntKind} {b:Nat} {x y z:Int} {T:TypeId} (h:w.heap[b]?=some (.cells #[.int k x,.int k y,.int k z] T (0,0))) (hx:x=k.wrap x) (hy:y=k.wrap y) (hz:z=k.wrap z):SlI w k (.slice (some ⟨b,0,none⟩) 3 3) [x,y,z]:=by
 refine ⟨by simp,by intro u hu; simp at hu; rcases hu with rfl | rfl | rfl; exact hx; exact hy; exact hz,_,3,rfl,Nat.le_refl _,fun t ht=>⟨b,0,rfl,(Array.getElem?_eq_some_iff.1 h).1,?_⟩⟩;have h2:t=0∨t=1∨t=2:=by simp at ht; omega
 rcases h2 with rfl | rfl | rfl
 ·exact cell_of_row _ _ 0 _ _ _ h
 ·exact cell_of_row _ _ 1 _ _ _ h
 ·exact cell_of_row _ _ 2 _ _ _ h
theorem NewPart.self (w w':World):NewPart w w' w':=⟨Nat.le_refl _,fun _ _ _=>rfl⟩
theorem own_lit {w:World} {base b n:Nat} {e:TypeId} {k:IntKind} (l:List Int) (hn:l.length=n) (h:w.heap[b]?=some (.cells (l.map (Value.int k)).toArray e (0,0))) (hb:base≤b) (hl:l.length≤1000000):OwnI w base e k (.slice (some ⟨b,0,none⟩) n n) l:=by
 subst hn;refine ⟨by rw [List.length_map,Nat.mul_one],.inr ⟨b,l.length,_,rfl,hb,h,Nat.le_refl _,by unfold maxLen; omega,by simp,?_⟩⟩;rw [Nat.mul_one,List.take_of_length_le (by simp)]
theorem ringL_wf {c:ConfM} (hg:c.good) (k:Nat) (hk:k<c.caps.length):∀x∈ringL c k,x=IntKind.i64.wrap x:=by
 have h1:=hg.base8 k (Nat.le_of_lt hk);have h2:=hg.cap k hk;have h3:=hg.size k hk;intro x hx;rw [IntKind.wrap_i64];simp only [ringL,List.mem_append,List.mem_cons,List.not_mem_nil,or_false,List.mem_map,List.mem_range] at hx;rcases hx with (rfl | rfl | rfl) | ⟨i,hi,rfl⟩ <;> omega
def ringP (c:ConfM) (k n:Nat):List Int:=[c.base k+1,c.base k,c.caps.getD k 0] ++ (List.range (2 * n)).map fun (i:Nat)=>c.base k+5+(i:Int)
theorem ringP_length (c:ConfM) (k n:Nat):(ringP c k n).length=3+2 * n:=by simp [ringP]; omega
theorem ringP_next (c:ConfM) (k n:Nat) (x y:Int) (hx:x=c.base k+5+(n:Int) * 2) (hy:y=c.base k+5+(n:Int) * 2+1):ringP c k n ++ [x,y]=ringP c k (n+1):=by
 unfold ringP;rw [show 2 * (n+1)=2 * n+1+1 by omega,List.range_succ,List.range_succ,hx,hy];simp;constructor <;> omega
theorem slotW_small {c:ConfM} (k n:Nat) (h:(n:Int)<c.size k) (h16:c.size k≤16):c.slotW k (n:Int)=c.base k+5+(n:Int) * 2:=by
 have e:slotI (n:Int) (c.size k)=(n:Int):=by
  unfold slotI;rw [if_neg (by omega),Int.emod_eq_of_lt (a:=(n:Int)) (by omega) (by omega),Int.emod_eq_of_lt (by omega) h]
 rw [slotW_eq,e]
set_option maxRecDepth 100000 in
set_option maxHeartbeats 16000000 in
theorem ring_any (a a2:Option Addr) (cap cap2:Nat) (c:ConfM) (k:Nat) (hk:k<c.caps.length) (hg:c.good) (w:World) (hv:ConfV w (.agg #[.slice a c.caps.length cap,.slice a2 c.starts.length cap2,.int .i64 c.threads]) c):Calls Tryz.prog 64 #[.agg #[.slice a c.caps.length cap,.slice a2 c.starts.length cap2,.int .i64 c.threads],.int .i64 k] w fun e w'=>∃v,e=.returned v∧Hid (OwnI w' w.heap.size 3 .i64 v (ringL c k))∧Hid (Below w.heap.size w w'):=by
 have HV:=Lib.hid hv;have hsz:=hg.size k hk;have hl:=hg.len;have hcap:=hg.cap k hk;have TCK:=Lib.hid fun w' (hb:Below w.heap.size w w')=>checkC_any _ c w' (HV.out.below hb);rw [checkC_good hg] at TCK;have TTL:=Lib.hid fun w' (hb:Below w.heap.size w w')=>tailW_any _ c k hk w' (HV.out.below hb) hg;have THD:=Lib.hid fun w' (hb:Below w.heap.size w w')=>headW_any _ c k hk w' (HV.out.below hb) hg;have TSS:=Lib.hid fun (n:Nat) (hn:(n:Int)<c.size k) w' (hb:Below w.heap.size w w')=>(slotSeqW_any _ c k n hk (by omega) (by omega) w' (HV.out.below hb) hg);have TSV:=Lib.hid fun (n:Nat) (hn:(n:Int)<c.size k) w' (hb:Below w.heap.size w w')=>(slotValueW_any _ c k n hk (by omega) (by omega) w' (HV.out.below hb) hg);have HSW:=Lib.hid fun (n:Nat) (hn:(n:Int)<c.size k)=>slotW_small (c:=c) k n hn hsz.2;have TSZ:=Lib.hid fun w'=>size_any (c.caps.getD k 0) w' (by omega) (by omega);have HWF:=Lib.hid (ringL_wf hg k hk);have hb8:=hg.base8 k (Nat.le_of_lt hk);have HB8:=Lib.hid hb8;have HRP:Hid (ringP c k (c.size k).toNat=ringL c k):=rfl;obtain ⟨vc,vs,e,h1,h2⟩:=hv;simp only [Value.agg.injEq,Array.mk.injEq,List.cons.injEq] at e;obtain ⟨rfl,rfl,-⟩:=e;obtain ⟨cb,co,he,hcb,hcl⟩:=h1.cellAt k hk;subst he;clear h1 h2;change Hid (∀w':World,Calls Tryz.prog _ _ w' fun e w'_1=>e=.returned (.int .i64 (c.size k))∧w'=w'_1) at TSZ;obtain ⟨kc,hkc⟩:∃kc,c.caps.getD k 0=kc:=⟨_,rfl⟩;rw [hkc] at hcl hcap;have HKC:=Lib.hid hkc;rw [show (Value.int IntKind.i64 (c.caps.getD k 0))=.int .i64 kc by rw [hkc]] at TSZ;clear hkc;obtain ⟨tl,htl⟩:∃tl,c.base k=tl:=⟨_,rfl⟩;have HTL:=Lib.hid htl;obtain ⟨sz,hsz0⟩:∃sz,c.size k=sz:=⟨_,rfl⟩;have HSZ:=Lib.hid hsz0;rw [hsz0] at TSZ hsz;rw [htl] at TTL THD;clear htl hsz0;have hkI:(k:Int)<(c.caps.length:Int):=by omega
 have hk0:¬(k:Int)<0:=by omega
 have hk1:¬(c.caps.length:Int)≤(k:Int):=by omega
 have hws:IntKind.u64.wrap sz=sz:=by rw [IntKind.wrap_u64]; omega
 clear hg hb8;have HK0:=Lib.hid (hcl);have hbk0:cb<w.heap.size:=hcb;obtain ⟨W,hW,HB,R0,hz⟩:=one_new w (.cells #[.slice (some ⟨cb,co,none⟩) c.caps.length cap,.slice a2 c.starts.length cap2,.int .i64 c.threads] 30);have HW:=Lib.hid hW;clear hW;go_enter Tryz.func64,Tryz.ntmps64;go_upto_region 1 with fail
 rw [HW.out];clear HW;obtain ⟨x0_0,x0_1,x0_2⟩:=rowc3 R0.out;have ck0:=(HB.out.cell (p:=⟨cb,co+k,none⟩) hbk0).trans HK0.out;go_wp2_with fail;refine (TCK.out _ HB.out).mono ?_; rintro e w1 ⟨rfl,hb1⟩;have P1_0:=keepR hb1 R0;have HB1:=Lib.hid (below_then HB.out hb1);clear x0_0 x0_1 x0_2 ck0;clear hb1;obtain ⟨x0_0,x0_1,x0_2⟩:=rowc3 P1_0.out;have ck0:=(HB1.out.cell (p:=⟨cb,co+k,none⟩) hbk0).trans HK0.out;go_upto_region 4 with fail
 have KSr:Hid (∀w',Below w1.heap.size w1 w'→(fun w':World=>(w'.cell? ⟨w.heap.size,0,none⟩=some (.slice (some ⟨cb,co,none⟩) c.caps.length cap)∧w'.cell? ⟨w.heap.size,1,none⟩=some (.slice a2 c.starts.length cap2)∧w'.cell? ⟨w.heap.size,2,none⟩=some (.int .i64 c.threads))∧w'.cell? ⟨cb,co+k,none⟩=some (.int .i64 kc)) w'):=fun w' hb=>⟨rowc3 ((hb.block _ (ltR P1_0)).trans P1_0.out),(hb.cell (p:=⟨cb,co+k,none⟩) (Nat.lt_of_lt_of_le hbk0 HB1.out.size)).trans ((HB1.out.cell (p:=⟨cb,co+k,none⟩) hbk0).trans HK0.out)⟩;clear x0_0 x0_1 x0_2 ck0;go_cut [5,6] (fun s5 s6 wx=>∃nb:Nat,s5=.int .i64 kc∧s6=.slice (some ⟨nb,0,none⟩) 3 3∧Hid (wx.heap[nb]?=some (.cells #[.int .i64 (tl+1),.int .i64 tl,.int .i64 kc] 3 (0,0)))∧Hid (w.heap.size<nb)∧Hid (wx.heap[w.heap.size]?=some (.cells #[.slice (some ⟨cb,co,none⟩) c.caps.length cap,.slice a2 c.starts.length cap2,.int .i64 c.threads] 30 (0,0)))∧Hid (Below w.heap.size w wx))
 case first=>
  refine untilK KSr 8 9 (by kernel_rfl) rfl ?_;obtain ⟨u0,hu0,HU0⟩:=drew_pack w1;rw [hu0];clear hu0;have hSU0:=KSr.out _ HU0.out;apply tkV 0 hSU0 rfl (by kernel_rfl) (fun _ _ _ h=>h) rfl;intro w hSw;(go_simp<;>with_reducible rfl);simp only [J0,J1,J2,J3,J4];apply tkV 1 hSU0 rfl (by kernel_rfl) (fun _ _ _ h=>h) rfl;intro w hSw;(go_simp<;>with_reducible rfl);simp only [J0,J1,J2,J3,J4];apply tkV 3 hSU0 rfl (by kernel_rfl) (fun _ _ _ h=>h) rfl;intro w hSw;(go_simp<;>with_reducible rfl);simp only [J0,J1,J2,J3,J4];apply tkV 4 hSU0 rfl (by kernel_rfl) (fun _ _ _ h=>h) rfl;intro w hSw;(go_simp<;>with_reducible rfl);simp only [J0,J1,J2,J3,J4];apply tkV 6 hSU0 rfl (by kernel_rfl) (fun _ _ _ h=>h) rfl;intro w hSw;(go_simp<;>with_reducible rfl);simp only [J0,J1,J2,J3,J4];refine consU 2 rfl (by kernel_rfl) rfl fun K hK=>?_;go_simp;go_at_call 66;refine (THD.out _ (below_then HB1.out HU0.out)).mono ?_;rintro e u1 ⟨rfl,hb⟩;have HU1:=Lib.hid (below_then HU0.out hb);clear hb;refine hK.out _ _ ?_ fun hSU1=>?_;exact KSr.out _ HU1.out;clear hK K hSU0;(try simp only [J0,J1,J2,J3,J4]);refine consU 5 rfl (by kernel_rfl) rfl fun K hK=>?_;go_simp;go_at_call 65;refine (TTL.out _ (below_then HB1.out HU1.out)).mono ?_;rintro e u2 ⟨rfl,hb⟩;have HU2:=Lib.hid (below_then HU1.out hb);clear hb;refine hK.out _ _ ?_ fun hSU2=>?_;exact KSr.out _ HU2.out;clear hK K hSU1;(try simp only [J0,J1,J2,J3,J4]);refine consU 7 rfl (by kernel_rfl) rfl fun K hK=>?_;go_simp;obtain ⟨u3,nb,hv1,hX,RN,hbn,ltn⟩:=alloc_pack u2 (.cells #[.int .i64 (tl+1),.int .i64 tl,.int .i64 kc] 3);rw [hv1,hX];have gen:Hid (w.heap.size<nb):=by have h5:=HU2.out.size; have h6:=(ltR P1_0); show w.heap.size<nb; omega
  have HU3:=Lib.hid (below_then HU2.out hbn.out);clear hv1 hX hbn;refine hK.out _ _ ?_ fun hSU3=>?_;exact KSr.out _ HU3.out;clear hK K hSU2;(try simp only [J0,J1,J2,J3,J4]);refine freeU 8 rfl (by kernel_rfl) rfl (by kernel_rfl) fun K hK=>?_;go_simp;refine hK.out _ _ ?_;clear hK K hSU3;(try simp only [J0,J1,J2,J3,J4]);refine wpAnyU_done (by kernel_rfl) ?_ _;go_wp2_with fail;go_meet;exact ⟨nb,rfl,rfl,RN,gen,keepR HU3.out P1_0,Lib.hid (below_then HB1.out HU3.out)⟩
 case rest=>
  obtain ⟨nb,rfl,rfl,RN,gen,RCF,HBc⟩:=hcut;obtain ⟨wz,rfl⟩:∃w3:World,w3=wc:=⟨_,rfl⟩;have HO0:Hid (OwnI wz (w.heap.size+1) 3 .i64 (.slice (some ⟨nb,0,none⟩) 3 3) (ringP c k 0)):=by
   have e:=own_lit (w:=wz) (base:=w.heap.size+1) (b:=nb) (n:=3) (e:=3) (k:=.i64) [tl+1,tl,kc] rfl RN.out gen.out (by simp);have e2:ringP c k 0=[tl+1,tl,kc]:=by unfold ringP; rw [HTL.out,HKC.out]; simp
   rw [e2]; exact e
  clear KSr TCK TTL THD;go_wp2_with fail;refine (TSZ.out _).mono ?_; rintro e w' ⟨rfl,rfl⟩;clear TSZ;go_wp2_with fail;go_loopw [38,6] (fun u38 u6 wr=>∃(n:Nat) (v:Value),u38=.int .u64 n∧u6=v∧(n:Int)≤sz∧Hid (OwnI wr (w.heap.size+1) 3 .i64 v (ringP c k n))∧Hid (wr.heap[w.heap.size]?=some (.cells #[.slice (some ⟨cb,co,none⟩) c.caps.length cap,.slice a2 c.starts.length cap2,.int .i64 c.threads] 30 (0,0)))∧Hid (Below w.heap.size w wr)) (fun u38 _ _=>17 - (intOf u38).toNat)
  case atStart=>exact ⟨0,_,rfl,rfl,by omega,HO0,RCF,HBc⟩
  case round=>
   clear HO0 RCF HBc RN gen;obtain ⟨n,v,rfl,rfl,hn,HO,RCF,HBc⟩:=hrel;obtain ⟨wo,rfl⟩:∃wo:World,wo=wr:=⟨_,rfl⟩;by_cases hlt:(n:Int)<sz
   ·have TS1:=Lib.hid (TSS.out n (by rw [HSZ.out]; exact hlt))
    have TV1:=Lib.hid (TSV.out n (by rw [HSZ.out]; exact hlt));have hsw:=HSW.out n (by rw [HSZ.out]; exact hlt);obtain ⟨sw,hsw1⟩:∃sw,c.slotW k n=sw:=⟨_,rfl⟩;rw [hsw1] at TS1 TV1 hsw;have HSN:=Lib.hid (ringP_next c k n sw (sw+1) hsw (by rw [hsw]));have hb8:=HB8.out;have hsx:sw=IntKind.i64.wrap sw:=by rw [IntKind.wrap_i64]; omega
    have hsy:sw+1=IntKind.i64.wrap (sw+1):=by rw [IntKind.wrap_i64]; omega
    have HSX:=Lib.hid hsx;have HSY:=Lib.hid hsy;clear hsw hsw1 hb8 hsx hsy;have hvb:Hid (∀j,u6.ownBlock=some j→w.heap.size+1≤j):=HO.out.own_ge;have KS8:Hid (∀w',Below wo.heap.size wo w'→(fun w':World=>w'.cell? ⟨w.heap.size,0,none⟩=some (.slice (some ⟨cb,co,none⟩) c.caps.length cap)∧w'.cell? ⟨w.heap.size,1,none⟩=some (.slice a2 c.starts.length cap2)∧w'.cell? ⟨w.heap.size,2,none⟩=some (.int .i64 c.threads)) w'):=fun w' hb=>rowc3 ((hb.block _ (ltR RCF)).trans RCF.out);have hlen:(ringP c k n).length≤1000000:=by rw [ringP_length]; omega
    go_upto_region 8 with fail
    refine untilK KS8 11 12 (by kernel_rfl) rfl ?_;obtain ⟨u0,hu0,HU0⟩:=drew_pack wo;rw [hu0];clear hu0;have hSU0:=KS8.out _ HU0.out;apply tkV 0 hSU0 rfl (by kernel_rfl) (fun _ _ _ h=>h) rfl;intro w hSw;(go_simp<;>with_reducible rfl);simp only [J0,J1,J2,J3,J4];apply tkV 1 hSU0 rfl (by kernel_rfl) (fun _ _ _ h=>h) rfl;intro w hSw;(go_simp<;>with_reducible rfl);simp only [J0,J1,J2,J3,J4];apply tkV 2 hSU0 rfl (by kernel_rfl) (fun _ _ _ h=>h) rfl;intro w hSw;(go_simp<;>with_reducible rfl);simp only [J0,J1,J2,J3,J4];apply tkV 3 hSU0 rfl (by kernel_rfl) (fun _ _ _ h=>h) rfl;intro w hSw;(go_simp<;>with_reducible rfl);simp only [J0,J1,J2,J3,J4];apply tkV 5 hSU0 rfl (by kernel_rfl) (fun _ _ _ h=>h) rfl;intro w hSw;(go_simp<;>with_reducible rfl);simp only [J0,J1,J2,J3,J4];apply tkV 6 hSU0 rfl (by kernel_rfl) (fun _ _ _ h=>h) rfl;intro w hSw;(go_simp<;>with_reducible rfl);simp only [J0,J1,J2,J3,J4];apply tkV 7 hSU0 rfl (by kernel_rfl) (fun _ _ _ h=>h) rfl;intro w hSw;(go_simp<;>with_reducible rfl);simp only [J0,J1,J2,J3,J4];refine consU 4 rfl (by kernel_rfl) rfl fun K hK=>?_;go_simp;go_at_call 95;refine (TS1.out _ (below_then HBc.out HU0.out)).mono ?_;rintro e u1 ⟨rfl,hb⟩;have HU1:=Lib.hid (below_then HU0.out hb);clear hb;refine hK.out _ _ ?_ fun hSU1=>?_;exact KS8.out _ HU1.out;clear hK K hSU0;(try simp only [J0,J1,J2,J3,J4]);refine consU 8 rfl (by kernel_rfl) rfl fun K hK=>?_;go_simp;go_at_call 96;refine (TV1.out _ (below_then HBc.out HU1.out)).mono ?_;rintro e u2 ⟨rfl,hb⟩;have HU2:=Lib.hid (below_then HU1.out hb);clear hb;refine hK.out _ _ ?_ fun hSU2=>?_;exact KS8.out _ HU2.out;clear hK K hSU1;(try simp only [J0,J1,J2,J3,J4]);refine consU 9 rfl (by kernel_rfl) rfl fun K hK=>?_;go_simp;obtain ⟨u3,nb,hv1,hX,RN,hbn,ltn⟩:=alloc_pack u2 (.cells #[.int .i64 sw,.int .i64 (sw+1)] 3);rw [hv1,hX];have HU3:=Lib.hid (below_then HU2.out hbn.out);have HXL:=Lib.hid (sl2_at RN.out HSX.out HSY.out);clear hv1 hX hbn;refine hK.out _ _ ?_ fun hSU3=>?_;exact KS8.out _ HU3.out;clear hK K hSU2;(try simp only [J0,J1,J2,J3,J4])
    refine consU 10 rfl (by kernel_rfl) rfl fun K hK=>?_;refine step_app_i64 rfl _ _ rfl (w.heap.size+1) u6 (ringP c k n) rfl (HO.out.below HU3.out) _ [sw,sw+1] rfl HXL.out hlen (by simp) (by have:=HU3.out.size; have:=(ltR RCF); omega) ?_;intro v9 u4 ho9 hg9;rw [HSN.out] at ho9;have HO9:=Lib.hid ho9;have HG9:=Lib.hid hg9;have RC9:=Lib.hid ((HG9.out.block w.heap.size (Nat.lt_of_lt_of_le (ltR RCF) HU3.out.size) (fun e=>by have:=hvb.out _ e.symm; omega)).trans ((HU3.out.block w.heap.size (ltR RCF)).trans RCF.out));clear ho9 hg9;refine hK.out _ _ ?_ fun hSU4=>?_;exact rowc3 RC9.out;clear hK K hSU3;(try simp only [J0,J1,J2,J3,J4]);refine freeU 11 rfl (by kernel_rfl) rfl (by kernel_rfl) fun K hK=>?_;go_simp;refine hK.out _ _ ?_;clear hK K hSU4;(try simp only [J0,J1,J2,J3,J4]);refine wpAnyU_done (by kernel_rfl) ?_ _;go_wp2_with fail;have HB9:=Lib.hid ((below_then HBc.out HU3.out).grown HG9.out (by have:=(below_then HBc.out HU3.out).size; omega) (fun j hj=>by have:=hvb.out j hj; omega));clear KS8 TS1 TV1;go_roundw
    case rel=>exact ⟨n+1,v9,by go_num,rfl,by omega,HO9,RC9,HB9⟩
    case measure=>simp [intOf]; omega
   ·obtain rfl:(n:Int)=sz:=by omega
    have HOF:Hid (OwnI wo w.heap.size 3 .i64 u6 (ringL c k)):=by
     have h1:=HO.out.mono_base (b':=w.heap.size) (by omega);rw [← HRP.out,HSZ.out];exact h1
    clear HO TSS TSV HSW HB8 HRP HSZ;go_wp2_with fail;go_ret;exact ⟨u6,rfl,HOF,HBc⟩
set_option maxRecDepth 100000 in
set_option maxHeartbeats 16000000 in
theorem Start_any (a a2:Option Addr) (cap cap2:Nat) (c:ConfM) (k:Nat) (hk:k<c.caps.length) (hg:c.good) (w:World) (hv:ConfV w (.agg #[.slice a c.caps.length cap,.slice a2 c.starts.length cap2,.int .i64 c.threads]) c):Calls Tryz.prog 45 #[.agg #[.slice a c.caps.length cap,.slice a2 c.starts.length cap2,.int .i64 c.threads],.int .i64 k] w fun e w'=>∃W L,e=.returned (.agg (puL 0 1 W L).toArray)∧Hid (∀w2,NewPart w w' w2→PuV w2 c k 0 0 0 W L)∧Hid (Below w.heap.size w w'):=by
 have HV:=Lib.hid hv;have HWF:=Lib.hid (ringL_wf hg k hk);have HLN:Hid ((ringL c k).length≤140737488351232):=by have:=hg.size k hk; rw [show Hid ((ringL c k).length≤140737488351232)=((ringL c k).length≤140737488351232) from rfl,ringL_length]; omega
 have TRG:=Lib.hid fun w' (hb:Below w.heap.size w w')=>ring_any a a2 cap cap2 c k hk hg w' (HV.out.below hb);have hmk:=make3;clear hv hk hg;obtain ⟨W,hW,HB,R0,R1,hz⟩:=two_new w (.cells #[.slice a c.caps.length cap,.slice a2 c.starts.length cap2,.int .i64 c.threads] 30) (.cells #[.int .i64 0,.int .i64 0,.slice none 0 0,.slice none 0 0,.slice none 0 0] 51);have HW:=Lib.hid hW;clear hW;go_enter Tryz.func45,Tryz.ntmps45;go_upto_region 1 with fail
 rw [HW.out];clear HW;obtain ⟨x0_0,x0_1,x0_2⟩:=rowc3 R0.out;have KSs:Hid (∀w',Below W.heap.size W w'→(fun w':World=>(w'.cell? ⟨w.heap.size,0,none⟩=some (.slice a c.caps.length cap)∧w'.cell? ⟨w.heap.size,1,none⟩=some (.slice a2 c.starts.length cap2)∧w'.cell? ⟨w.heap.size,2,none⟩=some (.int .i64 c.threads))) w'):=fun w' hb=>rowc3 ((hb.block _ (ltR R0)).trans R0.out);clear x0_0 x0_1 x0_2;refine untilK KSs 5 6 (by kernel_rfl) rfl ?_;obtain ⟨u0,hu0,HU0⟩:=drew_pack W;rw [hu0];clear hu0;have hSU0:=KSs.out _ HU0.out;apply tkV 1 hSU0 rfl (by kernel_rfl) (fun _ _ _ h=>h) rfl;intro w hSw;(go_simp<;>with_reducible rfl);simp only [J0,J1,J2,J3,J4];apply tkV 2 hSU0 rfl (by kernel_rfl) (fun _ _ _ h=>h) rfl;intro w hSw;(go_simp<;>with_reducible rfl);simp only [J0,J1,J2,J3,J4];refine wpAnyU_ready (rs:=[0,3]) (by kernel_rfl) rfl ?_;refine AllReadyU.cons ListAt.zero rfl (fun K hK=>?_) ?_
 ·go_simp
  obtain ⟨u1,nb,hv1,hX,RN,hbn,ltn⟩:=alloc_pack u0 (.cells #[.int .u64 0,.int .u64 0,.int .u64 0] 42);rw [hv1,hX];have gen:Hid (w.heap.size+1<nb):=by have h5:=HU0.out.size; have h6:=(ltR R1); show _<_; omega
  have HU1:=Lib.hid (below_then HU0.out hbn.out);clear hv1 hX hbn;refine hK.out _ _ ?_ fun hSU1=>?_;exact KSs.out _ HU1.out;clear hK K hSU0;(try simp only [J0,J1,J2,J3,J4]);refine consU 3 rfl (by kernel_rfl) rfl fun K hK=>?_;go_simp;go_at_call 64;refine (TRG.out _ (below_then HB.out HU1.out)).mono ?_;rintro e u2 ⟨v,rfl,HO,HB3⟩;obtain ⟨la,ln,lc,hve⟩:∃la ln lc,v=.slice la ln lc:=by
   rcases HO.out.shape with ⟨rfl,_⟩ | ⟨g,cp,rfl,_⟩
   ·exact ⟨_,_,_,rfl⟩
   ·exact ⟨_,_,_,rfl⟩
  subst hve;have RNb:=keepR HB3.out RN;have HOs:=Lib.hid (show w.heap.size+2≤u1.heap.size from by have:=HU1.out.size; have:=(ltR R1); omega);have HU2:=Lib.hid (below_then HU1.out HB3.out);clear HB3;refine hK.out _ _ ?_ fun hSU2=>?_;exact KSs.out _ HU2.out;clear hK K hSU1;(try simp only [J0,J1,J2,J3,J4]);apply tkV 4 hSU2 rfl (by kernel_rfl) (fun _ _ _ h=>h) rfl;intro w hSw;(go_simp<;>with_reducible rfl);simp only [J0,J1,J2,J3,J4];refine freeU 5 rfl (by kernel_rfl) rfl (by kernel_rfl) fun K hK=>?_;have ZR:=keepR HU2.out R1;refine step_store_row rfl 51 _ _ rfl (w.heap.size+1) _ rfl rfl 51 _ ZR.out (by kernel_rfl) rfl (by simp [Value.oneCell']) ?_;refine hK.out _ _ ?_;clear hK K hSU2;(try simp only [J0,J1,J2,J3,J4]);refine wpAnyU_done (by kernel_rfl) ?_ _;go_wp2_with fail;refine bodyPost_ret (v:=.agg #[.int .i64 0,.int .i64 1,.slice (some ⟨nb,0,none⟩) 3 3,.slice la ln lc,.slice none 0 0]) (results_cell_row Tryz.results45 _ _ (w.heap.size+1) 51 _ (0,0) _ rfl (setRow_heap _ _ _ _ 51 (0,0) ZR.out) Tryz.underlying51 rfl (by kernel_rfl)) rfl ?_;have hO:OwnI (u2.setRow (w.heap.size+1) #[.int .i64 0,.int .i64 1,.slice (some ⟨nb,0,none⟩) 3 3,.slice la ln lc,.slice none 0 0]) (w.heap.size+2) 3 .i64 (.slice la ln lc) (ringL c k):=by
   have h1:=HO.out.mono_base (b':=w.heap.size+2) HOs.out;exact h1.kept (row_grown _ _ _) (h1.ne (by omega))
  have hN:=(setRow_other u2 (w.heap.size+1) nb #[.int .i64 0,.int .i64 1,.slice (some ⟨nb,0,none⟩) 3 3,.slice la ln lc,.slice none 0 0] (by have:=gen.out; omega)).trans RNb.out;refine ⟨.slice (some ⟨nb,0,none⟩) 3 3,.slice la ln lc,rfl,Lib.hid (fun w9 hn=>⟨sl3_at ((hn.same nb (by have:=gen.out; omega) (Array.getElem?_eq_some_iff.1 hN).1).trans hN) (by decide) (by decide) (by decide),((hO.newPart (by omega) hn).read HLN.out HWF.out)⟩),Lib.hid (row_below (below_then HB.out HU2.out) (by omega) _)⟩
 refine AllReadyU.cons la3 rfl (fun K hK=>?_) ?_
 ·go_simp
  go_at_call 64;refine (TRG.out _ (below_then HB.out HU0.out)).mono ?_;rintro e u1 ⟨v,rfl,HO,HB3⟩;obtain ⟨la,ln,lc,hve⟩:∃la ln lc,v=.slice la ln lc:=by
   rcases HO.out.shape with ⟨rfl,_⟩ | ⟨g,cp,rfl,_⟩
   ·exact ⟨_,_,_,rfl⟩
   ·exact ⟨_,_,_,rfl⟩
  subst hve;have HOs:=Lib.hid (show w.heap.size+2≤u0.heap.size from by have:=HU0.out.size; have:=(ltR R1); omega);have HU1:=Lib.hid (below_then HU0.out HB3.out);clear HB3;refine hK.out _ _ ?_ fun hSU3=>?_;exact KSs.out _ HU1.out;clear hK K hSU0;(try simp only [J0,J1,J2,J3,J4]);refine consU 0 rfl (by kernel_rfl) rfl fun K hK=>?_;go_simp;obtain ⟨u2,nb,hv1,hX,RN,hbn,ltn⟩:=alloc_pack u1 (.cells #[.int .u64 0,.int .u64 0,.int .u64 0] 42);rw [hv1,hX];have gen:Hid (w.heap.size+1<nb):=by have h5:=HU1.out.size; have h6:=(ltR R1); show _<_; omega
  have HOb:=Lib.hid (HO.out.below hbn.out);have HU2:=Lib.hid (below_then HU1.out hbn.out);clear hv1 hX hbn;refine hK.out _ _ ?_ fun hSU4=>?_;exact KSs.out _ HU2.out;clear hK K hSU3;(try simp only [J0,J1,J2,J3,J4]);apply tkV 4 hSU4 rfl (by kernel_rfl) (fun _ _ _ h=>h) rfl;intro w hSw;(go_simp<;>with_reducible rfl);simp only [J0,J1,J2,J3,J4];refine freeU 5 rfl (by kernel_rfl) rfl (by kernel_rfl) fun K hK=>?_;have ZR:=keepR HU2.out R1;refine step_store_row rfl 51 _ _ rfl (w.heap.size+1) _ rfl rfl 51 _ ZR.out (by kernel_rfl) rfl (by simp [Value.oneCell']) ?_;refine hK.out _ _ ?_;clear hK K hSU4;(try simp only [J0,J1,J2,J3,J4]);refine wpAnyU_done (by kernel_rfl) ?_ _;go_wp2_with fail;refine bodyPost_ret (v:=.agg #[.int .i64 0,.int .i64 1,.slice (some ⟨nb,0,none⟩) 3 3,.slice la ln lc,.slice none 0 0]) (results_cell_row Tryz.results45 _ _ (w.heap.size+1) 51 _ (0,0) _ rfl (setRow_heap _ _ _ _ 51 (0,0) ZR.out) Tryz.underlying51 rfl (by kernel_rfl)) rfl ?_;have hO:OwnI (u2.setRow (w.heap.size+1) #[.int .i64 0,.int .i64 1,.slice (some ⟨nb,0,none⟩) 3 3,.slice la ln lc,.slice none 0 0]) (w.heap.size+2) 3 .i64 (.slice la ln lc) (ringL c k):=by
   have h1:=HOb.out.mono_base (b':=w.heap.size+2) HOs.out;exact h1.kept (row_grown _ _ _) (h1.ne (by omega))
  have hN:=(setRow_other u2 (w.heap.size+1) nb #[.int .i64 0,.int .i64 1,.slice (some ⟨nb,0,none⟩) 3 3,.slice la ln lc,.slice none 0 0] (by have:=gen.out; omega)).trans RN.out;refine ⟨.slice (some ⟨nb,0,none⟩) 3 3,.slice la ln lc,rfl,Lib.hid (fun w9 hn=>⟨sl3_at ((hn.same nb (by have:=gen.out; omega) (Array.getElem?_eq_some_iff.1 hN).1).trans hN) (by decide) (by decide) (by decide),((hO.newPart (by omega) hn).read HLN.out HWF.out)⟩),Lib.hid (row_below (below_then HB.out HU2.out) (by omega) _)⟩
 exact AllReadyU.nil
end Go.Proofs.YtjnlkemdaffgbaaGreat.Q4
namespace Go.Proofs.YtjnlkemdaffgbaaGreat
open Go.ChangeShapes Go.WideShapes Go.ChangeAt Go.RowKit
set_option maxRecDepth 100000
def CodesE (w:World) (g:Nat):Prop:=∃r val,CodesAt w g r val
theorem CodesE.lt {w:World} {g:Nat} (h:CodesE w g):g<w.heap.size:=by obtain ⟨r,val,h⟩:=h; exact h.lt
theorem CodesE.kept {w w':World} {g B:Nat} (h:CodesE w g) (hB:g<B) (hb:Below B w w'):CodesE w' g:=by
 obtain ⟨r,val,h⟩:=h; exact ⟨r,val,h.kept hB hb⟩
theorem nextE (g:Nat) (n:Int) (w:World) (h:CodesE w g) (h1:1≤n) (h2:n≤256) :
  Calls Tryz.prog 21 #[.pointer (some ⟨g,0,none⟩),.int .i64 n] w fun e w'=>∃x:Int,e=.returned (.int .i64 x)∧0≤x∧x<n∧CodesE w' g∧w.grownBy w' (some g):=by
 obtain ⟨r,val,h⟩:=h;refine (next_any g r val n w h h1 h2).mono ?_;rintro e w' ⟨rfl,hc,hg⟩;have:=nxt_bd r n h1;exact ⟨_,rfl,this.1,this.2,⟨_,_,hc⟩,hg⟩
def Off (a b:Nat) (w0:World):World→Prop:=fun w=>w0.heap.size≤w.heap.size∧∀j,j<w0.heap.size→j≠a→j≠b→w.heap[j]?=w0.heap[j]?
theorem Off.self (a b:Nat) (w:World):Off a b w w:=⟨Nat.le_refl _,fun _ _ _ _=>rfl⟩
theorem Off.trans {a b:Nat} {w0 w1 w2:World} (h:Off a b w0 w1) (h2:Off a b w1 w2):Off a b w0 w2:=
 ⟨Nat.le_trans h.1 h2.1,fun j hj ha hb=>(h2.2 j (Nat.lt_of_lt_of_le hj h.1) ha hb).trans (h.2 j hj ha hb)⟩
theorem Off.below {a b:Nat} {w w':World} (h:Below w.heap.size w w'):Off a b w w':=⟨h.size,fun j hj _ _=>h.block j hj⟩
theorem Off.wide (a b:Nat) (w0:World):Wide (Off a b w0):=fun _ _ h hb=>h.trans (Off.below hb)
theorem Off.grown {a b:Nat} {w w':World} (h:w.grownBy w' (some a)):Off a b w w':=⟨h.size,fun j hj ha _=>h.block j hj (by simp; omega)⟩
theorem Off.setRow {a b:Nat} (w:World) (cs:Array Value):Off a b w (w.setRow b cs):=⟨by simp [World.setRow],fun j _ _ hb=>setRow_other w b j cs hb⟩
theorem Off.setCell {a b:Nat} (w:World) (o:Nat) (u:Value):Off a b w (w.setCell ⟨b,o,none⟩ u):=⟨by simp,fun j _ _ hb=>heap_setCell_other w ⟨b,o,none⟩ j u hb⟩
theorem Off.nx {a b:Nat} {w0 w w':World} (h:Off a b w0 w) (hb:Below w.heap.size w w') (h1:a<w.heap.size) (h2:b<w.heap.size):∀w2,Off a b w' w2→Nx (Off a b w0) w w' w2:=fun w2 h3=>
 ⟨h.trans ((Off.below hb).trans h3),⟨h3.1,fun j hj hj2=>h3.2 j hj2 (by omega) (by omega)⟩⟩
theorem OwnI.stays {a b:Nat} {w:World} {base:Nat} {e:TypeId} {k:IntKind} {v:Value} {l:List Int} (h:OwnI w base e k v l) (h1:a<base) (h2:b<base) (hl:l.length≤140737488351232) (hw:∀x∈l,x=k.wrap x):StI (Off a b w) k v l:=by
 intro w2 ho;have h3:OwnI w2 base e k v l:=by
  refine ⟨h.1,?_⟩;rcases h.2 with h4 | ⟨g,cap,cur,h4,h5,h6,h7⟩
  ·exact .inl h4
  ·exact .inr ⟨g,cap,cur,h4,h5,(ho.2 g (Array.getElem?_eq_some_iff.1 h6).1 (by omega) (by omega)).trans h6,h7⟩
 exact h3.read hl hw
theorem StI.sub {G H:World→Prop} {k:IntKind} {v:Value} {l:List Int} (h:StI G k v l) (hs:∀w,H w→G w):StI H k v l:=fun w hw=>h w (hs w hw)
theorem CodesE.grown {w w':World} {g b:Nat} (h:CodesE w g) (hg:g<b) (ho:w.grownBy w' (some b)):CodesE w' g:=
 h.kept (B:=g+1) (Nat.lt_succ_self _) ⟨ho.os,ho.tape,ho.output,ho.size,fun j hj=>ho.block j (by have:=h.lt; omega) (by simp; omega)⟩
theorem sl1_at {w:World} {k:IntKind} {b:Nat} {x:Int} {T:TypeId} (h:w.heap[b]?=some (.cells #[.int k x] T (0,0))) (hx:x=k.wrap x):SlI w k (.slice (some ⟨b,0,none⟩) 1 1) [x]:=by
 refine ⟨by simp,by intro z hz; simp at hz; subst hz; exact hx,_,1,rfl,Nat.le_refl _,fun t ht=>⟨b,0,rfl,(Array.getElem?_eq_some_iff.1 h).1,?_⟩⟩;obtain rfl:t=0:=by simp at ht; omega
 exact cell_of_row _ _ 0 _ _ _ h
end Go.Proofs.YtjnlkemdaffgbaaGreat
namespace Go.Proofs.YtjnlkemdaffgbaaGreat.Q4
open Go.ChangeShapes Go.WideShapes Go.ChangeAt Go.RowKit
set_option maxRecDepth 100000
def ownM (m:MachM):Bool:=m.what == 4
structure Sim (NE:ConfM→MachM→AccM) (RE:ConfM→MachM→AnsM→MachM) (ownB:MachM→Bool) (R:(World→Prop)→ConfM→List Value→MachM→Prop):Prop where
 sub:∀{G H:World→Prop} {c:ConfM} {f:List Value} {m:MachM},R G c f m→(∀w,H w→G w)→R H c f m
 form:∀{G:World→Prop} {c:ConfM} {f:List Value} {m:MachM},R G c f m→ownB m=true→∃r0 r1 a2 n2 c2 a3 n3 c3 a4 n4 c4,f=[.int .i64 r0,.int .i64 r1,.slice a2 n2 c2,.slice a3 n3 c3,.slice a4 n4 c4]
 ends:∀{G:World→Prop} {c:ConfM} {f:List Value} {m:MachM} (w:World),G w→R G c f m→ownB m=true→Calls Tryz.prog 29 #[.agg f.toArray] w fun e w'=>e=.returned (.tuple #[.agg #[.int .i64 m.ok,.int .u64 m.ov],.bool (m.pl == 0)])∧Below w.heap.size w w'
 next:∀{G:World→Prop} {c:ConfM} {f:List Value} {m:MachM} (w:World),G w→R G c f m→ownB m=true→Calls Tryz.prog 74 #[.agg f.toArray] w fun e w'=>e=.returned (accV (NE c m))∧Below w.heap.size w w'
 resume:∀{G:World→Prop} {c:ConfM} {f:List Value} {m:MachM} (w:World) (b:AnsM) (zA:Option Addr) (zn zc:Nat),U64 b.val→G w→R G c f m→ownB m=true→m.pl≠0→Calls Tryz.prog 77 #[.agg f.toArray,.agg #[.int .u64 b.val,.bool b.ok,.bool b.late,.slice zA zn zc]] w fun e w'=>∃f2,e=.returned (.agg f2.toArray)∧R (Nx G w w') c f2 (RE c m b)∧Below w.heap.size w w'
 stays:∀(c:ConfM) (m:MachM) (b:AnsM),ownB (RE c m b)=ownB m
 others:∀(G:World→Prop) (c:ConfM) (f:List Value) (m:MachM),ownB m=false→R G c f m
def PuR (G:World→Prop) (c:ConfM) (f:List Value) (m:MachM):Prop:=
 ownM m=true→c.good∧rgK c m∧((m.pl=0∧∃wa wc,f=puL m.ok 8 (.slice wa 1 wc) nilS∧∀w,G w→SlI w .u64 (.slice wa 1 wc) [m.ov])
  ∨(m.pl≠0∧m.ok=0∧m.ov=0∧∃wa wn wc la ln lc x,f=puL 0 m.pl (.slice wa wn wc) (.slice la ln lc)∧(m.pl=7→x=m.val)∧∀w,G w→PuV w c m.chan.toNat m.h m.t x (.slice wa wn wc) (.slice la ln lc)))
theorem own_what {m:MachM} (h:ownM m=true):m.what=4:=by unfold ownM at h; simpa using h
theorem pu_same {G:World→Prop} {w w':World} {c:ConfM} {m r:MachM} {wa la:Option Addr} {wn wc ln lc:Nat} {x:Int} (hg:c.good) (hK:rgK c r) (hv:∀w,G w→PuV w c m.chan.toNat m.h m.t x (.slice wa wn wc) (.slice la ln lc)) (h0:r.pl≠0) (h7:r.pl≠7) (h1:r.ok=0) (h2:r.ov=0) (h3:r.chan=m.chan) (h4:r.h=m.h) (h5:r.t=m.t) {pc:Int} (hpc:r.pl=pc):PuR (Nx G w w') c (puL 0 pc (.slice wa wn wc) (.slice la ln lc)) r:=fun _=>
 ⟨hg,hK,.inr ⟨h0,h1,h2,wa,wn,wc,la,ln,lc,x,by rw [hpc],fun e=>absurd e h7,fun w2 h=>by rw [h3,h4,h5]; exact hv w2 h.1⟩⟩
theorem pu_end {G:World→Prop} {w w':World} {c:ConfM} {r:MachM} {nb:Nat} {v:Int} (hg:c.good) (hK:rgK c r) (hn:w'.heap[nb]?=some (.cells #[.int .u64 v] 42 (0,0))) (hb:w.heap.size≤nb) (h0:r.pl=0) (h2:r.ov=v) (hu:U64 v) {k:Int} (hk:r.ok=k):PuR (Nx G w w') c (puL k 8 (.slice (some ⟨nb,0,none⟩) 1 1) nilS) r:=fun _=>
 ⟨hg,hK,.inl ⟨h0,_,_,by rw [hk],fun w2 h=>by rw [h2]; exact sl1_at ((h.2.same nb hb (Array.getElem?_eq_some_iff.1 hn).1).trans hn) hu.wrap⟩⟩
theorem pu_new {G:World→Prop} {w w':World} {c:ConfM} {m r:MachM} {W:Value} {la:Option Addr} {ln lc nb:Nat} {x y:Int} (hg:c.good) (hK:rgK c r) (hv:∀w,G w→PuV w c m.chan.toNat m.h m.t x W (.slice la ln lc)) {pc:Int} (h0:r.pl=pc) (hpc:pc≠0) (h1:r.ok=0) (h2:r.ov=0) (h3:r.chan=m.chan) (h7:r.pl=7→y=r.val)
  (hn:w'.heap[nb]?=some (.cells #[.int .u64 r.h,.int .u64 r.t,.int .u64 y] 42 (0,0))) (hu:U64 y) (hb:w.heap.size≤nb):PuR (Nx G w w') c (puL 0 pc (.slice (some ⟨nb,0,none⟩) 3 3) (.slice la ln lc)) r:=fun _=>
 ⟨hg,hK,.inr ⟨by rw [h0]; exact hpc,h1,h2,_,_,_,la,ln,lc,y,by rw [h0],h7,fun w2 h=>⟨sl3_at ((h.2.same nb hb (Array.getElem?_eq_some_iff.1 hn).1).trans hn) hK.h.wrap hK.t.wrap hu.wrap,by rw [h3]; exact (hv w2 h.1).L⟩⟩⟩
theorem PuV.x64 {w:World} {c:ConfM} {k:Nat} {h t x:Int} {W L:Value} (hv:PuV w c k h t x W L):U64 x:=U64.of (hv.W.2.1 x (by simp))
theorem pu_sim:Sim rgNE rgRE ownM PuR where
 sub:=fun h hw ho=>⟨(h ho).1,(h ho).2.1,(h ho).2.2.imp (fun ⟨h1,wa,wc,h2,h3⟩=>⟨h1,wa,wc,h2,fun w hG=>h3 w (hw w hG)⟩) fun ⟨h1,h2,h3,wa,wn,wc,la,ln,lc,x,h4,h5,h6⟩=>⟨h1,h2,h3,wa,wn,wc,la,ln,lc,x,h4,h5,fun w hG=>h6 w (hw w hG)⟩⟩
 form:=fun h ho=>by
  obtain ⟨-,-,⟨_,wa,wc,rfl,_⟩ | ⟨_,_,_,wa,wn,wc,la,ln,lc,x,rfl,_⟩⟩:=h ho
  ·exact ⟨_,_,_,_,_,_,_,_,_,_,_,rfl⟩
  ·exact ⟨_,_,_,_,_,_,_,_,_,_,_,rfl⟩
 ends:=fun w hG h ho=>by
  obtain ⟨hg,hK,⟨h1,wa,wc,rfl,h2⟩ | ⟨h1,h2,h3,wa,wn,wc,la,ln,lc,x,rfl,-,hv⟩⟩:=h ho
  ·obtain ⟨wb,wo,wc2,e1,-,h3,h4⟩:=(h2 w hG).open (by simp)
   have e2:=e1;simp only [List.length_cons,List.length_nil,Value.slice.injEq] at e2;obtain ⟨rfl,-,rfl⟩:=e2;rw [h1];exact End_end _ _ wb wo wc _ _ ⟨_,_,_,rfl⟩ ⟨_,_,_,rfl⟩ w h3 (by have:=h4 0 (by simp); simpa using this)
  ·rw [h2,h3,show (_ == (0:Int))=false from by simpa using h1]
   exact End_run _ _ (by have:=hK.pl; omega) _ _ _ ⟨_,_,_,rfl⟩ ⟨_,_,_,rfl⟩ ⟨_,_,_,rfl⟩ w
 next:=fun {G c f m} w hG h ho=>by
  have hw:=own_what ho;obtain ⟨hg,hK,⟨h1,wa,wc,rfl,h2⟩ | ⟨h1,h2,h3,wa,wn,wc,la,ln,lc,x,rfl,-,hv⟩⟩:=h ho
  ·unfold rgNE
   rw [if_pos h1];exact pNextE _ wa wc w
  ·unfold rgNE
   rw [if_neg h1,if_neg (by omega),if_pos hw];have hk:m.chan.toNat<c.caps.length:=by obtain ⟨k,hk,e⟩:=hK.chan; omega
   have hps:m.pl=1∨m.pl=2∨m.pl=3∨m.pl=4∨m.pl=5∨m.pl=6∨m.pl=7:=by have:=hK.pl; omega
   rcases hps with hp | hp | hp | hp | hp | hp | hp
   ·rw [show popNE c m.chan.toNat m=_ from by unfold popNE; simp only [hp]; rfl,hp]; exact pNext1 c _ hk hg m.h m.t x hK.h _ _ w (hv w hG)
   ·rw [show popNE c m.chan.toNat m=_ from by unfold popNE; simp only [hp]; rfl,hp]; exact pNext2 c _ hk hg m.h m.t x hK.h _ _ w (hv w hG)
   ·rw [show popNE c m.chan.toNat m=_ from by unfold popNE; simp only [hp]; rfl,hp]; exact pNext3 c _ hk hg m.h m.t x hK.h _ _ w (hv w hG)
   ·rw [show popNE c m.chan.toNat m=_ from by unfold popNE; simp only [hp]; rfl,hp]; exact pNext4 c _ hk hg m.h m.t x hK.h _ _ w (hv w hG)
   ·rw [show popNE c m.chan.toNat m=_ from by unfold popNE; simp only [hp]; rfl,hp]; exact pNext5 c _ hk hg m.h m.t x hK.h _ _ w (hv w hG)
   ·rw [show popNE c m.chan.toNat m=_ from by unfold popNE; simp only [hp]; rfl,hp]; exact pNext6 c _ hk hg m.h m.t x hK.h _ _ w (hv w hG)
   ·rw [show popNE c m.chan.toNat m=_ from by unfold popNE; simp only [hp]; rfl,hp]; exact pNext7 c _ hk hg m.h m.t x hK.h _ _ w (hv w hG)
 resume:=fun {G c f m} w b zA zn zc hbv hG h ho hp=>by
  have hw:=own_what ho;obtain ⟨hg,hK,⟨h1,wa,wc,rfl,h2⟩ | ⟨hp2,hok,hov,wa,wn,wc,la,ln,lc,x,rfl,hx7,hv⟩⟩:=h ho
  ·exact absurd h1 hp
  have KR:=rgK_RE hK hbv;have hk:m.chan.toNat<c.caps.length:=by obtain ⟨k,hk,e⟩:=hK.chan; omega
  by_cases h1:m.pl=1
  ·rw [h1]
   have e:rgRE c m b={ m with h:=b.val,pl:=2 }:=by unfold rgRE; rw [if_neg hp,if_neg (by omega),if_pos hw]; unfold popRE; rw [if_pos h1]
   rw [e] at KR ⊢;refine (pRes1 c _ hk hg m.h m.t x hK.h _ _ w (hv w hG) _ _ _ zA zn zc).mono ?_;rintro e' w' ⟨nb,rfl,hn,hnb,hb'⟩;exact ⟨_,rfl,pu_new (m:=m) hg KR hv (pc:=2) rfl (by decide) hok hov rfl (fun e9=>absurd (show (2:Int)=7 from e9) (by decide)) hn.out (hv w hG).x64 hnb.out,hb'.out⟩
  by_cases h2:m.pl=2
  ·rw [h2]
   by_cases he:restI (b.val / 2) m.h=0
   ·have e:rgRE c m b={ m with t:=b.val,pl:=3 }:=by unfold rgRE; rw [if_neg hp,if_neg (by omega),if_pos hw]; unfold popRE; rw [if_neg h1,if_pos h2,if_pos he]
    rw [e] at KR ⊢;refine (pRes2z c _ hk hg m.h m.t x hK.h _ _ w (hv w hG) _ _ _ zA zn zc he).mono ?_;rintro e' w' ⟨nb,rfl,hn,hnb,hb'⟩;exact ⟨_,rfl,pu_new (m:=m) hg KR hv (pc:=3) rfl (by decide) hok hov rfl (fun e9=>absurd (show (3:Int)=7 from e9) (by decide)) hn.out (hv w hG).x64 hnb.out,hb'.out⟩
   by_cases hl:c.caps.getD m.chan.toNat 0<restI (b.val / 2) m.h
   ·have e:rgRE c m b={ m with t:=b.val,pl:=1 }:=by unfold rgRE; rw [if_neg hp,if_neg (by omega),if_pos hw]; unfold popRE; rw [if_neg h1,if_pos h2,if_neg he,if_pos hl]
    rw [e] at KR ⊢;refine (pRes2g c _ hk hg m.h m.t x hK.h _ _ w (hv w hG) _ _ _ zA zn zc he hl).mono ?_;rintro e' w' ⟨nb,rfl,hn,hnb,hb'⟩;exact ⟨_,rfl,pu_new (m:=m) hg KR hv (pc:=1) rfl (by decide) hok hov rfl (fun e9=>absurd (show (1:Int)=7 from e9) (by decide)) hn.out (hv w hG).x64 hnb.out,hb'.out⟩
   ·have e:rgRE c m b={ m with t:=b.val,pl:=4 }:=by unfold rgRE; rw [if_neg hp,if_neg (by omega),if_pos hw]; unfold popRE; rw [if_neg h1,if_pos h2,if_neg he,if_neg hl]
    rw [e] at KR ⊢;refine (pRes2l c _ hk hg m.h m.t x hK.h _ _ w (hv w hG) _ _ _ zA zn zc he hl).mono ?_;rintro e' w' ⟨nb,rfl,hn,hnb,hb'⟩;exact ⟨_,rfl,pu_new (m:=m) hg KR hv (pc:=4) rfl (by decide) hok hov rfl (fun e9=>absurd (show (4:Int)=7 from e9) (by decide)) hn.out (hv w hG).x64 hnb.out,hb'.out⟩
  by_cases h3:m.pl=3
  ·rw [h3]
   by_cases he:¬b.val=m.h
   ·have e:rgRE c m b={ m with h:=b.val,pl:=2 }:=by unfold rgRE; rw [if_neg hp,if_neg (by omega),if_pos hw]; unfold popRE; rw [if_neg h1,if_neg h2,if_pos h3,if_pos he]
    rw [e] at KR ⊢;refine (pRes3n c _ hk hg m.h m.t x hK.h _ _ w (hv w hG) _ _ _ zA zn zc he).mono ?_;rintro e' w' ⟨nb,rfl,hn,hnb,hb'⟩;exact ⟨_,rfl,pu_new (m:=m) hg KR hv (pc:=2) rfl (by decide) hok hov rfl (fun e9=>absurd (show (2:Int)=7 from e9) (by decide)) hn.out (hv w hG).x64 hnb.out,hb'.out⟩
   have he2:b.val=m.h:=Decidable.not_not.1 he;cases hcl:closedB m.t with
   | true=>
    have e:rgRE c m b={ m with pl:=0,ok:=5,ov:=0 }:=by unfold rgRE; rw [if_neg hp,if_neg (by omega),if_pos hw]; unfold popRE; rw [if_neg h1,if_neg h2,if_pos h3,if_neg he,if_pos hcl]
    rw [e] at KR ⊢;rw [he2];refine (pRes3c c _ hk hg m.h m.t x hK.h _ _ w (hv w hG) _ _ zA zn zc hK.t.1 hK.t.2 hcl).mono ?_;rintro e' w' ⟨nb,rfl,hn,hnb,hb'⟩;exact ⟨_,rfl,pu_end hg KR hn.out hnb.out rfl rfl U64.zero rfl,hb'.out⟩
   | false=>
    have e:rgRE c m b={ m with pl:=0,ok:=3,ov:=0 }:=by unfold rgRE; rw [if_neg hp,if_neg (by omega),if_pos hw]; unfold popRE; rw [if_neg h1,if_neg h2,if_pos h3,if_neg he,if_neg (by simp [hcl])]
    rw [e] at KR ⊢;rw [he2];refine (pRes3o c _ hk hg m.h m.t x hK.h _ _ w (hv w hG) _ _ zA zn zc hK.t.1 hK.t.2 hcl).mono ?_;rintro e' w' ⟨nb,rfl,hn,hnb,hb'⟩;exact ⟨_,rfl,pu_end hg KR hn.out hnb.out rfl rfl U64.zero rfl,hb'.out⟩
  by_cases h4:m.pl=4
  ·rw [h4]
   by_cases he:b.val=nextI m.h 1
   ·have e:rgRE c m b={ m with pl:=5 }:=by unfold rgRE; rw [if_neg hp,if_neg (by omega),if_pos hw]; unfold popRE; rw [if_neg h1,if_neg h2,if_neg h3,if_pos h4,if_pos he]
    rw [e] at KR ⊢;refine (pRes4e c _ hk hg m.h m.t x hK.h _ _ w (hv w hG) _ _ _ zA zn zc he.symm).mono ?_;rintro e' w' ⟨rfl,hb'⟩;exact ⟨_,rfl,pu_same (m:=m) hg KR hv (by show (5:Int)≠0; decide) (by show (5:Int)≠7; decide) hok hov rfl rfl rfl rfl,hb'⟩
   ·have e:rgRE c m b={ m with pl:=1 }:=by unfold rgRE; rw [if_neg hp,if_neg (by omega),if_pos hw]; unfold popRE; rw [if_neg h1,if_neg h2,if_neg h3,if_pos h4,if_neg he]
    rw [e] at KR ⊢;refine (pRes4n c _ hk hg m.h m.t x hK.h _ _ w (hv w hG) _ _ _ zA zn zc he).mono ?_;rintro e' w' ⟨rfl,hb'⟩;exact ⟨_,rfl,pu_same (m:=m) hg KR hv (by show (1:Int)≠0; decide) (by show (1:Int)≠7; decide) hok hov rfl rfl rfl rfl,hb'⟩
  by_cases h5:m.pl=5
  ·rw [h5]
   cases hbo:b.ok with
   | true=>
    have e:rgRE c m b={ m with pl:=6 }:=by unfold rgRE; rw [if_neg hp,if_neg (by omega),if_pos hw]; unfold popRE; rw [if_neg h1,if_neg h2,if_neg h3,if_neg h4,if_pos h5,if_pos hbo]
    rw [e] at KR ⊢;refine (pRes5k c _ hk hg m.h m.t x hK.h _ _ w (hv w hG) _ _ zA zn zc).mono ?_;rintro e' w' ⟨rfl,hb'⟩;exact ⟨_,rfl,pu_same (m:=m) hg KR hv (by show (6:Int)≠0; decide) (by show (6:Int)≠7; decide) hok hov rfl rfl rfl rfl,hb'⟩
   | false=>
    have e:rgRE c m b={ m with pl:=1 }:=by unfold rgRE; rw [if_neg hp,if_neg (by omega),if_pos hw]; unfold popRE; rw [if_neg h1,if_neg h2,if_neg h3,if_neg h4,if_pos h5,if_neg (by simp [hbo])]
    rw [e] at KR ⊢;refine (pRes5n c _ hk hg m.h m.t x hK.h _ _ w (hv w hG) _ _ zA zn zc).mono ?_;rintro e' w' ⟨rfl,hb'⟩;exact ⟨_,rfl,pu_same (m:=m) hg KR hv (by show (1:Int)≠0; decide) (by show (1:Int)≠7; decide) hok hov rfl rfl rfl rfl,hb'⟩
  by_cases h6:m.pl=6
  ·rw [h6]
   have e:rgRE c m b={ m with val:=b.val,pl:=7 }:=by unfold rgRE; rw [if_neg hp,if_neg (by omega),if_pos hw]; unfold popRE; rw [if_neg h1,if_neg h2,if_neg h3,if_neg h4,if_neg h5,if_pos h6]
   rw [e] at KR ⊢;refine (pRes6 c _ hk hg m.h m.t x hK.h _ _ w (hv w hG) _ _ _ zA zn zc).mono ?_;rintro e' w' ⟨nb,rfl,hn,hnb,hb'⟩;exact ⟨_,rfl,pu_new (m:=m) hg KR hv (pc:=7) rfl (by decide) hok hov rfl (fun _=>rfl) hn.out hbv hnb.out,hb'.out⟩
  have h7:m.pl=7:=by have:=hK.pl; omega
  rw [h7];have e:rgRE c m b={ m with pl:=0,ok:=6,ov:=m.val }:=by unfold rgRE; rw [if_neg hp,if_neg (by omega),if_pos hw]; unfold popRE; rw [if_neg h1,if_neg h2,if_neg h3,if_neg h4,if_neg h5,if_neg h6]
  rw [e] at KR ⊢;refine (pRes7 c _ hk hg m.h m.t x hK.h _ _ w (hv w hG) _ _ _ zA zn zc).mono ?_;rintro e' w' ⟨nb,rfl,hn,hnb,hb'⟩;exact ⟨_,rfl,pu_end hg KR hn.out hnb.out rfl (hx7 h7).symm (hv w hG).x64 rfl,hb'.out⟩
 stays:=fun c m b=>by unfold ownM; rw [rgRE_what]
 others:=fun G c f m h ho=>by rw [h] at ho; cases ho
theorem pu_begin {c:ConfM} (hg:c.good) (k:Nat) (th v:Int) (hv:U64 v) (hk:k<c.caps.length) (a a2:Option Addr) (cap cap2:Nat) (w:World) (hcv:ConfV w (.agg #[.slice a c.caps.length cap,.slice a2 c.starts.length cap2,.int .i64 c.threads]) c):Calls Tryz.prog 45 #[.agg #[.slice a c.caps.length cap,.slice a2 c.starts.length cap2,.int .i64 c.threads],.int .i64 k] w fun e w'=>∃f,e=.returned (.agg f.toArray)∧PuR (NewPart w w') c f ⟨4,1,k,th,v % 4,v % 8,v,0,0,0,0⟩∧Below w.heap.size w w':=by
 refine (Start_any a a2 cap cap2 c k hk hg w hcv).mono ?_;rintro e w' ⟨W,L,rfl,hp,hb⟩;obtain ⟨wb,wo,wc,lb,lo,lc,rfl,rfl,-⟩:=(hp.out w' (NewPart.self _ _)).open;have hK:rgK c ⟨4,1,k,th,v % 4,v % 8,v,0,0,0,0⟩:=rgK_new c 4 k th v (by omega) hk hv;exact ⟨_,rfl,fun _=>⟨hg,hK,.inr ⟨by show (1:Int)≠0; omega,rfl,rfl,_,_,_,_,_,_,0,rfl,fun e9=>absurd (show (1:Int)=7 from e9) (by decide),fun w2 h=>hp.out w2 h⟩⟩,hb.out⟩
end Go.Proofs.YtjnlkemdaffgbaaGreat.Q4
namespace Go.Proofs.YtjnlkemdaffgbaaGreat.Q5
open Go.ChangeShapes Go.WideShapes Go.ChangeAt Go.RowKit
set_option maxRecDepth 100000
theorem one_new (w:World) (a:Obj):∃W,w.alloc a=W∧Hid (Below w.heap.size w W)∧Hid (W.heap[w.heap.size]?=some a)∧w.heap.size+1=W.heap.size:=
 ⟨_,rfl,below_new (Below.refl w.heap.size w) _,heap_alloc_new _ _,by simp⟩
theorem make1 (w':World):(Instr.makeSlice 28 (.int .i64 1) (.int .i64 1)).run Tryz.prog w'=.ok (.slice (some ⟨w'.heap.size,0,none⟩) 1 1) (w'.alloc (.cells #[.int .u64 0] 42)):=
by
 have e:=run_make_row' (P:=Tryz.prog) 28 42 (.int .u64 0) 8 Tryz.underlying28 Tryz.info_u64 rfl .i64 .i64 1 (by omega) (by omega) w';have hm:madeCells #[Value.int .u64 0] 1=#[.int .u64 0]:=Array.ext' (by rw [toList_madeCells_one]; rfl);rw [hm] at e;exact e
def puL (code pc:Int) (W L:Value):List Value:=[.int .i64 code,.int .i64 pc,W,L,.slice none 0 0]
def nilS:Value:=.slice none 0 0
structure PuV (w:World) (c:ConfM) (k:Nat) (x:Int) (W L:Value):Prop where
 W:SlI w .u64 W [x]
 L:SlI w .i64 L [c.base k]
theorem PuV.below {w w':World} {c:ConfM} {k:Nat} {x:Int} {W L:Value} (h:PuV w c k x W L) (hb:Below w.heap.size w w'):PuV w' c k x W L:=⟨h.W.below hb,h.L.below hb⟩
theorem PuV.open {w:World} {c:ConfM} {k:Nat} {x:Int} {W L:Value} (h:PuV w c k x W L) :
  ∃wb wo wc lb lo lc,W=.slice (some ⟨wb,wo,none⟩) 1 wc∧L=.slice (some ⟨lb,lo,none⟩) 1 lc∧wb<w.heap.size∧lb<w.heap.size∧w.cell? ⟨wb,wo,none⟩=some (.int .u64 x)∧w.cell? ⟨lb,lo,none⟩=some (.int .i64 (c.base k)):=by
 obtain ⟨wb,wo,wc,e1,-,h1,h2⟩:=h.W.open (by simp);obtain ⟨lb,lo,lc,e2,-,h3,h4⟩:=h.L.open (by simp);exact ⟨wb,wo,wc,lb,lo,lc,e1,e2,h1,h3,h2 0 (by simp),h4 0 (by simp)⟩
set_option maxRecDepth 100000 in
set_option maxHeartbeats 16000000 in
theorem complete_run (code pc:Int) (wb wo wc lb lo lc:Nat) (w:World):Calls Tryz.prog 105 #[.agg #[.int .i64 code,.int .i64 pc,.slice (some ⟨wb,wo,none⟩) 1 wc,.slice (some ⟨lb,lo,none⟩) 1 lc,.slice none 0 0]] w fun e w'=>e=.returned (.bool true)∧Below w.heap.size w w':=by
 obtain ⟨W,hW,HB,R0,hz⟩:=one_new w (.cells #[.int .i64 code,.int .i64 pc,.slice (some ⟨wb,wo,none⟩) 1 wc,.slice (some ⟨lb,lo,none⟩) 1 lc,.slice none 0 0] 51);have HW:=Lib.hid hW;clear hW;go_enter Tryz.func105,Tryz.ntmps105;go_upto_region 1 with fail
 rw [HW.out];clear HW;obtain ⟨x0_0,x0_1,x0_2,x0_3,x0_4⟩:=rowc5 R0.out;go_wp2;go_ret;exact ⟨rfl,HB.out⟩
set_option maxRecDepth 100000 in
set_option maxHeartbeats 16000000 in
theorem complete_not (code pc:Int) (L U:Value) (hL:∃a n c,L=.slice a n c) (hU:∃a n c,U=.slice a n c) (w:World):Calls Tryz.prog 105 #[.agg #[.int .i64 code,.int .i64 pc,.slice none 0 0,L,U]] w fun e w'=>e=.returned (.bool false)∧Below w.heap.size w w':=by
 obtain ⟨a,n,c,rfl⟩:=hL;obtain ⟨a2,n2,c2,rfl⟩:=hU;obtain ⟨W,hW,HB,R0,hz⟩:=one_new w (.cells #[.int .i64 code,.int .i64 pc,.slice none 0 0,.slice a n c,.slice a2 n2 c2] 51);have HW:=Lib.hid hW;clear hW;go_enter Tryz.func105,Tryz.ntmps105;go_upto_region 1 with fail
 rw [HW.out];clear HW;obtain ⟨x0_0,x0_1,x0_2,x0_3,x0_4⟩:=rowc5 R0.out;go_wp2;go_ret;exact ⟨rfl,HB.out⟩
set_option maxRecDepth 100000 in
set_option maxHeartbeats 16000000 in
theorem end_any (k:Int) (w:World):Calls Tryz.prog 114 #[.int .i64 k] w fun e w'=>e=.returned (.agg #[.int .i64 k,.int .i64 3,.slice none 0 0,.slice none 0 0,.slice none 0 0])∧Below w.heap.size w w':=by
 obtain ⟨W,hW,HB,R0,hz⟩:=one_new w (.cells #[.int .i64 0,.int .i64 0,.slice none 0 0,.slice none 0 0,.slice none 0 0] 51);have HW:=Lib.hid hW;clear hW;go_enter Tryz.func114,Tryz.ntmps114;go_upto_region 1 with fail
 rw [HW.out];clear HW;go_wp2_with (refine wpList_store_row rfl 51 _ _ rfl (w.heap.size) _ rfl rfl 51 _ R0.out (by kernel_rfl) rfl (by simp [Value.oneCell']) ?_);refine bodyPost_ret (v:=.agg #[.int .i64 k,.int .i64 3,.slice none 0 0,.slice none 0 0,.slice none 0 0]) (results_cell_row Tryz.results114 _ _ (w.heap.size) 51 _ (0,0) _ rfl (setRow_heap _ _ _ _ 51 (0,0) R0.out) Tryz.underlying51 rfl (by kernel_rfl)) rfl ?_;exact ⟨rfl,row_below HB.out (by omega) _⟩
set_option maxRecDepth 100000 in
set_option maxHeartbeats 16000000 in
theorem End_run (code pc:Int) (hpc:¬pc=3) (W L U:Value) (hW:∃a n c,W=.slice a n c) (hL:∃a n c,L=.slice a n c) (hU:∃a n c,U=.slice a n c) (w:World):Calls Tryz.prog 30 #[.agg #[.int .i64 code,.int .i64 pc,W,L,U]] w fun e w'=>e=.returned (.tuple #[.agg #[.int .i64 0,.int .u64 0],.bool false])∧Below w.heap.size w w':=by
 obtain ⟨a,n,c,rfl⟩:=hW;obtain ⟨a2,n2,c2,rfl⟩:=hL;obtain ⟨a3,n3,c3,rfl⟩:=hU;obtain ⟨W,hW,HB,R0,R1,hz⟩:=two_new w (.cells #[.int .i64 code,.int .i64 pc,.slice a n c,.slice a2 n2 c2,.slice a3 n3 c3] 51) (.cells #[.int .i64 0,.int .u64 0] 47);have HW:=Lib.hid hW;clear hW;go_enter Tryz.func30,Tryz.ntmps30;go_upto_region 1 with fail
 rw [HW.out];clear HW;obtain ⟨x0_0,x0_1,x0_2,x0_3,x0_4⟩:=rowc5 R0.out;go_wp2_with (refine wpList_store_row rfl 47 _ _ rfl (w.heap.size+1) _ rfl rfl 47 _ R1.out (by kernel_rfl) rfl (by simp [Value.oneCell']) ?_);clear x0_0 x0_1 x0_2 x0_3 x0_4;refine bodyPost_ret (v:=.tuple #[.agg #[.int .i64 0,.int .u64 0],.bool false]) (results_cell_tmp Tryz.results30 _ _ (w.heap.size+1) 47 _ (0,0) _ rfl (setRow_heap _ _ _ _ 47 (0,0) R1.out) Tryz.underlying47 rfl (by kernel_rfl) _ rfl) rfl ?_;exact ⟨rfl,row_below HB.out (by omega) _⟩
set_option maxRecDepth 100000 in
set_option maxHeartbeats 16000000 in
theorem End_end (code:Int) (W L U:Value) (hW:∃a n c,W=.slice a n c) (hL:∃a n c,L=.slice a n c) (hU:∃a n c,U=.slice a n c) (w:World):Calls Tryz.prog 30 #[.agg #[.int .i64 code,.int .i64 3,W,L,U]] w fun e w'=>e=.returned (.tuple #[.agg #[.int .i64 code,.int .u64 0],.bool true])∧Below w.heap.size w w':=by
 obtain ⟨a,n,c,rfl⟩:=hW;obtain ⟨a2,n2,c2,rfl⟩:=hL;obtain ⟨a3,n3,c3,rfl⟩:=hU;obtain ⟨W,hW,HB,R0,R1,hz⟩:=two_new w (.cells #[.int .i64 code,.int .i64 3,.slice a n c,.slice a2 n2 c2,.slice a3 n3 c3] 51) (.cells #[.int .i64 0,.int .u64 0] 47);have HW:=Lib.hid hW;clear hW;go_enter Tryz.func30,Tryz.ntmps30;go_upto_region 1 with fail
 rw [HW.out];clear HW;obtain ⟨x0_0,x0_1,x0_2,x0_3,x0_4⟩:=rowc5 R0.out;go_wp2_with (refine wpList_store_row rfl 47 _ _ rfl (w.heap.size+1) _ rfl rfl 47 _ R1.out (by kernel_rfl) rfl (by simp [Value.oneCell']) ?_);clear x0_0 x0_1 x0_2 x0_3 x0_4;refine bodyPost_ret (v:=.tuple #[.agg #[.int .i64 code,.int .u64 0],.bool true]) (results_cell_tmp Tryz.results30 _ _ (w.heap.size+1) 47 _ (0,0) _ rfl (setRow_heap _ _ _ _ 47 (0,0) R1.out) Tryz.underlying47 rfl (by kernel_rfl) _ rfl) rfl ?_;exact ⟨rfl,row_below HB.out (by omega) _⟩
end Go.Proofs.YtjnlkemdaffgbaaGreat.Q5
namespace Go.Proofs.YtjnlkemdaffgbaaGreat.Q5
open Go.ChangeShapes Go.WideShapes Go.ChangeAt Go.RowKit
set_option maxRecDepth 100000
set_option maxRecDepth 100000 in
set_option maxHeartbeats 16000000 in
theorem pNext1 (c:ConfM) (k:Nat) (x:Int) (W L:Value) (w:World) (hv:PuV w c k x W L):Calls Tryz.prog 75 #[.agg (puL 0 1 W L).toArray] w fun e w'=>e=.returned (accV ⟨1,c.base k,0,0,0⟩)∧Below w.heap.size w w':=by
 obtain ⟨wb,wo,wc,lb,lo,lc,rfl,rfl,hwb,hlb,hw0,hl0⟩:=hv.open;have HK0:=Lib.hid (hl0);have hbk0:lb<w.heap.size:=hlb;obtain ⟨W,hW,HB,R0,R1,hz⟩:=two_new w (.cells #[.int .i64 0,.int .i64 1,.slice (some ⟨wb,wo,none⟩) 1 wc,.slice (some ⟨lb,lo,none⟩) 1 lc,.slice none 0 0] 51) (.cells #[.int .i64 0,.int .i64 0,.int .u64 0,.int .u64 0,.int .i64 0] 56);have HW:=Lib.hid hW;clear hW;have TCM:=Lib.hid fun w'=>complete_run 0 1 wb wo wc lb lo lc w';have TSQ:=Lib.hid fun w'=>seq_any x w';unfold puL accV;try dsimp only
 obtain ⟨sq,hsq⟩:∃sq,x / 2=sq:=⟨_,rfl⟩;rw [hsq] at TSQ;try rw [hsq]
 obtain ⟨tl,htl⟩:∃tl,c.base k=tl:=⟨_,rfl⟩;rw [htl] at hl0 HK0;rw [htl];clear hsq htl;go_enter Tryz.func75,Tryz.ntmps75;go_upto_region 1 with fail
 rw [HW.out];clear HW;obtain ⟨x0_0,x0_1,x0_2,x0_3,x0_4⟩:=rowc5 R0.out;have ck0:=(HB.out.cell (p:=⟨lb,lo,none⟩) hbk0).trans HK0.out;go_wp2_with fail;refine (TCM.out _).mono ?_; rintro e w1 ⟨rfl,hb1⟩;have P1_0:=keepR hb1 R0;have P1_1:=keepR hb1 R1;have HB1:=Lib.hid (below_then HB.out hb1);clear x0_0 x0_1 x0_2 x0_3 x0_4 ck0;clear hb1;obtain ⟨x0_0,x0_1,x0_2,x0_3,x0_4⟩:=rowc5 P1_0.out;have ck0:=(HB1.out.cell (p:=⟨lb,lo,none⟩) hbk0).trans HK0.out;go_wp2_with (refine wpList_store_row rfl 56 _ _ rfl (w.heap.size+1) _ rfl rfl 56 _ P1_1.out (by kernel_rfl) rfl (by simp [Value.oneCell']) ?_);refine bodyPost_ret (v:=.agg #[.int .i64 1,.int .i64 tl,.int .u64 0,.int .u64 0,.int .i64 0]) (results_cell_row Tryz.results75 _ _ (w.heap.size+1) 56 _ (0,0) _ rfl (setRow_heap _ _ _ _ 56 (0,0) P1_1.out) Tryz.underlying56 rfl (by kernel_rfl)) rfl ?_;exact ⟨rfl,row_below HB1.out (by omega) _⟩
set_option maxRecDepth 100000 in
set_option maxHeartbeats 16000000 in
theorem pNext2 (c:ConfM) (k:Nat) (x:Int) (W L:Value) (w:World) (hv:PuV w c k x W L):Calls Tryz.prog 75 #[.agg (puL 0 2 W L).toArray] w fun e w'=>e=.returned (accV ⟨3,c.base k,x,packI (x / 2) true,0⟩)∧Below w.heap.size w w':=by
 obtain ⟨wb,wo,wc,lb,lo,lc,rfl,rfl,hwb,hlb,hw0,hl0⟩:=hv.open;have HK0:=Lib.hid (hl0);have hbk0:lb<w.heap.size:=hlb;have HK1:=Lib.hid (hw0);have hbk1:wb<w.heap.size:=hwb;obtain ⟨W,hW,HB,R0,R1,hz⟩:=two_new w (.cells #[.int .i64 0,.int .i64 2,.slice (some ⟨wb,wo,none⟩) 1 wc,.slice (some ⟨lb,lo,none⟩) 1 lc,.slice none 0 0] 51) (.cells #[.int .i64 0,.int .i64 0,.int .u64 0,.int .u64 0,.int .i64 0] 56);have HW:=Lib.hid hW;clear hW;have TCM:=Lib.hid fun w'=>complete_run 0 2 wb wo wc lb lo lc w';have TSQ:=Lib.hid fun w'=>seq_any x w';unfold puL accV;try dsimp only
 obtain ⟨sq,hsq⟩:∃sq,x / 2=sq:=⟨_,rfl⟩;rw [hsq] at TSQ;try rw [hsq]
 obtain ⟨tl,htl⟩:∃tl,c.base k=tl:=⟨_,rfl⟩;rw [htl] at hl0 HK0;rw [htl];clear hsq htl;go_enter Tryz.func75,Tryz.ntmps75;go_upto_region 1 with fail
 rw [HW.out];clear HW;obtain ⟨x0_0,x0_1,x0_2,x0_3,x0_4⟩:=rowc5 R0.out;have ck0:=(HB.out.cell (p:=⟨lb,lo,none⟩) hbk0).trans HK0.out;have ck1:=(HB.out.cell (p:=⟨wb,wo,none⟩) hbk1).trans HK1.out;go_wp2_with fail;refine (TCM.out _).mono ?_; rintro e w1 ⟨rfl,hb1⟩;have P1_0:=keepR hb1 R0;have P1_1:=keepR hb1 R1;have HB1:=Lib.hid (below_then HB.out hb1);clear x0_0 x0_1 x0_2 x0_3 x0_4 ck0 ck1;clear hb1;obtain ⟨x0_0,x0_1,x0_2,x0_3,x0_4⟩:=rowc5 P1_0.out;have ck0:=(HB1.out.cell (p:=⟨lb,lo,none⟩) hbk0).trans HK0.out;have ck1:=(HB1.out.cell (p:=⟨wb,wo,none⟩) hbk1).trans HK1.out;go_upto_region 8 with fail
 have KSd:Hid (∀w',Below w1.heap.size w1 w'→(fun w':World=>(w'.cell? ⟨w.heap.size,0,none⟩=some (.int .i64 0)∧w'.cell? ⟨w.heap.size,1,none⟩=some (.int .i64 2)∧w'.cell? ⟨w.heap.size,2,none⟩=some (.slice (some ⟨wb,wo,none⟩) 1 wc)∧w'.cell? ⟨w.heap.size,3,none⟩=some (.slice (some ⟨lb,lo,none⟩) 1 lc)∧w'.cell? ⟨w.heap.size,4,none⟩=some (.slice none 0 0))∧w'.cell? ⟨lb,lo,none⟩=some (.int .i64 tl)∧w'.cell? ⟨wb,wo,none⟩=some (.int .u64 x)) w'):=fun w' hb=>⟨rowc5 ((hb.block _ (ltR P1_0)).trans P1_0.out),(hb.cell (p:=⟨lb,lo,none⟩) (Nat.lt_of_lt_of_le hbk0 HB1.out.size)).trans ((HB1.out.cell (p:=⟨lb,lo,none⟩) hbk0).trans HK0.out),(hb.cell (p:=⟨wb,wo,none⟩) (Nat.lt_of_lt_of_le hbk1 HB1.out.size)).trans ((HB1.out.cell (p:=⟨wb,wo,none⟩) hbk1).trans HK1.out)⟩;clear x0_0 x0_1 x0_2 x0_3 x0_4 ck0 ck1;refine untilK KSd 9 10 (by kernel_rfl) rfl ?_;obtain ⟨u0,hu0,HU0⟩:=drew_pack w1;rw [hu0];clear hu0;have hSU0:=KSd.out _ HU0.out;apply tkV 0 hSU0 rfl (by kernel_rfl) (fun _ _ _ h=>h) rfl;intro w hSw;(go_simp<;>with_reducible rfl);simp only [J0,J1,J2,J3,J4];apply tkV 1 hSU0 rfl (by kernel_rfl) (fun _ _ _ h=>h) rfl;intro w hSw;(go_simp<;>with_reducible rfl);simp only [J0,J1,J2,J3,J4];apply tkV 2 hSU0 rfl (by kernel_rfl) (fun _ _ _ h=>h) rfl;intro w hSw;(go_simp<;>with_reducible rfl);simp only [J0,J1,J2,J3,J4];apply tkV 3 hSU0 rfl (by kernel_rfl) (fun _ _ _ h=>h) rfl;intro w hSw;(go_simp<;>with_reducible rfl);simp only [J0,J1,J2,J3,J4];apply tkV 4 hSU0 rfl (by kernel_rfl) (fun _ _ _ h=>h) rfl;intro w hSw;(go_simp<;>with_reducible rfl);simp only [J0,J1,J2,J3,J4];apply tkV 5 hSU0 rfl (by kernel_rfl) (fun _ _ _ h=>h) rfl;intro w hSw;(go_simp<;>with_reducible rfl);simp only [J0,J1,J2,J3,J4];refine consU 6 rfl (by kernel_rfl) rfl fun K hK=>?_;go_simp;go_at_call 60;refine (TSQ.out _).mono ?_;rintro e w9 ⟨rfl,rfl⟩;refine hK.out _ _ ?_ fun hSU1=>?_;exact KSd.out _ HU0.out;clear hK K hSU0;(try simp only [J0,J1,J2,J3,J4]);refine consU 7 rfl (by kernel_rfl) rfl fun K hK=>?_;go_simp;go_at_call 101;refine (pack_any _ _ _).mono ?_
 rintro e w9 ⟨rfl,rfl⟩;refine hK.out _ _ ?_ fun hSU2=>?_;exact KSd.out _ HU0.out;clear hK K hSU1;(try simp only [J0,J1,J2,J3,J4]);apply tkV 8 hSU2 rfl (by kernel_rfl) (fun _ _ _ h=>h) rfl;intro w hSw;(go_simp<;>with_reducible rfl);simp only [J0,J1,J2,J3,J4];refine freeU 9 rfl (by kernel_rfl) rfl (by kernel_rfl) fun K hK=>?_;have ZR:=keepR HU0.out P1_1;refine step_store_row rfl 56 _ _ rfl (w.heap.size+1) _ rfl rfl 56 _ ZR.out (by kernel_rfl) rfl (by simp [Value.oneCell']) ?_;refine hK.out _ _ ?_;clear hK K hSU2;(try simp only [J0,J1,J2,J3,J4]);refine wpAnyU_done (by kernel_rfl) ?_ _;go_wp2_with fail;refine bodyPost_ret (v:=.agg #[.int .i64 3,.int .i64 tl,.int .u64 x,.int .u64 (packI (sq) true),.int .i64 0]) (results_cell_row Tryz.results75 _ _ (w.heap.size+1) 56 _ (0,0) _ rfl (setRow_heap _ _ _ _ 56 (0,0) ZR.out) Tryz.underlying56 rfl (by kernel_rfl)) rfl ?_;exact ⟨rfl,row_below (below_then HB1.out HU0.out) (by omega) _⟩
set_option maxRecDepth 100000 in
set_option maxHeartbeats 16000000 in
theorem pNextE (code:Int) (w:World):Calls Tryz.prog 75 #[.agg (puL code 3 nilS nilS).toArray] w fun e w'=>e=.returned (accV ⟨0,0,0,0,0⟩)∧Below w.heap.size w w':=by
 obtain ⟨W,hW,HB,R0,R1,hz⟩:=two_new w (.cells #[.int .i64 code,.int .i64 3,.slice none 0 0,.slice none 0 0,.slice none 0 0] 51) (.cells #[.int .i64 0,.int .i64 0,.int .u64 0,.int .u64 0,.int .i64 0] 56);have HW:=Lib.hid hW;clear hW;have TCM:=Lib.hid fun w'=>complete_not code 3 (.slice none 0 0) (.slice none 0 0) ⟨_,_,_,rfl⟩ ⟨_,_,_,rfl⟩ w';unfold puL nilS accV;go_enter Tryz.func75,Tryz.ntmps75;go_upto_region 1 with fail
 rw [HW.out];clear HW;obtain ⟨x0_0,x0_1,x0_2,x0_3,x0_4⟩:=rowc5 R0.out;go_wp2_with fail;refine (TCM.out _).mono ?_; rintro e w1 ⟨rfl,hb1⟩;have P1_0:=keepR hb1 R0;have P1_1:=keepR hb1 R1;have HB1:=Lib.hid (below_then HB.out hb1);clear x0_0 x0_1 x0_2 x0_3 x0_4;clear hb1;obtain ⟨x0_0,x0_1,x0_2,x0_3,x0_4⟩:=rowc5 P1_0.out;clear x0_0 x0_1 x0_2 x0_3 x0_4;go_wp2_with (refine wpList_store_row rfl 56 _ _ rfl (w.heap.size+1) _ rfl rfl 56 _ P1_1.out (by kernel_rfl) rfl (by simp [Value.oneCell']) ?_);refine bodyPost_ret (v:=.agg #[.int .i64 0,.int .i64 0,.int .u64 0,.int .u64 0,.int .i64 0]) (results_cell_row Tryz.results75 _ _ (w.heap.size+1) 56 _ (0,0) _ rfl (setRow_heap _ _ _ _ 56 (0,0) P1_1.out) Tryz.underlying56 rfl (by kernel_rfl)) rfl ?_;exact ⟨rfl,row_below HB1.out (by omega) _⟩
end Go.Proofs.YtjnlkemdaffgbaaGreat.Q5
