/- Proved: WindowAll returns true for every number; no condition. -/
import Derived.LoopTactic
import Derived.WalkKit
import Derived.ProofKit
import Derived.OpenShut
import Derived.SizedLaws
import Derived.Test.YtefnjhnlegjojaaB01
import Derived.Test.YtefnjhnlegjojaaB02
namespace Go.Proofs.Ytefnjhnlegjojaa.windowAll
open Go.ChangeShapes Go.WideShapes Go.ChangeAt Go.RowKit
set_option linter.unusedVariables false
set_option linter.unusedSimpArgs false
set_option maxRecDepth 100000 in
set_option maxHeartbeats 8000000 in
theorem walk (w:World) (a0:Int) (w0:(Lit.int .i64 a0).wf=true) :
  Calls Try.prog 7 #[.int .i64 a0] w fun e w'=>e=.returned (.bool true)∧Below w.heap.size w w':=by
 have A:=Lib.hid (awakeN_any w);have M0:=Int.emod_nonneg a0 (show (5:Int)≠0 by omega);have M1:=Int.emod_lt_of_pos a0 (show (0:Int)<5 by omega);obtain ⟨q,hq⟩:∃q:Nat,a0 % 5=q:=⟨(a0 % 5).toNat,by omega⟩;rw [hq] at M0 M1;have HQ:=Lib.hid hq;obtain ⟨n,hnq⟩:∃n:Nat,n=q+1:=⟨_,rfl⟩;have hn1:1≤n:=by omega
 have hn5:n≤5:=by omega
 have HC:=Lib.hid (show (1:Int)+(q:Int)=(n:Int) by omega);have CN:=Lib.hid fun w'=>rcount_any (n:Int) w';rw [cntI_in n (by omega)] at CN;have hf1:=fact_pos n;have hf120:fact n≤120:=by have:=fact_le n 5 hn5; exact this
 have RK:=Lib.hid fun (k:Nat) w' (h:k<fact n)=>(roundP_nat n k hn1 (by omega) h▸round_own n k w' hn1 (by omega):Calls Try.prog 11 #[.int .i64 n,.int .i64 k] w' fun e w''=>∃u,e=.returned u∧OwnI w'' w'.heap.size 3 .i64 u (perm n k)∧Below w'.heap.size w' w'');have RZ0:=Lib.hid fun w'=>round_any n (fact n:Int) w';rw [roundP_again n hn1 (by omega)] at RZ0;have INJ:=Lib.hid fun i k hi hk h=>perm_inj n i k hn1 hi hk h;have PR:=Lib.hid fun (w':World) (b k:Nat) v (h:OwnI w' b 3 .i64 v (perm n k))=>perm_read h hn1 (by omega);have PL:=Lib.hid fun k=>(perm_full n k hn1).1;obtain ⟨f,hf⟩:∃f,fact n=f:=⟨_,rfl⟩;rw [hf] at CN hf1 hf120 RK RZ0 INJ;have RZ:=RZ0;clear RZ0 hf hnq hq w0;go_enter Try.func7,Try.ntmps7;go_upto_region 4 with (first
  | (go_at_call 8; refine A.out.mono ?_; rintro e w1 ⟨rfl,hb1⟩)
  | (go_at_call 9; refine (mod_any _ _ _ (by omega) (by omega)).mono ?_; rintro e wm ⟨rfl,rfl⟩; rw [HQ.out]))
 rw [HC.out];have HB1:=Lib.hid hb1;have HA0:Hid (AllI w1 w1 n 0 nilS []):=⟨Below.refl _ _,rfl,OwnS.nil _ _ _ _,fun j hj=>by omega⟩;clear hb1 A HC HQ;go_wp2;go_loopw [4,5] (fun p c wr=>∃k:Nat,∃v:Value,∃us:List Value,v=p∧k≤f∧c=.int .i64 k∧Hid (AllI w1 wr n k v us)) (fun _ c _=>f - (intOf c).toNat)
 case atStart=>exact ⟨0,nilS,[],rfl,by omega,rfl,HA0⟩
 case round=>
  obtain ⟨k,v,us,rfl,hk,rfl,HA⟩:=hrel;obtain ⟨wo,rfl⟩:∃wo:World,wo=wr:=⟨_,rfl⟩;have HBo:=Lib.hid (below_then HB1.out HA.out.bw);by_cases hlt:k<f
  ·have hkI:(k:Int)<(f:Int):=by omega
   go_upto_region 9 with (first
    | (go_at_call 19; refine (CN.out _).mono ?_; rintro e w' ⟨rfl,rfl⟩)
    | (go_at_call 11; refine (RK.out k _ hlt).mono ?_; rintro e wa ⟨ua,rfl,hua,hba⟩))
   have HAa:=Lib.hid (HA.out.below hba);have HUA:Hid (OwnI wa w1.heap.size 3 .i64 ua (perm n k)):=hua.mono_base HA.out.bw.size;have hv:∃av cv,v=.slice av k cv:=by
    obtain ⟨av,cv,rfl⟩:=HAa.out.own.len;exact ⟨av,cv,by rw [List.length_map,HAa.out.len]⟩
   obtain ⟨av,cv,rfl⟩:=hv;obtain ⟨pu,cu,rfl⟩:∃pu cu,ua=.slice pu n cu:=by
    obtain ⟨pu,cu,rfl,-⟩:=(PR.out _ _ _ _ HUA.out).len;exact ⟨pu,cu,by rw [PL.out]⟩
   clear hua hba HA;have hk47:k≤140737488351232:=by omega
   go_wp2;go_loopw [24] (fun c wr=>∃i m:Nat,i≤k∧c=.int .i64 i∧wa.drewN m=wr) (fun c _=>k - (intOf c).toNat)
   case atStart=>exact ⟨0,0,by omega,rfl,rfl⟩
   case round=>
    obtain ⟨i,m,hi,rfl,rfl⟩:=hrel;by_cases hik:i<k
    ·obtain ⟨G,cap,hGv,hG,hcell⟩:=HAa.out.cell (by omega)
     simp only [Value.slice.injEq] at hGv;obtain ⟨rfl,-,rfl⟩:=hGv;have hc:(wa.drewN m).cell? ⟨G,i,none⟩=some (us.getD i nilS):=hcell i hik;obtain ⟨y,hy⟩:∃y,us.getD i nilS=y:=⟨_,rfl⟩;have SI:=PR.out _ _ _ _ (HAa.out.ins i hik);rw [hy] at hc SI;have hne:decide (perm n i=perm n k)=false:=by
      rw [decide_eq_false];intro e;have:=INJ.out i k (by omega) hlt e;omega
     have SM:=Lib.hid (same_any y (.slice pu n cu) (perm n i) (perm n k) (wa.drewN m) (SI.drew m) ((PR.out _ _ _ _ HUA.out).drew m));rw [hne] at SM;obtain ⟨py,ny,cy,rfl⟩:∃py ny cy,y=.slice py ny cy:=by
      obtain ⟨py,cy,rfl,-⟩:=SI.len;exact ⟨py,_,cy,rfl⟩
     clear hcell hy SI hne;obtain ⟨wi,hwi⟩:∃wi,wa.drewN m=wi:=⟨_,rfl⟩;rw [hwi] at hc SM ⊢;have HWI:=Lib.hid hwi;clear hwi;go_wp2_with (go_at_call 10; refine SM.out.mono ?_; rintro e wc ⟨nc,rfl,rfl⟩);go_roundw
     case rel=>exact ⟨i+1,m+nc,by omega,by go_num,by rw [← HWI.out,World.drewN_drewN]⟩
     case measure=>simp [intOf]; omega
    ·obtain rfl:i=k:=by omega
     obtain ⟨wi,hwi⟩:∃wi,wa.drewN m=wi:=⟨_,rfl⟩;have HAi:Hid (AllI w1 wi n i (.slice av i cv) us):=hwi▸HAa.out.below (below_drewN (Below.refl _ _) m);have HUi:Hid (OwnI wi w1.heap.size 3 .i64 (.slice pu n cu) (perm n i)):=hwi▸HUA.out.drew m;rw [hwi];clear hwi HAa HUA;obtain ⟨Wl,hWl⟩:∃Wl,wi.alloc (.cells #[.slice pu n cu] 22)=Wl:=⟨_,rfl⟩;have HBl:Hid (Below wi.heap.size wi Wl):=hWl▸below_new (Below.refl _ _) _;have Rl:Hid (Wl.heap[wi.heap.size]?=some (.cells #[.slice pu n cu] 22 (0,0))):=hWl▸heap_alloc_new _ _;have HWl:=Lib.hid hWl;have HAl:=Lib.hid (HAi.out.below HBl.out);have HUl:=Lib.hid (HUi.out.below HBl.out);have hszl:w1.heap.size≤Wl.heap.size:=HAl.out.bw.size;clear hWl HAi HUi;go_wp2_with (first | (rw [HWl.out]) | refine wp_append_sN 35 (by kernel_rfl) Try.info_li rfl (by decide) (by decide) rfl _ _ rfl (by rfl) HAl.out.own [[.slice pu n cu]] (fun r hr=>by rw [List.mem_singleton.1 hr]; exact ⟨rfl,fun u hu=>by rw [List.mem_singleton.1 hu]; rfl⟩) wi.heap.size 1 rfl (by rfl) Rl.out (by rw [List.length_map,HAl.out.len]; simp; omega) hszl ?_);intro v6 w6 ho6 hg6;have HA6:=Lib.hid (HAl.out.push HUl.out ho6 hg6);clear ho6 hg6;go_wp2;go_roundw
     case rel=>exact ⟨i+1,v6,_,rfl,by omega,by go_num,HA6⟩
     case measure=>simp [intOf]; omega
  ·obtain rfl:k=f:=by omega
   obtain ⟨G,cap,rfl,hG,hcell⟩:=HA.out.cell (by omega);have hc:=hcell 0 (by omega);obtain ⟨y,hy⟩:∃y,us.getD 0 nilS=y:=⟨_,rfl⟩;have O0:=HA.out.ins 0 (by omega);have SI:=PR.out _ _ _ _ O0;rw [hy] at hc SI O0;obtain ⟨a0u,c0u,rfl⟩:∃a c,y=.slice a n c:=by
    obtain ⟨a,c,rfl,-⟩:=SI.len;exact ⟨a,c,by rw [PL.out]⟩
   have PZ:=Lib.hid fun (w':World) (hb:Below wo.heap.size wo w')=>SI.below hb;have KS:Hid (∀w',Below wo.heap.size wo w'→(fun w':World=>w'.cell? ⟨G,0,none⟩=some (.slice a0u n c0u)) w'):=fun w' hb=>(hb.cell (p:=⟨G,0,none⟩) hG).trans hc;have hn47:n≤140737488351232:=by omega
   have hk0:0<k:=by omega
   have hkI0:(0:Int)<(k:Int):=by omega
   have hke:¬k=0:=by omega
   clear hcell hy SI O0;go_upto_region 16 with (go_at_call 19; refine (CN.out _).mono ?_; rintro e w' ⟨rfl,rfl⟩)
   refine untilK KS 16 17 (by kernel_rfl) rfl ?_;obtain ⟨u0,hu0,hU0⟩:=drew_pack wo;rw [hu0];clear hu0;have HU0:Hid (Below wo.heap.size wo u0):=hU0;clear hU0;have hSU0:=KS.out _ HU0.out;apply tkV 0 hSU0 rfl (by kernel_rfl) (fun _ _ _ h=>h) rfl;intro w hSw;(go_simp<;>with_reducible rfl);simp only [J0,J1,J2,J3,J4];apply tkV 1 hSU0 rfl (by kernel_rfl) (fun _ _ _ h=>h) rfl;intro w hSw;(go_simp<;>with_reducible rfl);simp only [J0,J1,J2,J3,J4];apply tkV 4 hSU0 rfl (by kernel_rfl) (fun _ _ _ h=>h) rfl;intro w hSw;(go_simp<;>with_reducible rfl);simp only [J0,J1,J2,J3,J4];apply tkV 5 hSU0 rfl (by kernel_rfl) (fun _ _ _ h=>h) rfl;intro w hSw;(go_simp<;>with_reducible rfl);simp only [J0,J1,J2,J3,J4];apply tkV 6 hSU0 rfl (by kernel_rfl) (fun _ _ _ h=>h) rfl;intro w hSw;(go_simp<;>with_reducible rfl);simp only [J0,J1,J2,J3,J4];refine consU 2 rfl (by kernel_rfl) rfl fun K hK=>?_;go_simp;go_at_call 19;refine (CN.out _).mono ?_;rintro e wc ⟨rfl,rfl⟩;refine hK.out _ _ ?_ fun hSU1=>?_;exact hSU0;clear hK K hSU0;(try simp only [J0,J1,J2,J3,J4]);refine consU 3 rfl (by kernel_rfl) rfl fun K hK=>?_;go_simp;go_at_call 11;refine (RZ.out _).mono ?_;rintro e wd ⟨ud,rfl,hud,hbd⟩;have HBD:=Lib.hid (below_then HU0.out hbd);have HUD:=Lib.hid hud;clear hud hbd;refine hK.out _ _ ?_ fun hSU2=>?_;exact KS.out _ HBD.out;clear hK K hSU1;(try simp only [J0,J1,J2,J3,J4]);refine consU 7 rfl (by kernel_rfl) rfl fun K hK=>?_;go_simp;go_at_call 10;refine (same_any _ _ _ _ wd HUD.out (PZ.out _ HBD.out)).mono ?_;rintro e we ⟨ne,rfl,rfl⟩;rw [decide_eq_true rfl];have HBE:=Lib.hid (below_drewN HBD.out ne);generalize wd.drewN ne=wz at *;refine hK.out _ _ ?_ fun hSU3=>?_;exact KS.out _ HBE.out;clear hK K hSU2;(try simp only [J0,J1,J2,J3,J4]);apply tkV 8 hSU3 rfl (by kernel_rfl) (fun _ _ _ h=>h) rfl;intro w hSw;(go_simp<;>with_reducible rfl);simp only [J0,J1,J2,J3,J4];refine wpAnyU_ready (rs:=[9,13]) (by kernel_rfl) rfl ?_;refine AllReadyU.consG la9 (fun K hK=>?_) ?_
   ·go_simp
    refine hK.out _ _ ?_ fun hSU4=>?_;exact hSU3;clear hK K hSU3;(try simp only [J0,J1,J2,J3,J4]);refine wpAnyU_ready (rs:=[10,13]) (by kernel_rfl) rfl ?_;refine AllReadyU.consG la10 (fun K hK=>?_) ?_
    ·go_simp
     refine hK.out _ _ ?_ fun hSU5=>?_;exact hSU4;clear hK K hSU4;(try simp only [J0,J1,J2,J3,J4]);refine wpAnyU_ready (rs:=[11,13]) (by kernel_rfl) rfl ?_;refine AllReadyU.consG la11 (fun K hK=>?_) ?_
     ·go_simp
      refine hK.out _ _ ?_ fun hSU6=>?_;exact hSU5;clear hK K hSU5;(try simp only [J0,J1,J2,J3,J4]);refine wpAnyU_ready (rs:=[12,13]) (by kernel_rfl) rfl ?_;refine AllReadyU.consG la12 (fun K hK=>?_) ?_
      ·go_simp
       refine hK.out _ _ ?_ fun hSU7=>?_;exact hSU6;clear hK K hSU6;(try simp only [J0,J1,J2,J3,J4]);refine wpAnyU_ready (rs:=[13]) (by kernel_rfl) rfl ?_;refine AllReadyU.consG la13 (fun K hK=>?_) ?_
       ·go_simp
        refine hK.out _ _ ?_ fun hSU8=>?_;exact hSU7;clear hK K hSU7;(try simp only [J0,J1,J2,J3,J4]);refine wpAnyU_ready (rs:=[14]) (by kernel_rfl) rfl ?_;refine AllReadyU.consG la14 (fun K hK=>?_) ?_
        ·go_simp
         refine hK.out _ _ ?_ fun hSU9=>?_;exact hSU8;clear hK K hSU8;(try simp only [J0,J1,J2,J3,J4]);apply tkV 15 hSU9 rfl (by kernel_rfl) (fun _ _ _ h=>h) rfl;intro w hSw;(go_simp<;>with_reducible rfl);simp only [J0,J1,J2,J3,J4];refine freeU 16 rfl (by kernel_rfl) rfl (by kernel_rfl) fun K hK=>?_;go_simp;refine hK.out _ _ ?_;clear hK K hSU9;(try simp only [J0,J1,J2,J3,J4]);refine wpAnyU_done (by kernel_rfl) ?_ _;go_wp2;go_ret;exact ⟨rfl,below_then HBo.out HBE.out⟩
        exact AllReadyU.nil
       exact AllReadyU.nil
      refine AllReadyU.consG la13 (fun K hK=>?_) ?_
      ·go_simp
       refine hK.out _ _ ?_ fun hSU10=>?_;exact hSU6;clear hK K hSU6;(try simp only [J0,J1,J2,J3,J4]);refine wpAnyU_ready (rs:=[12]) (by kernel_rfl) rfl ?_;refine AllReadyU.consG la12 (fun K hK=>?_) ?_
       ·go_simp
        refine hK.out _ _ ?_ fun hSU11=>?_;exact hSU10;clear hK K hSU10;(try simp only [J0,J1,J2,J3,J4]);refine wpAnyU_ready (rs:=[14]) (by kernel_rfl) rfl ?_;refine AllReadyU.consG la14 (fun K hK=>?_) ?_
        ·go_simp
         refine hK.out _ _ ?_ fun hSU12=>?_;exact hSU11;clear hK K hSU11;(try simp only [J0,J1,J2,J3,J4]);apply tkV 15 hSU12 rfl (by kernel_rfl) (fun _ _ _ h=>h) rfl;intro w hSw;(go_simp<;>with_reducible rfl);simp only [J0,J1,J2,J3,J4];refine freeU 16 rfl (by kernel_rfl) rfl (by kernel_rfl) fun K hK=>?_;go_simp;refine hK.out _ _ ?_;clear hK K hSU12;(try simp only [J0,J1,J2,J3,J4]);refine wpAnyU_done (by kernel_rfl) ?_ _;go_wp2;go_ret;exact ⟨rfl,below_then HBo.out HBE.out⟩
        exact AllReadyU.nil
       exact AllReadyU.nil
      exact AllReadyU.nil
     refine AllReadyU.consG la13 (fun K hK=>?_) ?_
     ·go_simp
      refine hK.out _ _ ?_ fun hSU13=>?_;exact hSU5;clear hK K hSU5;(try simp only [J0,J1,J2,J3,J4]);refine wpAnyU_ready (rs:=[11]) (by kernel_rfl) rfl ?_;refine AllReadyU.consG la11 (fun K hK=>?_) ?_
      ·go_simp
       refine hK.out _ _ ?_ fun hSU14=>?_;exact hSU13;clear hK K hSU13;(try simp only [J0,J1,J2,J3,J4]);refine wpAnyU_ready (rs:=[12]) (by kernel_rfl) rfl ?_;refine AllReadyU.consG la12 (fun K hK=>?_) ?_
       ·go_simp
        refine hK.out _ _ ?_ fun hSU15=>?_;exact hSU14;clear hK K hSU14;(try simp only [J0,J1,J2,J3,J4]);refine wpAnyU_ready (rs:=[14]) (by kernel_rfl) rfl ?_;refine AllReadyU.consG la14 (fun K hK=>?_) ?_
        ·go_simp
         refine hK.out _ _ ?_ fun hSU16=>?_;exact hSU15;clear hK K hSU15;(try simp only [J0,J1,J2,J3,J4]);apply tkV 15 hSU16 rfl (by kernel_rfl) (fun _ _ _ h=>h) rfl;intro w hSw;(go_simp<;>with_reducible rfl);simp only [J0,J1,J2,J3,J4];refine freeU 16 rfl (by kernel_rfl) rfl (by kernel_rfl) fun K hK=>?_;go_simp;refine hK.out _ _ ?_;clear hK K hSU16;(try simp only [J0,J1,J2,J3,J4]);refine wpAnyU_done (by kernel_rfl) ?_ _;go_wp2;go_ret;exact ⟨rfl,below_then HBo.out HBE.out⟩
        exact AllReadyU.nil
       exact AllReadyU.nil
      exact AllReadyU.nil
     exact AllReadyU.nil
    refine AllReadyU.consG la13 (fun K hK=>?_) ?_
    ·go_simp
     refine hK.out _ _ ?_ fun hSU17=>?_;exact hSU4;clear hK K hSU4;(try simp only [J0,J1,J2,J3,J4]);refine wpAnyU_ready (rs:=[10]) (by kernel_rfl) rfl ?_;refine AllReadyU.consG la10 (fun K hK=>?_) ?_
     ·go_simp
      refine hK.out _ _ ?_ fun hSU18=>?_;exact hSU17;clear hK K hSU17;(try simp only [J0,J1,J2,J3,J4]);refine wpAnyU_ready (rs:=[11]) (by kernel_rfl) rfl ?_;refine AllReadyU.consG la11 (fun K hK=>?_) ?_
      ·go_simp
       refine hK.out _ _ ?_ fun hSU19=>?_;exact hSU18;clear hK K hSU18;(try simp only [J0,J1,J2,J3,J4]);refine wpAnyU_ready (rs:=[12]) (by kernel_rfl) rfl ?_;refine AllReadyU.consG la12 (fun K hK=>?_) ?_
       ·go_simp
        refine hK.out _ _ ?_ fun hSU20=>?_;exact hSU19;clear hK K hSU19;(try simp only [J0,J1,J2,J3,J4]);refine wpAnyU_ready (rs:=[14]) (by kernel_rfl) rfl ?_;refine AllReadyU.consG la14 (fun K hK=>?_) ?_
        ·go_simp
         refine hK.out _ _ ?_ fun hSU21=>?_;exact hSU20;clear hK K hSU20;(try simp only [J0,J1,J2,J3,J4]);apply tkV 15 hSU21 rfl (by kernel_rfl) (fun _ _ _ h=>h) rfl;intro w hSw;(go_simp<;>with_reducible rfl);simp only [J0,J1,J2,J3,J4];refine freeU 16 rfl (by kernel_rfl) rfl (by kernel_rfl) fun K hK=>?_;go_simp;refine hK.out _ _ ?_;clear hK K hSU21;(try simp only [J0,J1,J2,J3,J4]);refine wpAnyU_done (by kernel_rfl) ?_ _;go_wp2;go_ret;exact ⟨rfl,below_then HBo.out HBE.out⟩
        exact AllReadyU.nil
       exact AllReadyU.nil
      exact AllReadyU.nil
     exact AllReadyU.nil
    exact AllReadyU.nil
   refine AllReadyU.consG la13 (fun K hK=>?_) ?_
   ·go_simp
    refine hK.out _ _ ?_ fun hSU22=>?_;exact hSU3;clear hK K hSU3;(try simp only [J0,J1,J2,J3,J4]);refine wpAnyU_ready (rs:=[9]) (by kernel_rfl) rfl ?_;refine AllReadyU.consG la9 (fun K hK=>?_) ?_
    ·go_simp
     refine hK.out _ _ ?_ fun hSU23=>?_;exact hSU22;clear hK K hSU22;(try simp only [J0,J1,J2,J3,J4]);refine wpAnyU_ready (rs:=[10]) (by kernel_rfl) rfl ?_;refine AllReadyU.consG la10 (fun K hK=>?_) ?_
     ·go_simp
      refine hK.out _ _ ?_ fun hSU24=>?_;exact hSU23;clear hK K hSU23;(try simp only [J0,J1,J2,J3,J4]);refine wpAnyU_ready (rs:=[11]) (by kernel_rfl) rfl ?_;refine AllReadyU.consG la11 (fun K hK=>?_) ?_
      ·go_simp
       refine hK.out _ _ ?_ fun hSU25=>?_;exact hSU24;clear hK K hSU24;(try simp only [J0,J1,J2,J3,J4]);refine wpAnyU_ready (rs:=[12]) (by kernel_rfl) rfl ?_;refine AllReadyU.consG la12 (fun K hK=>?_) ?_
       ·go_simp
        refine hK.out _ _ ?_ fun hSU26=>?_;exact hSU25;clear hK K hSU25;(try simp only [J0,J1,J2,J3,J4]);refine wpAnyU_ready (rs:=[14]) (by kernel_rfl) rfl ?_;refine AllReadyU.consG la14 (fun K hK=>?_) ?_
        ·go_simp
         refine hK.out _ _ ?_ fun hSU27=>?_;exact hSU26;clear hK K hSU26;(try simp only [J0,J1,J2,J3,J4]);apply tkV 15 hSU27 rfl (by kernel_rfl) (fun _ _ _ h=>h) rfl;intro w hSw;(go_simp<;>with_reducible rfl);simp only [J0,J1,J2,J3,J4];refine freeU 16 rfl (by kernel_rfl) rfl (by kernel_rfl) fun K hK=>?_;go_simp;refine hK.out _ _ ?_;clear hK K hSU27;(try simp only [J0,J1,J2,J3,J4]);refine wpAnyU_done (by kernel_rfl) ?_ _;go_wp2;go_ret;exact ⟨rfl,below_then HBo.out HBE.out⟩
        exact AllReadyU.nil
       exact AllReadyU.nil
      exact AllReadyU.nil
     exact AllReadyU.nil
    exact AllReadyU.nil
   exact AllReadyU.nil
set_option maxRecDepth 100000 in
theorem lifted (os:Os) (started:os.Started) (H:Type) (enc:TypeId × Value→H) :
  ReturnsInHanded {} Try.checked os 7 .any (Rows.windowAllSpec.pre6 enc Try.prog Try.f7 Rows.windowAllRow.domain false) (Rows.windowAllSpec.post enc Try.prog Try.f7 false true false false):=by
 refine returnsInHanded_of_change_sized (C:=Try.checked) own started (by kernel_rfl) Try.func7
  (ChangeSpec.witness6 (enc:=enc) (C:=Try.checked) false ⟨#[],#[.int .i64 0],[]⟩ 8 (by kernel_rfl) (by kernel_rfl) (by kernel_rfl) (by kernel_rfl)) ?_
 intro W base args ds gs before hval0 hW _ hsz0 _;have hsz:(DataW.weightsEach Try.prog (Try.f7.params.toList ++ Rows.windowAllSpec.plain.varTypes Try.prog) (ds ++ gs)).all (·≤reachBytes)=true:=hsz0;clear hsz0;have hval:∀(j:Nat) t v,Try.f7.params[j]?=some t→args[j]?=some v→Value.okWide Try.prog W .any base t v:=hval0;have hW':=hW;obtain ⟨p,q,hA0,hV,rfl,_,_⟩:=hW;have hA:DataW.TrodAll enc Try.prog W 0 (fun _=>true) true Try.f7.params.toList args.toList ds p:=hA0;rw [Try.params7] at hA hval hsz;obtain ⟨v0,vs0,d0,ds0,p0,q0,hargs,rfl,rfl,h0,rr0⟩:=trodAll_cons hA;obtain ⟨rfl,rfl,rfl⟩:=trodAll_nil rr0;obtain rfl:args=#[v0]:=by cases args; simp_all
 obtain ⟨rfl,rfl⟩:=trodVars_none hV;have k0:=h0;obtain ⟨a0,rfl,-,-,w0⟩:=open_int Try.underlying3 (hval 0 3 v0 rfl rfl) h0;clear hA0 hval0;simp only [List.append_nil] at hW';have hlt:=hW'.lt;refine (walk W a0 w0).mono fun e W' ⟨he,hb⟩=>?_;subst he;exact ⟨_,rfl,_,_,_,[],_,[],hW',trodAll_cons_mk (shut_bool Try.underlying4 _) trodAll_mk0,(trodAll_cons_mk (Below.trod Try.laidOut (by kernel_rfl) (of_decide_eq_true (by kernel_rfl)) k0 hb (fun x hx=>by simpa using hlt x (by simp [hx]))) trodAll_mk0),rfl,hb.frame _,fun h=>by cases h⟩
theorem over:Rows.windowAllRow.holds Try.pinned (OpenSpec.ofChange Rows.windowAllSpec):=
 OpenClaim.holds_of_wide 7 Try.f7 rfl rfl rfl rfl rfl rfl rfl ⟨rfl,rfl,rfl,rfl,rfl⟩ rfl rfl rfl rfl rfl (by kernel_rfl) Try.func7 (by kernel_rfl)
  (of_decide_eq_true (by kernel_rfl)) (by unfold Func.isWrapper; first | (rw [if_pos (by decide +kernel)]; kernel_rfl) | (rw [if_neg (by decide +kernel)]; exact ⟨rfl,rfl⟩))
  (fun os started H enc _=>lifted os started H enc)
theorem proved:Rows.WindowAllSaid:=
 over
end Go.Proofs.Ytefnjhnlegjojaa.windowAll
