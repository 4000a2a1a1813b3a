/- Proved: WindowFair returns true for every two numbers, every list of numbers and every list of bytes, and the lists read afterwards as before; no condition. -/
import Derived.LoopTactic
import Derived.WalkKit
import Derived.ProofKit
import Derived.OpenShut
import Derived.SizedLaws
import Derived.Test.YtefnjhnlegjojaaB01
import Derived.Test.YtefnjhnlegjojaaB02
namespace Go.Proofs.Ytefnjhnlegjojaa.windowFair
open Go.ChangeShapes Go.WideShapes Go.ChangeAt Go.RowKit
set_option linter.unusedVariables false
set_option linter.unusedSimpArgs false
set_option maxRecDepth 100000 in
set_option maxHeartbeats 8000000 in
theorem walk (w:World) (a0:Int) (w0:(Lit.int .i64 a0).wf=true) (v1:Value) (l1:List Int) (s1:SlI w .i64 v1 l1) (v2:Value) (l2:List Int) (s2:SlI w .u8 v2 l2) (a3:Int) (w3:(Lit.int .i64 a3).wf=true) :
  Calls Try.prog 6 #[.int .i64 a0,v1,v2,.int .i64 a3] w fun e w'=>e=.returned (.bool true)∧Below w.heap.size w w':=by
 have A:=Lib.hid (awakeN_any w);have M0:=Int.emod_nonneg a0 (show (8:Int)≠0 by omega);have M1:=Int.emod_lt_of_pos a0 (show (0:Int)<8 by omega);obtain ⟨q,hq⟩:∃q:Nat,a0 % 8=q:=⟨(a0 % 8).toNat,by omega⟩;rw [hq] at M0 M1;have HQ:=Lib.hid hq;have S1:=Lib.hid s1;have S2:=Lib.hid s2;obtain ⟨c,cap,rfl,h4⟩:=s1.len;obtain ⟨c2,cap2,rfl,h42⟩:=s2.len;have h47:=s1.1;have h48:=s2.1;have G5:Hid (∀i,i<l1.length→∃b off,c=some ⟨b,off,none⟩∧b<w.heap.size∧w.cell? ⟨b,off+i,none⟩=some (.int .i64 (l1.getD i 0))):=by
  obtain ⟨_,_,x,y,e,_,h⟩:=s1;simp only [Value.slice.injEq] at e;obtain ⟨rfl,-,-⟩:=e;exact h
 have H5:Hid (∀i,i<l2.length→∃b off,c2=some ⟨b,off,none⟩∧b<w.heap.size∧w.cell? ⟨b,off+i,none⟩=some (.int .u8 (l2.getD i 0))):=by
  obtain ⟨_,_,x,y,e,_,h⟩:=s2;simp only [Value.slice.injEq] at e;obtain ⟨rfl,-,-⟩:=e;exact h
 have HU:Hid (∀i,i<l2.length→0≤l2.getD i 0∧l2.getD i 0≤255):=fun i hi=>by
  have:=s2.2.1 _ (mem_of_getD l2 i hi);rw [this];simp only [IntKind.wrap,IntKind.bits,IntKind.signed];constructor
  ·exact Int.emod_nonneg _ (by decide)
  ·have:=Int.emod_lt_of_pos (l2.getD i 0) (show (0:Int)<2 ^ 8 by decide)
   simp at this ⊢; omega
 clear w0 w3 s1 s2 hq h4 h42;by_cases h1:20<l1.length
 ·go_enter Try.func6,Try.ntmps6
  go_wp2_with (go_at_call 8; refine A.out.mono ?_; rintro e w1 ⟨rfl,hb1⟩);go_ret;exact ⟨rfl,hb1⟩
 by_cases h2:60<l2.length
 ·go_enter Try.func6,Try.ntmps6
  go_wp2_with (go_at_call 8; refine A.out.mono ?_; rintro e w1 ⟨rfl,hb1⟩);go_ret;exact ⟨rfl,hb1⟩
 obtain ⟨n,hnq⟩:∃n:Nat,n=q+1:=⟨_,rfl⟩;have hn1:1≤n:=by omega
 have hn8:n≤8:=by omega
 have FU:=Lib.hid fun x=>roundP_full n x hn1 hn8;have R1:=Lib.hid fun x w'=>round_any (n:Int) x w';have R2:=Lib.hid fun w' h=>rounds_any (n:Int) (.slice c l1.length cap) l1 w' h (by omega);have R3:=Lib.hid fun v w' h=>measure_any (n:Int) v (roundsP (n:Int) l1) w' h (by have:=roundsP_len (n:Int) l1; omega);rw [measP_rounds n hn1 hn8 l1] at R3;have PT:=Lib.hid fun l k=>measP_parts n hn1 hn8 l k;have HC:=Lib.hid (show (1:Int)+(q:Int)=(n:Int) by omega);clear hnq;obtain ⟨m,hm⟩:∃m,l2.length=m:=⟨_,rfl⟩;have HM:=Lib.hid hm;rw [hm] at H5 HU h2 h48;rw [hm] at S2 ⊢;clear hm;obtain ⟨m1,hm1⟩:∃m,l1.length=m:=⟨_,rfl⟩;have HM1:=Lib.hid hm1;rw [hm1] at G5 h1 h47 R2 R3;rw [hm1] at S1 ⊢;clear hm1;go_enter Try.func6,Try.ntmps6;go_upto_region 6 with (first
  | (go_at_call 8; refine A.out.mono ?_; rintro e w1 ⟨rfl,hb1⟩)
  | (go_at_call 9; refine (mod_any _ _ _ (by omega) (by omega)).mono ?_; rintro e wm ⟨rfl,rfl⟩; rw [HQ.out]))
 rw [HC.out];have HB1:=Lib.hid hb1;clear hb1 A HC HQ;go_wp2;go_loopw [34] (fun c wr=>∃i:Nat,i≤m1∧c=.int .i64 i∧Hid (Below w.heap.size w wr)) (fun c _=>m1 - (intOf c).toNat)
 case atStart=>exact ⟨0,by omega,rfl,HB1⟩
 case round=>
  obtain ⟨i,hi,rfl,hb⟩:=hrel;obtain ⟨wo,rfl⟩:∃wo:World,wo=wr:=⟨_,rfl⟩;by_cases hlt:i<m1
  ·obtain ⟨b,off,rfl,hbl,hcell⟩:=G5.out i hlt
   have hcell:=(hb.out.cell (p:=⟨b,off+i,none⟩) hbl).trans hcell;obtain ⟨x,hx⟩:∃x,l1.getD i 0=x:=⟨_,rfl⟩;rw [hx] at hcell;clear hx hbl;go_upto_region 10 with (go_at_call 11; refine (R1.out _ _).mono ?_; rintro e wa ⟨ua,rfl,hua,hba⟩)
   have hf:=FU.out x;generalize roundP (n:Int) x=P at hf hua;obtain ⟨bu,ou,cu,rfl,hcu,hbu,hcell2⟩:=hua.open (by intro e; have:=hf.1; rw [e] at this; simp at this; omega);have hlP:=hf.1;rw [hlP] at hcu ⊢;go_upto_region 11 with (at_make; refine wp_make_bool wa rfl _ _ rfl n _ _ rfl rfl ?_ ?_ ?_ ?_; omega; omega; omega; intro wb ho2 hb2)
   have PF:=Lib.hid hf;have HC2:Hid (∀j,j<n→wa.cell? ⟨bu,ou+j,none⟩=some (.int .i64 (P.getD j 0))):=fun j hj=>hcell2 j (by rw [hf.1]; exact hj);have HBa:=Lib.hid (below_then (below_then hb.out hba) hb2);have HBW:=Lib.hid hb2;have hFw:w.heap.size≤wa.heap.size:=(below_then hb.out hba).size;have HO2:Hid (OwnB wb wa.heap.size 4 (.slice (some ⟨wa.heap.size,0,none⟩) n n) (seenL n P 0)):=by
    have:seenL n P 0=List.replicate n false:=seenL_zero _ _;show OwnB _ _ _ _ _;rw [this]; exact ho2
   have hn47:n≤140737488351232:=by omega
   have hLP:=Lib.hid hlP;clear hlP;clear hf hua hcell2 ho2 hb2 hba hcell;generalize wa.heap.size=F at *;go_wp2;go_loopw [45] (fun c wr=>∃j:Nat,j≤n∧c=.int .i64 j∧Hid (OwnB wr F 4 (.slice (some ⟨F,0,none⟩) n n) (seenL n P j))∧Hid (Below F wa wr)∧Hid (Below w.heap.size w wr)) (fun c _=>n - (intOf c).toNat)
   case atStart=>exact ⟨0,by omega,rfl,HO2,HBW,HBa⟩
   case round=>
    clear HO2 HBW HBa;obtain ⟨j,hj,rfl,ho,hbW,hbA⟩:=hrel;by_cases hjq:j<n
    ·have hcj:=HC2.out j hjq
     have hr:=PF.out.range _ (mem_of_getD P j (by have:=hLP.out; omega));obtain ⟨p,hp⟩:∃p:Nat,P.getD j 0=p:=⟨(P.getD j 0).toNat,by omega⟩;have hsn:=seenL_get n P j p (by omega);rw [← hp,decide_eq_false (seen_no n P PF.out j hjq)] at hsn;have hst:=seenL_step n P j p (by have:=hLP.out; omega) hp (by omega);rw [hp] at hcj hr;have hcj:=(hbW.out.cell (p:=⟨bu,ou+j,none⟩) hbu).trans hcj;obtain ⟨c1,c3⟩:=ho.out.cell p (by rw [seenL_length]; omega);rw [hsn] at c1;have T1:=ho.out.store p true (by rw [seenL_length]);rw [hst] at T1;have T2:=hbW.out.setCell (p:=⟨F,p,none⟩) (Nat.le_refl _) (.bool true);have T3:=hbA.out.setCell (p:=⟨F,p,none⟩) hFw (.bool true);have TT:=Lib.hid (And.intro T1 (And.intro T2 T3));have hpn:p<n:=by omega
     clear T1 T2 T3 hst hsn hp HC2;go_wp2;go_roundw
     case rel=>exact ⟨j+1,by omega,by go_num,TT.out.1,TT.out.2.1,TT.out.2.2⟩
     case measure=>simp [intOf]; omega
    ·obtain rfl:j=n:=by omega
     go_wp2;go_roundw
     case rel=>exact ⟨i+1,by omega,by go_num,hbA⟩
     case measure=>simp [intOf]; omega
  ·obtain rfl:i=m1:=by omega
   clear G5 R1 FU;have S1':=Lib.hid (S1.out.below hb.out);go_upto_region 23 with (first
    | (go_at_call 13; refine (R2.out _ S1'.out).mono ?_; rintro e wa ⟨ua,rfl,hua,hba⟩)
    | (go_at_call 15; refine (R3.out _ _ hua).mono ?_; rintro e wb ⟨rfl,hbb⟩))
   have HBB:=Lib.hid (below_then (below_then hb.out hba) hbb);clear hua hba hbb hb S1' R2 R3;go_wp2;go_loopw [16,81] (fun p c wr=>∃i:Nat,∃u:Value,∃ll:List Int,u=p∧i≤m∧c=.int .i64 i∧Hid (ll.length=i)∧Hid (∀x∈ll,0≤x∧x≤8)∧Hid (OwnI wr w.heap.size 3 .i64 u ll)∧Hid (Below w.heap.size w wr)) (fun _ c _=>m - (intOf c).toNat)
   case atStart=>exact ⟨0,_,[],rfl,by omega,rfl,rfl,fun x hx=>by simp at hx,OwnI.nil _ _ _ _,HBB⟩
   case round=>
    obtain ⟨i,u,ll,rfl,hi,rfl,hll,hlb,ho,hb⟩:=hrel;obtain ⟨wo,rfl⟩:∃wo:World,wo=wr:=⟨_,rfl⟩;by_cases hlt:i<m
    ·obtain ⟨b,off,rfl,hbl,hcell⟩:=H5.out i hlt
     have hcell:=(hb.out.cell (p:=⟨b,off+i,none⟩) hbl).trans hcell;have hu:=HU.out i hlt;obtain ⟨x,hx⟩:∃x,l2.getD i 0=x:=⟨_,rfl⟩;rw [hx] at hcell hu;have g1:wrap64 x=x:=by unfold wrap64; omega
     have g2:x.tmod 9=x % 9:=Int.tmod_eq_emod_of_nonneg hu.1;have g3:0≤x % 9∧x % 9<9:=by omega
     clear hx hbl;go_wp2_with (at_builtin; go_must (refine wp_append_i64 _ rfl _ _ rfl w.heap.size u ll rfl (OwnI.alloc ho.out _) (x % 9) _ rfl ?c1 ?c2 ?c3 ?_))
     case c1=>first | exact (World.cell?_alloc_at _ _ _ _ rfl) | (rw [World.cell?_alloc_at _ _ _ _ rfl]; simp [g2])
     case c2=>have:=hll.out; omega
     case c3=>have:=hb.out.size; simp; omega
     intro v' w2 hown' hgrow;have hb2:Below w.heap.size w w2:=(below_new hb.out _).grown hgrow (by have:=hb.out.size; simp; omega) ho.out.own_ge;have hll2:(ll ++ [x % 9]).length=i+1:=by have:=hll.out; simp; omega
     have hlb2:∀y∈ll ++ [x % 9],0≤y∧y≤8:=fun y hy=>by
      rcases List.mem_append.1 hy with h | h
      ·exact hlb.out y h
      ·simp at h; omega
     have F:=Lib.hid (And.intro hll2 (And.intro hlb2 (And.intro hown' hb2)));clear hll2 hlb2 hown' hb2 hgrow g1 g2 g3;go_wp2;go_roundw
     case rel=>exact ⟨i+1,v',_,rfl,by omega,by go_num,F.out.1,F.out.2.1,F.out.2.2.1,F.out.2.2.2⟩
     case measure=>simp [intOf]; omega
    ·obtain rfl:i=m:=by omega
     have SL:SlI wo .i64 u ll:=ho.out.read (by have:=hll.out; omega) fun x hx=>by
      have:=hlb.out x hx;exact i64_ok x (by omega) (by omega)
     obtain ⟨au,cu,rfl,hcu⟩:=SL.len;have hlen:=hll.out;rw [hlen] at SL hcu ⊢;have K0:=Int.emod_nonneg a3 (show ((i:Int)+1)≠0 by omega);have K1:=Int.emod_lt_of_pos a3 (show (0:Int)<(i:Int)+1 by omega);obtain ⟨k,hk⟩:∃k:Nat,a3 % ((i:Int)+1)=k:=⟨(a3 % ((i:Int)+1)).toNat,by omega⟩;rw [hk] at K0 K1;have hki:k≤i:=by omega
     have HK:=Lib.hid hk;have SLH:=Lib.hid SL;have HLN:=Lib.hid hlen;have hT:=fun w'=>run_take_i64 w' au i cu k (by omega);have hD:=fun w'=>run_drop_i64 w' au i cu k hki;have ST:=Lib.hid (SL.takeN k (by omega));have SD:=Lib.hid (SL.dropN k (by omega));obtain ⟨VT,hVT⟩:∃V,(if cu=0 then au else au.map (·.add (0 * 1)))=V:=⟨_,rfl⟩;obtain ⟨VD,hVD⟩:∃V,(if cu=k then au else au.map (·.add (k * 1)))=V:=⟨_,rfl⟩;rw [hVT] at hT ST;rw [hVD] at hD;rw [hVD] at SD;have hmI:(i:Int)≤60:=by omega
     clear SL hlen hk hVT hVD;go_upto_region 30 with (go_at_call 9; refine (mod_any _ _ _ (by omega) (by omega)).mono ?_; rintro e wm ⟨rfl,rfl⟩; rw [HK.out])
     have PT1:=PT.out ll k;have b1:measP (n:Int) ll≤60:=by
      have h:=(runM_le n ll (none8,0)).2;rw [measP_in n ll hn1 hn8];have:=HLN.out;simp at h; omega
     have X1:=Lib.hid fun (w':World) (h:SlI w' .i64 (.slice au i cu) ll)=>measure_any (n:Int) _ ll w' h (by have:=HLN.out; omega);have X2:=Lib.hid fun (w':World) (h:SlI w' .i64 (.slice VT k cu) (ll.take k))=>measure_any (n:Int) _ (ll.take k) w' h (by have:=HLN.out; simp; omega);have X3:=Lib.hid fun (w':World) (h:SlI w' .i64 (.slice VD (i - k) (cu - k)) (ll.drop k))=>measure_any (n:Int) _ (ll.drop k) w' h (by have:=HLN.out; simp; omega);generalize measP (n:Int) ll=z1 at *;generalize measP (n:Int) (ll.take k)=z2 at *;generalize measP (n:Int) (ll.drop k)=z3 at *;have hd:decide ((z2:Int)+(z3:Int)≤(z1:Int))=true:=by simp; omega
     have hw:wrap64 ((z2:Int)+(z3:Int))=(z2:Int)+(z3:Int):=by unfold wrap64; omega
     refine wp_region_ext wo (by kernel_rfl) (by kernel_rfl) (Below.refl _ _) ?_
     repeat (go_big_quiet_step (first
      | (go_at_call 15; with_reducible exact calls_ext (X1.out _ (SLH.out.below (Ext.below _))))
      | (go_at_call 15; with_reducible exact calls_ext (X2.out _ (ST.out.below (Ext.below _))))
      | (go_at_call 15; with_reducible exact calls_ext (X3.out _ (SD.out.below (Ext.below _))))))
     refine wpQuiet_nil ?_;intro _ hw';obtain ⟨n9,rfl⟩:=hw';have HA2:=Lib.hid (below_then hb.out n9.below);generalize n9.wd=w9 at *;go_wp2;go_ret;exact ⟨rfl,HA2.out⟩
set_option maxRecDepth 100000 in
theorem lifted (os:Os) (started:os.Started) (H:Type) (enc:TypeId × Value→H) :
  ReturnsInHanded {} Try.checked os 6 .any (Rows.windowFairSpec.pre6 enc Try.prog Try.f6 Rows.windowFairRow.domain false) (Rows.windowFairSpec.post enc Try.prog Try.f6 false true false false):=by
 refine returnsInHanded_of_change_sized (C:=Try.checked) own started (by kernel_rfl) Try.func6
  (ChangeSpec.witness6 (enc:=enc) (C:=Try.checked) false ⟨#[],#[.int .i64 0,.slice none 0 0,.slice none 0 0,.int .i64 0],[]⟩ 8 (by kernel_rfl) (by kernel_rfl) (by kernel_rfl) (by kernel_rfl)) ?_
 intro W base args ds gs before hval0 hW _ hsz0 _;have hsz:(DataW.weightsEach Try.prog (Try.f6.params.toList ++ Rows.windowFairSpec.plain.varTypes Try.prog) (ds ++ gs)).all (·≤reachBytes)=true:=hsz0;clear hsz0;have hval:∀(j:Nat) t v,Try.f6.params[j]?=some t→args[j]?=some v→Value.okWide Try.prog W .any base t v:=hval0;have hW':=hW;obtain ⟨p,q,hA0,hV,rfl,_,_⟩:=hW;have hA:DataW.TrodAll enc Try.prog W 0 (fun _=>true) true Try.f6.params.toList args.toList ds p:=hA0;rw [Try.params6] at hA hval hsz;obtain ⟨v0,vs0,d0,ds0,p0,q0,hargs,rfl,rfl,h0,rr0⟩:=trodAll_cons hA;obtain ⟨v1,vs1,d1,ds1,p1,q1,rfl,rfl,rfl,h1,rr1⟩:=trodAll_cons rr0;obtain ⟨v2,vs2,d2,ds2,p2,q2,rfl,rfl,rfl,h2,rr2⟩:=trodAll_cons rr1;obtain ⟨v3,vs3,d3,ds3,p3,q3,rfl,rfl,rfl,h3,rr3⟩:=trodAll_cons rr2;obtain ⟨rfl,rfl,rfl⟩:=trodAll_nil rr3;obtain rfl:args=#[v0,v1,v2,v3]:=by cases args; simp_all
 obtain ⟨rfl,rfl⟩:=trodVars_none hV;have k0:=h0;have k1:=h1;have k2:=h2;have k3:=h3;obtain ⟨a0,rfl,-,-,w0⟩:=open_int Try.underlying3 (hval 0 3 v0 rfl rfl) h0;obtain ⟨l1,s1⟩:=view_sl (k:=.i64) Try.underlying22 Try.underlying3 (by kernel_rfl) (fun elems sp hd=>sized_slice hsz (j:=1) (t:=22) (e:=3) rfl (by rw [hd]; rfl) Try.underlying22) (of_decide_eq_true (by kernel_rfl)) (hval 1 22 v1 rfl rfl) h1;obtain ⟨l2,s2⟩:=view_sl (k:=.u8) Try.underlying29 Try.underlying5 (by kernel_rfl) (fun elems sp hd=>sized_slice hsz (j:=2) (t:=29) (e:=5) rfl (by rw [hd]; rfl) Try.underlying29) (of_decide_eq_true (by kernel_rfl)) (hval 2 29 v2 rfl rfl) h2;obtain ⟨a3,rfl,-,-,w3⟩:=open_int Try.underlying3 (hval 3 3 v3 rfl rfl) h3;clear hA0 hval0;simp only [List.append_nil] at hW';have hlt:=hW'.lt;refine (walk W a0 w0 v1 l1 s1 v2 l2 s2 a3 w3).mono fun e W' ⟨he,hb⟩=>?_;subst he;exact ⟨_,rfl,_,_,_,[],_,[],hW',trodAll_cons_mk (shut_bool Try.underlying4 _) trodAll_mk0,(trodAll_cons_mk (Below.trod Try.laidOut (by kernel_rfl) (of_decide_eq_true (by kernel_rfl)) k0 hb (fun x hx=>by simpa using hlt x (by simp [hx]))) (trodAll_cons_mk (Below.trod Try.laidOut (by kernel_rfl) (of_decide_eq_true (by kernel_rfl)) k1 hb (fun x hx=>by simpa using hlt x (by simp [hx]))) (trodAll_cons_mk (Below.trod Try.laidOut (by kernel_rfl) (of_decide_eq_true (by kernel_rfl)) k2 hb (fun x hx=>by simpa using hlt x (by simp [hx]))) (trodAll_cons_mk (Below.trod Try.laidOut (by kernel_rfl) (of_decide_eq_true (by kernel_rfl)) k3 hb (fun x hx=>by simpa using hlt x (by simp [hx]))) trodAll_mk0)))),rfl,hb.frame _,fun h=>by cases h⟩
theorem over:Rows.windowFairRow.holds Try.pinned (OpenSpec.ofChange Rows.windowFairSpec):=
 OpenClaim.holds_of_wide 6 Try.f6 rfl rfl rfl rfl rfl rfl rfl ⟨rfl,rfl,rfl,rfl,rfl⟩ rfl rfl rfl rfl rfl (by kernel_rfl) Try.func6 (by kernel_rfl)
  (of_decide_eq_true (by kernel_rfl)) (by unfold Func.isWrapper; first | (rw [if_pos (by decide +kernel)]; kernel_rfl) | (rw [if_neg (by decide +kernel)]; exact ⟨rfl,rfl⟩))
  (fun os started H enc _=>lifted os started H enc)
theorem proved:Rows.WindowFairSaid:=
 over
end Go.Proofs.Ytefnjhnlegjojaa.windowFair
