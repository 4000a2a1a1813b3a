/- Proved: WindowMeasures returns true for every list of numbers, every number and every list of bytes, and the lists read afterwards as before; no condition. -/
import Derived.LoopTactic
import Derived.WalkKit
import Derived.ProofKit
import Derived.OpenShut
import Derived.SizedLaws
import Derived.Test.YtefnjhnlegjojaaB01
import Derived.Test.YtefnjhnlegjojaaB02
namespace Go.Proofs.Ytefnjhnlegjojaa.windowMeasures
open Go.ChangeShapes Go.WideShapes Go.ChangeAt Go.RowKit
set_option linter.unusedVariables false
set_option linter.unusedSimpArgs false
set_option maxRecDepth 100000 in
set_option maxHeartbeats 4000000 in
theorem walk (w:World) (v0:Value) (l0:List Int) (s0:SlI w .i64 v0 l0) (a1:Int) (w1:(Lit.int .i64 a1).wf=true) (v2:Value) (l2:List Int) (s2:SlI w .u8 v2 l2) :
  Calls Try.prog 4 #[v0,.int .i64 a1,v2] w fun e w'=>e=.returned (.bool true)∧Below w.heap.size w w':=by
 have A:=Lib.hid (awakeN_any w);have M0:=Int.emod_nonneg a1 (show (10:Int)≠0 by omega);have M1:=Int.emod_lt_of_pos a1 (show (0:Int)<10 by omega);obtain ⟨q,hq⟩:∃q:Nat,a1 % 10=q:=⟨(a1 % 10).toNat,by omega⟩;rw [hq] at M0 M1;have HQ:=Lib.hid hq;have S0:=Lib.hid s0;have S2:=Lib.hid s2;obtain ⟨c,cap,rfl,h4⟩:=s0.len;obtain ⟨c2,cap2,rfl,h42⟩:=s2.len;have h47:=s0.1;have h48:=s2.1;have H5:Hid (∀i,i<l2.length→∃b off,c2=some ⟨b,off,none⟩∧b<w.heap.size∧w.cell? ⟨b,off+i,none⟩=some (.int .u8 (l2.getD i 0))):=by
  obtain ⟨_,_,x,y,e,_,h⟩:=s2;simp only [Value.slice.injEq] at e;obtain ⟨rfl,-,-⟩:=e;exact h
 have HU:Hid (∀i,i<l2.length→0≤l2.getD i 0∧l2.getD i 0≤255):=fun i hi=>by
  have:=s2.2.1 _ (mem_of_getD l2 i hi);rw [this];simp only [IntKind.wrap,IntKind.bits,IntKind.signed];constructor
  ·exact Int.emod_nonneg _ (by decide)
  ·have:=Int.emod_lt_of_pos (l2.getD i 0) (show (0:Int)<2 ^ 8 by decide)
   simp at this ⊢; omega
 clear w1 s0 s2 hq h4 h42;by_cases h1:100<l0.length
 ·go_enter Try.func4,Try.ntmps4
  go_wp2_with (go_at_call 8; refine A.out.mono ?_; rintro e w1 ⟨rfl,hb1⟩);go_ret;exact ⟨rfl,hb1⟩
 by_cases h2:100<l2.length
 ·go_enter Try.func4,Try.ntmps4
  go_wp2_with (go_at_call 8; refine A.out.mono ?_; rintro e w1 ⟨rfl,hb1⟩);go_ret;exact ⟨rfl,hb1⟩
 have R1:=Lib.hid fun t w' h=>measure_any t (.slice c l0.length cap) l0 w' h (by omega);have R2:=Lib.hid fun t w' h=>rmeasure_any t (.slice c l0.length cap) l0 w' h (by omega);obtain ⟨m,hm⟩:∃m,l2.length=m:=⟨_,rfl⟩;have HM:=Lib.hid hm;rw [hm] at H5 HU h2 h48;rw [hm] at S2 ⊢;clear hm;go_enter Try.func4,Try.ntmps4;go_wp2_with (first
  | (go_at_call 8; refine A.out.mono ?_; rintro e w1 ⟨rfl,hb1⟩)
  | (go_at_call 9; refine (mod_any _ _ _ (by omega) (by omega)).mono ?_; rintro e wm ⟨rfl,rfl⟩; rw [HQ.out]))
 have HB1:=Lib.hid hb1;clear hb1;go_loopw [8,24] (fun p c wr=>∃i:Nat,∃u:Value,∃ll:List Int,u=p∧i≤m∧c=.int .i64 i∧Hid (ll.length=i)∧Hid (∀x∈ll,-1≤x∧x≤8)∧Hid (OwnI wr w.heap.size 3 .i64 u ll)∧Hid (Below w.heap.size w wr)) (fun _ c _=>m - (intOf c).toNat)
 case atStart=>exact ⟨0,_,[],rfl,by omega,rfl,rfl,fun x hx=>by simp at hx,OwnI.nil _ _ _ _,HB1⟩
 case round=>
  obtain ⟨i,u,ll,rfl,hi,rfl,hll,hlb,ho,hb⟩:=hrel;obtain ⟨wo,rfl⟩:∃wo:World,wo=wr:=⟨_,rfl⟩;by_cases hlt:i<m
  ·obtain ⟨b,off,rfl,hbl,hcell⟩:=H5.out i hlt
   have hcell:=(hb.out.cell (p:=⟨b,off+i,none⟩) hbl).trans hcell;have hu:=HU.out i hlt;obtain ⟨x,hx⟩:∃x,l2.getD i 0=x:=⟨_,rfl⟩;rw [hx] at hcell hu;have g1:wrap64 x=x:=by unfold wrap64; omega
   have g2:x.tmod 10=x % 10:=Int.tmod_eq_emod_of_nonneg hu.1;have g3:0≤x % 10∧x % 10<10:=by omega
   have g4:wrap64 (x % 10 - 1)=x % 10 - 1:=by unfold wrap64; omega
   clear hx hbl;go_wp2_with (at_builtin; go_must (refine wp_append_i64 _ rfl _ _ rfl w.heap.size u ll rfl (OwnI.alloc ho.out _) (x % 10 - 1) _ rfl ?c1 ?c2 ?c3 ?_))
   case c1=>first | exact (World.cell?_alloc_at _ _ _ _ rfl) | (rw [World.cell?_alloc_at _ _ _ _ rfl]; simp [g2,g4])
   case c2=>have:=hll.out; omega
   case c3=>have:=hb.out.size; simp; omega
   intro v' w2 hown' hgrow;have hb2:Below w.heap.size w w2:=(below_new hb.out _).grown hgrow (by have:=hb.out.size; simp; omega) ho.out.own_ge;have hll2:(ll ++ [x % 10 - 1]).length=i+1:=by have:=hll.out; simp; omega
   have hlb2:∀y∈ll ++ [x % 10 - 1],-1≤y∧y≤8:=fun y hy=>by
    rcases List.mem_append.1 hy with h | h
    ·exact hlb.out y h
    ·simp at h; omega
   have F:=Lib.hid (And.intro hll2 (And.intro hlb2 (And.intro hown' hb2)));clear hll2 hlb2 hown' hb2 hgrow g1 g2 g3 g4;go_wp2;go_roundw
   case rel=>exact ⟨i+1,v',_,rfl,by omega,by go_num,F.out.1,F.out.2.1,F.out.2.2.1,F.out.2.2.2⟩
   case measure=>simp [intOf]; omega
  ·obtain rfl:i=m:=by omega
   have SL:SlI wo .i64 u ll:=ho.out.read (by have:=hll.out; omega) fun x hx=>by
    have:=hlb.out x hx;exact i64_ok x (by omega) (by omega)
   have S3:=Lib.hid (S0.out.below hb.out);have R3:=Lib.hid fun t w' h=>measure_any t u ll w' h (by have:=hll.out; omega);have R4:=Lib.hid fun t w' h=>rmeasure_any t u ll w' h (by have:=hll.out; omega);have S4:=Lib.hid SL;clear SL;go_wp2_with (first
    | (go_at_call 15; with_reducible refine (R1.out _ wo S3.out).mono ?_; rintro e wa ⟨rfl,hba⟩)
    | (go_at_call 16; with_reducible refine (R2.out _ wa (S3.out.below hba)).mono ?_; rintro e wb ⟨rfl,hbb⟩; have S5:=Lib.hid ((S4.out.below hba).below hbb); have S6:=Lib.hid ((S3.out.below hba).below hbb); have B6:=Lib.hid (below_then (below_then hb.out hba) hbb); clear hba hbb)
    | (go_at_call 15; with_reducible refine (R3.out _ wb S5.out).mono ?_; rintro e wc ⟨rfl,hbc⟩)
    | (go_at_call 16; with_reducible refine (R4.out _ wc (S5.out.below hbc)).mono ?_; rintro e wd ⟨rfl,hbd⟩; have S7:=Lib.hid ((S6.out.below hbc).below hbd); have B7:=Lib.hid (below_then (below_then B6.out hbc) hbd); clear hbc hbd)
    | (go_at_call 15; with_reducible refine (R1.out _ wd S7.out).mono ?_; rintro e we ⟨rfl,hbe⟩)
    | (go_at_call 16; with_reducible refine (R2.out _ we (S7.out.below hbe)).mono ?_; rintro e wf ⟨rfl,hbf⟩))
   go_ret;exact ⟨rfl,below_then (below_then B7.out hbe) hbf⟩
set_option maxRecDepth 100000 in
theorem lifted (os:Os) (started:os.Started) (H:Type) (enc:TypeId × Value→H) :
  ReturnsInHanded {} Try.checked os 4 .any (Rows.windowMeasuresSpec.pre6 enc Try.prog Try.f4 Rows.windowMeasuresRow.domain false) (Rows.windowMeasuresSpec.post enc Try.prog Try.f4 false true false false):=by
 refine returnsInHanded_of_change_sized (C:=Try.checked) own started (by kernel_rfl) Try.func4
  (ChangeSpec.witness6 (enc:=enc) (C:=Try.checked) false ⟨#[],#[.slice none 0 0,.int .i64 0,.slice none 0 0],[]⟩ 8 (by kernel_rfl) (by kernel_rfl) (by kernel_rfl) (by kernel_rfl)) ?_
 intro W base args ds gs before hval0 hW _ hsz0 _;have hsz:(DataW.weightsEach Try.prog (Try.f4.params.toList ++ Rows.windowMeasuresSpec.plain.varTypes Try.prog) (ds ++ gs)).all (·≤reachBytes)=true:=hsz0;clear hsz0;have hval:∀(j:Nat) t v,Try.f4.params[j]?=some t→args[j]?=some v→Value.okWide Try.prog W .any base t v:=hval0;have hW':=hW;obtain ⟨p,q,hA0,hV,rfl,_,_⟩:=hW;have hA:DataW.TrodAll enc Try.prog W 0 (fun _=>true) true Try.f4.params.toList args.toList ds p:=hA0;rw [Try.params4] at hA hval hsz;obtain ⟨v0,vs0,d0,ds0,p0,q0,hargs,rfl,rfl,h0,rr0⟩:=trodAll_cons hA;obtain ⟨v1,vs1,d1,ds1,p1,q1,rfl,rfl,rfl,h1,rr1⟩:=trodAll_cons rr0;obtain ⟨v2,vs2,d2,ds2,p2,q2,rfl,rfl,rfl,h2,rr2⟩:=trodAll_cons rr1;obtain ⟨rfl,rfl,rfl⟩:=trodAll_nil rr2;obtain rfl:args=#[v0,v1,v2]:=by cases args; simp_all
 obtain ⟨rfl,rfl⟩:=trodVars_none hV;have k0:=h0;have k1:=h1;have k2:=h2;obtain ⟨l0,s0⟩:=view_sl (k:=.i64) Try.underlying22 Try.underlying3 (by kernel_rfl) (fun elems sp hd=>sized_slice hsz (j:=0) (t:=22) (e:=3) rfl (by rw [hd]; rfl) Try.underlying22) (of_decide_eq_true (by kernel_rfl)) (hval 0 22 v0 rfl rfl) h0;obtain ⟨a1,rfl,-,-,w1⟩:=open_int Try.underlying3 (hval 1 3 v1 rfl rfl) h1;obtain ⟨l2,s2⟩:=view_sl (k:=.u8) Try.underlying29 Try.underlying5 (by kernel_rfl) (fun elems sp hd=>sized_slice hsz (j:=2) (t:=29) (e:=5) rfl (by rw [hd]; rfl) Try.underlying29) (of_decide_eq_true (by kernel_rfl)) (hval 2 29 v2 rfl rfl) h2;clear hA0 hval0;simp only [List.append_nil] at hW';have hlt:=hW'.lt;refine (walk W v0 l0 s0 a1 w1 v2 l2 s2).mono fun e W' ⟨he,hb⟩=>?_;subst he;exact ⟨_,rfl,_,_,_,[],_,[],hW',trodAll_cons_mk (shut_bool Try.underlying4 _) trodAll_mk0,(trodAll_cons_mk (Below.trod Try.laidOut (by kernel_rfl) (of_decide_eq_true (by kernel_rfl)) k0 hb (fun x hx=>by simpa using hlt x (by simp [hx]))) (trodAll_cons_mk (Below.trod Try.laidOut (by kernel_rfl) (of_decide_eq_true (by kernel_rfl)) k1 hb (fun x hx=>by simpa using hlt x (by simp [hx]))) (trodAll_cons_mk (Below.trod Try.laidOut (by kernel_rfl) (of_decide_eq_true (by kernel_rfl)) k2 hb (fun x hx=>by simpa using hlt x (by simp [hx]))) trodAll_mk0))),rfl,hb.frame _,fun h=>by cases h⟩
theorem over:Rows.windowMeasuresRow.holds Try.pinned (OpenSpec.ofChange Rows.windowMeasuresSpec):=
 OpenClaim.holds_of_wide 4 Try.f4 rfl rfl rfl rfl rfl rfl rfl ⟨rfl,rfl,rfl,rfl,rfl⟩ rfl rfl rfl rfl rfl (by kernel_rfl) Try.func4 (by kernel_rfl)
  (of_decide_eq_true (by kernel_rfl)) (by unfold Func.isWrapper; first | (rw [if_pos (by decide +kernel)]; kernel_rfl) | (rw [if_neg (by decide +kernel)]; exact ⟨rfl,rfl⟩))
  (fun os started H enc _=>lifted os started H enc)
theorem proved:Rows.WindowMeasuresSaid:=
 over
end Go.Proofs.Ytefnjhnlegjojaa.windowMeasures
