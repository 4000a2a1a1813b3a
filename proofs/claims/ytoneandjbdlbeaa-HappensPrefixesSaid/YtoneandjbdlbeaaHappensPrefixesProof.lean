/- Proved: HappensPrefixes returns true for every list of codes, every number and every cut, and its arguments read afterwards as before; no condition. -/
import Derived.Deep.DeepCutAuto
import Derived.Deep.CutBlock
import Derived.LoopTactic
import Derived.WalkKit
import Derived.ProofKit
import Derived.OpenShut
import Derived.SizedLaws
import Derived.Test.YtoneandjbdlbeaaB01
import Derived.Test.YtoneandjbdlbeaaB04
namespace Go.Proofs.Ytoneandjbdlbeaa.happensPrefixes
open Go.ChangeShapes Go.WideShapes Go.ChangeAt Go.RowKit
set_option linter.unusedVariables false
set_option linter.unusedSimpArgs false
def LoR (w:World) (r:Value) (vs:List Value) (l:List ItemM) (n m:Nat):Prop:=SlS w 1 r (vs.map fun v=>[v])∧vs.length=m∧∀q,q<m→SlI w .i64 (vs.getD q (.slice none 0 0)) (clkI l q n)
theorem LoR.below {w w':World} {r:Value} {vs:List Value} {l:List ItemM} {n m:Nat} (h:LoR w r vs l n m) (hb:Below w.heap.size w w'):LoR w' r vs l n m:=⟨h.1.below hb,h.2.1,fun q hq=>(h.2.2 q hq).below hb⟩
theorem clkI_wrap (l:List ItemM) {j:Nat} (n:Nat) (hj:j≤1000000):∀x∈clkI l j n,x=IntKind.i64.wrap x:=fun x hx=>by
 unfold clkI at hx;obtain ⟨t,-,rfl⟩:=List.mem_map.1 hx;have:=clkAt_ok l j t;rw [IntKind.wrap_i64];omega
theorem clk_readL {w wr:World} {l:List ItemM} {n j:Nat} {r:Value} {vs:List Value} (h:ClkI w wr l n j r vs) (hj:j≤100000) (hn:n≤8):LoR wr r vs l n j:=
 ⟨h.own.sls (by rw [List.length_map,h.len]; omega),h.len,fun q hq=>OwnI.read (h.ins q hq) (by rw [clkI_len]; omega) (clkI_wrap l n (by omega))⟩
theorem LoR.at {w:World} {r:Value} {vs:List Value} {l:List ItemM} {n m:Nat} (h:LoR w r vs l n m) (h0:0<m):∃b off cap,r=.slice (some ⟨b,off,none⟩) m cap∧b<w.heap.size∧∀i w',i<m→Below w.heap.size w w'→w'.cell? ⟨b,off+i,none⟩=some (vs.getD i (.slice none 0 0)):=by
 have hl:(vs.map fun v=>[v]).length=m:=by rw [List.length_map,h.2.1]
 obtain ⟨b,off,cap,rfl,hb,hr⟩:=h.1.open (by rw [hl]; exact h0);refine ⟨b,off,cap,by rw [hl],hb,fun i w' hi hw=>?_⟩;have h5:=hr i (by rw [hl]; exact hi);have e:(vs.map fun v=>[v]).getD i []=[vs.getD i (.slice none 0 0)]:=by
  rw [List.getD_eq_getElem?_getD,List.getElem?_map,List.getD_eq_getElem?_getD,List.getElem?_eq_getElem (by rw [h.2.1]; exact hi)];rfl
 rw [e] at h5;have h6:=h5 0 _ rfl;rw [Nat.mul_one,Nat.add_zero] at h6;exact (hw.cell (p:=⟨b,off+i,none⟩) hb).trans h6
theorem LoR.len {w:World} {r:Value} {vs:List Value} {l:List ItemM} {n m:Nat} (h:LoR w r vs l n m):∃a c,r=.slice a m c:=by
 obtain ⟨a,c,rfl,-⟩:=h.1.len;exact ⟨a,c,by rw [List.length_map,h.2.1]⟩
theorem clkI_take (l:List ItemM) {q k:Nat} (n:Nat) (h:q<k):clkI (l.take k) q n=clkI l q n:=by
 unfold clkI;rw [clkAt_take l h]
set_option maxRecDepth 100000 in
set_option maxHeartbeats 16000000 in
theorem walk (w:World) (v0:Value) (l0:List Int) (s0:SlI w .u8 v0 l0) (a1:Int) (w1:(Lit.int .u8 a1).wf=true) (a2:Int) (w2:(Lit.int .i64 a2).wf=true) :
  Calls Try.prog 7 #[v0,.int .u8 a1,.int .i64 a2] w fun e w'=>e=.returned (.bool true)∧Below w.heap.size w w':=by
 have AW:=Lib.hid (awakeH_any w);have HS0:=Lib.hid s0;clear s0;have hu8:0≤a1∧a1≤255:=by
  have h:=w1;unfold Lit.wf at h;simp only [Bool.and_eq_true,decide_eq_true_eq] at h;have e1:IntKind.u8.min=0:=by decide
  have e2:IntKind.u8.max=255:=by decide
  rw [e1,e2] at h;exact h
 have ht:1≤wrap64 (1+wrap64 (a1.tmod 4))∧wrap64 (1+wrap64 (a1.tmod 4))≤4:=by
  rw [Int.tmod_eq_emod_of_nonneg hu8.1];unfold wrap64;omega
 clear hu8;go_enter Try.func7,Try.ntmps7;go_wp2_with fail;refine AW.out.mono ?_; rintro e w2 ⟨rfl,hb1⟩;have HB1:=Lib.hid hb1;clear hb1 AW;go_upto_region 4 with fail
 obtain ⟨th,hth⟩:∃z,wrap64 (1+wrap64 (a1.tmod 4))=z:=⟨_,rfl⟩;rw [hth] at ht ⊢;clear hth;obtain ⟨ht1,ht4⟩:=ht;go_wp2_with fail;refine (itemsH_any v0 l0 th 30 w2 (HS0.out.below HB1.out) ⟨by omega,by omega⟩ ⟨by decide,by decide⟩).mono ?_; rintro e w3 ⟨u,l,rfl,hsl,hle,hg,hb3⟩;obtain ⟨tn,rfl⟩:∃tn:Nat,th=tn:=⟨th.toNat,by omega⟩;have HSL:=Lib.hid hsl;have HG:=Lib.hid hg;have HB3:=Lib.hid (below_then HB1.out hb3);obtain ⟨av,cap,rfl,hcap⟩:=hsl.len;have TC1:=Lib.hid fun w' (hb:Below w3.heap.size w3 w')=>clocksL_any l tn _ w' (hsl.below hb) ⟨by omega,by omega⟩ (fun x hx=>(hg x hx).2) (by omega);have TC2k:=Lib.hid fun k w' (hb:Below w3.heap.size w3 w') (hk:k≤l.length)=>clocksL_any (l.take k) tn _ w' (SlT.takeK (hsl.below hb) k hk) ⟨by omega,by omega⟩ (fun x hx=>(hg x (List.mem_of_mem_take hx)).2) (by rw [List.length_take]; omega);obtain ⟨n,hn⟩:∃n,l.length=n:=⟨_,rfl⟩;have HN:=Lib.hid hn;rw [hn] at HSL TC1 TC2k hle hcap ⊢;have hnm:n≤30:=by omega
 clear hsl hg hb3 hn hle HB1 HS0;have hw1:wrap64 ((n:Int)+1)=(n:Int)+1:=by unfold wrap64; omega
 have hw2:IntKind.i64.wrap ((n:Int)+1)=(n:Int)+1:=by rw [IntKind.wrap_i64]; omega
 go_wp2_with fail;refine (mod_any a2 ((n:Int)+1) _ (by omega) (by omega)).mono ?_; rintro e w3b ⟨rfl,rfl⟩;have hm0:=Int.emod_nonneg a2 (show (n:Int)+1≠0 by omega);have hm1:=Int.emod_lt_of_pos a2 (show 0<(n:Int)+1 by omega);obtain ⟨k,hk⟩:∃k:Nat,a2 % ((n:Int)+1)=k:=⟨(a2 % ((n:Int)+1)).toNat,by rw [Int.toNat_of_nonneg hm0]⟩;rw [hk] at hm0 hm1;have hkn:k≤n:=by omega
 rw [hk];clear hk hw1 hw2 hm0 hm1;have TC2:=Lib.hid fun w' hb=>TC2k.out k w' hb hkn;have hkI:(k:Int)≤(n:Int):=by omega
 have hk0:(0:Int)≤(k:Int):=by omega
 have hkc:k≤cap:=by omega
 have hkc2:k≤n:=hkn;clear TC2k;go_upto_region 6 with fail
 go_cut [10,11] (fun s10 s11 wx=>∃(p1:Option Addr) (c1:Nat) (p2:Option Addr) (c2:Nat) (vs1 vs2:List Value),s10=.slice p1 n c1∧s11=.slice p2 k c2∧Hid (LoR wx (.slice p1 n c1) vs1 l tn n)∧Hid (LoR wx (.slice p2 k c2) vs2 (l.take k) tn k)∧Hid (Below w3.heap.size w3 wx))
 case first=>
  refine wp_region_until (fun _:World=>True) 7 10 (by kernel_rfl) rfl ?_;obtain ⟨u0,hu0,hU0⟩:=drew_pack w3;rw [hu0];clear hu0;have HX0:Hid (Below w3.heap.size w3 u0):=hU0;clear hU0;have hSU0:(fun _:World=>True) (u0):=trivial;apply tkV 6 hSU0 rfl (by kernel_rfl) (fun _ _ _ h=>h) rfl;intro w hSw;(go_simp<;>with_reducible rfl);simp only [J0,J1,J2,J3,J4];apply tkW 0 (fun _=>hSU0) rfl (by kernel_rfl) (fun _ _ _ h=>h) rfl;intro w;(go_simp<;>with_reducible rfl);simp only [J0,J1,J2,J3,J4];apply tkW 1 (fun _=>hSU0) rfl (by kernel_rfl) (fun _ _ _ h=>h) rfl;intro w;(go_simp<;>with_reducible rfl);simp only [J0,J1,J2,J3,J4];apply tkW 3 (fun _=>hSU0) rfl (by kernel_rfl) (fun _ _ _ h=>h) rfl;intro w;(go_simp<;>with_reducible rfl);simp only [J0,J1,J2,J3,J4];apply tkW 4 (fun _=>hSU0) rfl (by kernel_rfl) (fun _ _ _ h=>h) rfl;intro w;(go_simp<;>with_reducible rfl);simp only [J0,J1,J2,J3,J4];apply tkV 5 hSU0 rfl (by kernel_rfl) (fun _ _ _ h=>h) rfl;intro w hSw;(go_simp<;>with_reducible rfl);simp only [J0,J1,J2,J3,J4];refine consU 2 rfl (by kernel_rfl) rfl fun K hK=>?_;go_simp;go_at_call 12;refine (TC1.out u0 HX0.out).mono ?_;rintro e u1 ⟨r1,rfl,vs1,hk1⟩;have HK1:=Lib.hid hk1;have HX1:=Lib.hid (below_then HX0.out hk1.bw);clear hk1;refine hK.out _ _ ?_ fun hSU1=>?_;exact trivial;clear hK K hSU0;(try simp only [J0,J1,J2,J3,J4]);refine freeU 7 rfl (by kernel_rfl) rfl (by kernel_rfl) fun K hK=>?_;go_simp;go_at_call 12;refine (TC2.out u1 HX1.out).mono ?_;rintro e u2 ⟨r2,rfl,vs2,hk2⟩;have HK2:=Lib.hid hk2;have HX2:=Lib.hid (below_then HX1.out hk2.bw);have HK1:=Lib.hid (HK1.out.below hk2.bw);clear hk2;refine hK.out _ _ ?_;clear hK K hSU1;(try simp only [J0,J1,J2,J3,J4]);apply tkW 8 (past_k (by kernel_rfl)) rfl (by kernel_rfl) (fun _ _ _ h=>h) rfl;intro w;(go_simp<;>with_reducible rfl);simp only [J0,J1,J2,J3,J4];apply tkW 9 (past_k (by kernel_rfl)) rfl (by kernel_rfl) (fun _ _ _ h=>h) rfl;intro w;(go_simp<;>with_reducible rfl);simp only [J0,J1,J2,J3,J4];refine wpAnyU_done (by kernel_rfl) ?_ _;have HR1:=Lib.hid (clk_readL HK1.out (by have:=HN.out; omega) (by omega))
  have HR2:=Lib.hid (clk_readL HK2.out (by rw [List.length_take]; omega) (by omega));try rw [HN.out] at HR1
  try rw [List.length_take,HN.out,Nat.min_eq_left hkn] at HR2
  try rw [List.length_take,HN.out,Nat.min_eq_left hkn] at HK2
  obtain ⟨p1,c1,rfl⟩:=HR1.out.len;obtain ⟨p2,c2,rfl⟩:=HR2.out.len;go_wp2_with fail;go_meet;exact ⟨p1,c1,p2,c2,vs1,vs2,rfl,rfl,HR1,HR2,HX2⟩
 obtain ⟨p1,c1,p2,c2,vs1,vs2,rfl,rfl,HR1,HR2,HBx⟩:=hcut;obtain ⟨wx,rfl⟩:∃wx:World,wx=wc:=⟨_,rfl⟩;have hnn:((n:Int) != (n:Int))=false:=by simp
 have hkk:((k:Int) != (k:Int))=false:=by simp
 have HBw:=Lib.hid (below_then HB3.out HBx.out);clear TC1 TC2 HBx HB3;go_wp2_with fail;go_loopw [48] (fun u48 wr=>∃i:Nat,u48=.int .i64 (i:Int)∧i≤k∧Hid (Below wx.heap.size wx wr)) (fun u48 _=>k - (intOf u48).toNat)
 case atStart=>exact ⟨0,rfl,by omega,Below.refl _ _⟩
 case round=>
  obtain ⟨i,rfl,hi,HB⟩:=hrel;obtain ⟨wi,rfl⟩:∃wi:World,wi=wr:=⟨_,rfl⟩;by_cases hlt:i<k
  ·have hltI:(i:Int)<(k:Int):=by omega
   have hinI:(i:Int)<(n:Int):=by omega
   obtain ⟨b1,o1,d1,hve,hb1,k1⟩:=(HR1.out.below HB.out).at (by omega);simp only [Value.slice.injEq] at hve;obtain ⟨hv1,-,hv3⟩:=hve;subst hv1;subst hv3;obtain ⟨b2,o2,d2,hve,hb2,k2⟩:=(HR2.out.below HB.out).at (by omega);simp only [Value.slice.injEq] at hve;obtain ⟨hv1,-,hv3⟩:=hve;subst hv1;subst hv3;have e1:=k1 i wi (by omega) (Below.refl _ _);have e2:=k2 i wi hlt (Below.refl _ _);have s1:=(HR1.out.below HB.out).2.2 i (by omega);have s2:=(HR2.out.below HB.out).2.2 i hlt;rw [clkI_take l tn hlt] at s2;obtain ⟨x1,hx1⟩:∃z,vs1.getD i (.slice none 0 0)=z:=⟨_,rfl⟩;obtain ⟨x2,hx2⟩:∃z,vs2.getD i (.slice none 0 0)=z:=⟨_,rfl⟩;rw [hx1] at e1 s1;rw [hx2] at e2 s2;have TS:Hid (∀w',Below wi.heap.size wi w'→Calls Try.prog 14 #[x1,x2] w' fun e w2=>e=.returned (.bool true)∧Below w'.heap.size w' w2):=fun w' hb=>(same_any x1 x2 _ _ w' (s1.below hb) (s2.below hb)).mono fun e w2 ⟨m,h1,h2⟩=>⟨by rw [h1]; simp,by rw [← h2]; exact below_drewN (Below.refl _ _) m⟩;clear k1 k2 s1 s2 hx1 hx2;go_upto_region 12 with fail
   have X1:=ext_cell _ _ hb1 _ e1;have X2:=ext_cell _ _ hb2 _ e2;clear e1 e2;refine wp_region_ext wi (by kernel_rfl) (by kernel_rfl) (Below.refl _ _) ?_
   repeat (go_big_quiet_step (first | (go_at_call 14; with_reducible exact calls_ext (TS.out _ (Ext.below _)))))
   refine wpQuiet_nil ?_;intro _ hw';obtain ⟨n9,rfl⟩:=hw';have HB9:=Lib.hid (below_then HB.out n9.below);generalize n9.wd=w9 at *;clear X1 X2 TS;go_wp2_with fail;go_roundw
   case rel=>exact ⟨i+1,by go_num,by omega,HB9⟩
   case measure=>simp [intOf]; omega
  ·have hge:¬(i:Int)<(k:Int):=by omega
   have HBF:=Lib.hid (below_then HBw.out HB.out);go_wp2
   all_goals (go_ret; exact ⟨rfl,HBF.out⟩)
set_option maxRecDepth 100000 in
theorem lifted (os:Os) (started:os.Started) (H:Type) (enc:TypeId × Value→H) :
  ReturnsInHanded {} Try.checked os 7 .any (Rows.happensPrefixesSpec.pre6 enc Try.prog Try.f7 Rows.happensPrefixesRow.domain false) (Rows.happensPrefixesSpec.post enc Try.prog Try.f7 false true false false):=by
 refine returnsInHanded_of_change_sized (C:=Try.checked) own started (by kernel_rfl) Try.func7
  (ChangeSpec.witness6 (enc:=enc) (C:=Try.checked) false ⟨#[],#[.slice none 0 0,.int .u8 0,.int .i64 0],[]⟩ 8 (by kernel_rfl) (by kernel_rfl) (by kernel_rfl) (by kernel_rfl)) ?_
 intro W base args ds gs before hval0 hW _ hsz0 _;have hsz:(DataW.weightsEach Try.prog (Try.f7.params.toList ++ Rows.happensPrefixesSpec.plain.varTypes Try.prog) (ds ++ gs)).all (·≤reachBytes)=true:=hsz0;clear hsz0;have hval:∀(j:Nat) t v,Try.f7.params[j]?=some t→args[j]?=some v→Value.okWide Try.prog W .any base t v:=hval0;have hW':=hW;obtain ⟨p,q,hA0,hV,rfl,_,_⟩:=hW;have hA:DataW.TrodAll enc Try.prog W 0 (fun _=>true) true Try.f7.params.toList args.toList ds p:=hA0;rw [Try.params7] at hA hval hsz;obtain ⟨v0,vs0,d0,ds0,p0,q0,hargs,rfl,rfl,h0,rr0⟩:=trodAll_cons hA;obtain ⟨v1,vs1,d1,ds1,p1,q1,rfl,rfl,rfl,h1,rr1⟩:=trodAll_cons rr0;obtain ⟨v2,vs2,d2,ds2,p2,q2,rfl,rfl,rfl,h2,rr2⟩:=trodAll_cons rr1;obtain ⟨rfl,rfl,rfl⟩:=trodAll_nil rr2;obtain rfl:args=#[v0,v1,v2]:=by cases args; simp_all
 obtain ⟨rfl,rfl⟩:=trodVars_none hV;have k0:=h0;have k1:=h1;have k2:=h2;obtain ⟨l0,s0⟩:=view_sl (k:=.u8) Try.underlying22 Try.underlying5 (by kernel_rfl) (fun elems sp hd=>sized_slice hsz (j:=0) (t:=22) (e:=5) rfl (by rw [hd]; rfl) Try.underlying22) (of_decide_eq_true (by kernel_rfl)) (hval 0 22 v0 rfl rfl) h0;obtain ⟨a1,rfl,-,-,w1⟩:=open_int Try.underlying5 (hval 1 5 v1 rfl rfl) h1;obtain ⟨a2,rfl,-,-,w2⟩:=open_int Try.underlying3 (hval 2 3 v2 rfl rfl) h2;clear hA0 hval0;simp only [List.append_nil] at hW';have hlt:=hW'.lt;refine (walk W v0 l0 s0 a1 w1 a2 w2).mono fun e W' ⟨he,hb⟩=>?_;subst he;exact ⟨_,rfl,_,_,_,[],_,[],hW',trodAll_cons_mk (shut_bool Try.underlying4 _) trodAll_mk0,(trodAll_cons_mk (Below.trod Try.laidOut (by kernel_rfl) (of_decide_eq_true (by kernel_rfl)) k0 hb (fun x hx=>by simpa using hlt x (by simp [hx]))) (trodAll_cons_mk (Below.trod Try.laidOut (by kernel_rfl) (of_decide_eq_true (by kernel_rfl)) k1 hb (fun x hx=>by simpa using hlt x (by simp [hx]))) (trodAll_cons_mk (Below.trod Try.laidOut (by kernel_rfl) (of_decide_eq_true (by kernel_rfl)) k2 hb (fun x hx=>by simpa using hlt x (by simp [hx]))) trodAll_mk0))),rfl,hb.frame _,fun h=>by cases h⟩
theorem over:Rows.happensPrefixesRow.holds Try.pinned (OpenSpec.ofChange Rows.happensPrefixesSpec):=
 OpenClaim.holds_of_wide 7 Try.f7 rfl rfl rfl rfl rfl rfl rfl ⟨rfl,rfl,rfl,rfl,rfl⟩ rfl rfl rfl rfl rfl (by kernel_rfl) Try.func7 (by kernel_rfl)
  (of_decide_eq_true (by kernel_rfl)) (by unfold Func.isWrapper; first | (rw [if_pos (by decide +kernel)]; kernel_rfl) | (rw [if_neg (by decide +kernel)]; exact ⟨rfl,rfl⟩))
  (fun os started H enc _=>lifted os started H enc)
theorem proved:Rows.HappensPrefixesSaid:=
 over
end Go.Proofs.Ytoneandjbdlbeaa.happensPrefixes
