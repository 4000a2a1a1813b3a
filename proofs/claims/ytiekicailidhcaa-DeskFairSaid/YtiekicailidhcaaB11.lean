import Derived.Deep.DeepCutAuto
import Derived.Deep.CutBlock
import Derived.Lib.Overlaps
import Derived.Lib.AppendZerosOnto
import Derived.Shelf.Spec.SlicesInsert
import Derived.Test.YtiekicailidhcaaB10
import Derived.Test.YtiekicailidhcaaB03
set_option linter.unusedVariables false
set_option linter.unusedSimpArgs false
namespace Go.Proofs.Ytiekicailidhcaa
open Go.ChangeShapes Go.WideShapes Go.ChangeAt Go.RowKit
set_option maxRecDepth 100000
def BsQ (l:List DoneM) (t:Int) (w:World) (e:Ending) (w':World):Prop:=∃(i:Nat) (f:Bool),e=.returned (.tuple #[.int .i64 (i:Int),.bool f])∧i≤l.length∧(∀j,j<i→(l.getD j doneZ).thr<t)∧(∀j,i≤j→j<l.length→t≤(l.getD j doneZ).thr)∧Below w.heap.size w w'
set_option maxRecDepth 100000 in
set_option maxHeartbeats 16000000 in
theorem bsF_any (v:Value) (l:List DoneM) (t:Int) (w:World) (hv:SlS w 6 v (doneRows l)) (hl:l.length≤1000000) (hs:∀i j,i≤j→j<l.length→(l.getD i doneZ).thr≤(l.getD j doneZ).thr):Calls Try.prog 76 #[v,.int .i64 t,.func (.func 77) #[] #[]] w (BsQ l t w):=by
 have HV:=Lib.hid hv;have HS:=Lib.hid hs;have hll:=doneRows_length l;obtain ⟨a,cap,rfl,-⟩:=hv.len;rw [hll];rw [hll] at HV;obtain ⟨TQ,hTQ⟩:∃z,BsQ l t w=z:=⟨_,rfl⟩;have HT:Hid (∀(i:Nat) (f:Bool) w',i≤l.length→(∀j,j<i→(l.getD j doneZ).thr<t)→(∀j,i≤j→j<l.length→t≤(l.getD j doneZ).thr)→Below w.heap.size w w'→TQ (.returned (.tuple #[.int .i64 (i:Int),.bool f])) w'):=fun i f w' h1 h2 h3 h4=>by rw [← hTQ]; exact ⟨i,f,rfl,h1,h2,h3,h4⟩
 rw [hTQ];obtain ⟨n,hn⟩:∃z,l.length=z:=⟨_,rfl⟩;have HN:=Lib.hid hn;rw [hn] at HT HV hl ⊢;clear hv hs hll hTQ hn;go_enter Try.func76,Try.ntmps76;go_wp2_with fail;go_loopw [9,10] (fun u9 u10 wr=>∃i j:Nat,u9=.int .i64 i∧u10=.int .i64 j∧i≤j∧j≤n∧Hid (∀q,q<i→(l.getD q doneZ).thr<t)∧Hid (∀q,j≤q→q<n→t≤(l.getD q doneZ).thr)∧Hid (Below w.heap.size w wr)) (fun u9 u10 _=>(intOf u10).toNat - (intOf u9).toNat)
 case atStart=>exact ⟨0,n,rfl,rfl,by omega,Nat.le_refl _,fun q hq=>by omega,fun q h1 h2=>by omega,Below.refl _ _⟩
 case round=>
  obtain ⟨i,j,rfl,rfl,hij,hj,HA,HZ,HB⟩:=hrel;obtain ⟨wo,rfl⟩:∃wo:World,wo=wr:=⟨_,rfl⟩;by_cases hlt:i<j
  ·have hltI:(i:Int)<(j:Int):=by omega
   have hw1:IntKind.i64.wrap ((i:Int)+j)=(i:Int)+j:=by rw [IntKind.wrap_i64]; omega
   have hw2:IntKind.u64.wrap ((i:Int)+j)=(i:Int)+j:=by rw [IntKind.wrap_u64]; omega
   have hp1:((i:Int)+j) / 2<1000001:=by omega
   go_upto_region 5 with fail
   obtain ⟨h,hh⟩:∃h:Nat,((i:Int)+j) / 2=h:=⟨(i+j) / 2,by omega⟩;rw [hh];have hih:i≤h∧h<j:=by omega
   obtain ⟨hih1,hhj⟩:=hih;clear hh hp1 hw1 hw2;have hhn:h<n:=by omega
   have hhI:(h:Int)<(n:Int):=by omega
   have hw3:IntKind.i64.wrap ((h:Int)+1)=(h:Int)+1:=(i64_small _ (by omega) (by omega)).symm;obtain ⟨⟨x,⟨k1,k2,k3,k4,k5⟩⟩,hx0⟩:∃z,l.getD h doneZ=z:=⟨_,rfl⟩;have HX:Hid ((l.getD h doneZ).thr=x):=by show _=_; rw [hx0]
   obtain ⟨b,off,cp,hve,hb0,c0,c1,c2,c3,c4,c5⟩:=SlS.done (HV.out.below HB.out) h (by rw [HN.out]; exact hhn) hx0;rw [HN.out] at hve;simp only [Value.slice.injEq] at hve;obtain ⟨rfl,-,rfl⟩:=hve;dsimp only at c0 c1 c2 c3 c4 c5;clear hx0;obtain ⟨q,hq⟩:∃z,cmpE x t=z:=⟨_,rfl⟩;have HQ:=Lib.hid hq;clear hq;go_wp2_with fail;refine (with1_any x t k1 k2 k3 k5 k4 _).mono ?_; rintro e w2 ⟨rfl,hb2⟩;have HB2:=Lib.hid (below_then HB.out hb2);rw [HQ.out];clear hb2 c0 c1 c2 c3 c4 c5;cases hb:decide (x<t) with
   | true=>
    have hx:x<t:=of_decide_eq_true hb;have hq0:q<0:=by rw [← HQ.out]; unfold cmpE; rw [if_pos hx]; decide
    clear hb;go_wp2_with fail;go_roundw
    case rel=>exact ⟨h+1,j,by go_num,rfl,by omega,hj,fun k hk=>Int.lt_of_le_of_lt (HS.out k h (by omega) (by rw [HN.out]; exact hhn)) (by rw [HX.out]; exact hx),HZ,HB2⟩
    case measure=>simp [intOf]; omega
   | false=>
    have hx:t≤x:=by have:=of_decide_eq_false hb; omega
    have hq0:¬q<0:=by rw [← HQ.out]; unfold cmpE; rw [if_neg (by omega)]; split <;> decide
    clear hb;go_wp2_with fail;go_roundw
    case rel=>exact ⟨i,h,rfl,rfl,by omega,by omega,HA,fun k hk1 hk2=>by have:=HS.out h k hk1 (by rw [HN.out]; exact hk2); rw [HX.out] at this; exact Int.le_trans hx this,HB2⟩
    case measure=>simp [intOf]; omega
  ·have hge:¬(i:Int)<(j:Int):=by omega
   have hji:j=i:=by omega
   subst hji;by_cases hin:j<n
   ·have hinI:(j:Int)<(n:Int):=by omega
    have hhn:=hin;obtain ⟨⟨x,⟨k1,k2,k3,k4,k5⟩⟩,hx0⟩:∃z,l.getD j doneZ=z:=⟨_,rfl⟩;have HX:Hid ((l.getD j doneZ).thr=x):=by show _=_; rw [hx0]
    obtain ⟨b,off,cp,hve,hb0,c0,c1,c2,c3,c4,c5⟩:=SlS.done (HV.out.below HB.out) j (by rw [HN.out]; exact hhn) hx0;rw [HN.out] at hve;simp only [Value.slice.injEq] at hve;obtain ⟨rfl,-,rfl⟩:=hve;dsimp only at c0 c1 c2 c3 c4 c5;clear hx0;obtain ⟨q,hq⟩:∃z,cmpE x t=z:=⟨_,rfl⟩;have HQ:=Lib.hid hq;clear hq;go_wp2_with fail;refine (with1_any x t k1 k2 k3 k5 k4 _).mono ?_; rintro e w2 ⟨rfl,hb2⟩;have HB2:=Lib.hid (below_then HB.out hb2);rw [HQ.out];clear hb2 c0 c1 c2 c3 c4 c5;have HF:=Lib.hid (HT.out j (q == 0) w2 hj HA.out HZ.out HB2.out);clear HT;go_wp2_with fail;exact HF.out
   ·have hnI:¬(j:Int)<(n:Int):=by omega
    have HF:=Lib.hid (HT.out j false _ hj HA.out HZ.out HB.out);clear HT;go_wp2_with fail;exact HF.out
set_option maxRecDepth 100000 in
set_option maxHeartbeats 16000000 in
theorem insEnd_any (base:Nat) (v vx:Value) (rows rows2:List (List Value)) (w:World) (ho:OwnS w base 75 6 v rows) (hx:SlS w 6 vx rows2) (h1:rows.length≤100000) (h2:0<rows2.length) (h3:rows2.length≤100000) (hb:base≤w.heap.size):Calls Try.prog 79 #[v,.int .i64 (rows.length:Int),vx] w fun e w'=>∃v',e=.returned v'∧OwnS w' base 75 6 v' (rows ++ rows2)∧w.grownBy w' v.ownBlock:=by
 have HO:=Lib.hid ho;obtain ⟨v',w',hrun,ho2,hg2,-⟩:=run_app_ss w 37 37 (by kernel_rfl) Try.info_done rfl (by decide) (by decide) ho hx (by omega) hb;have hsh:∃a c,v=.slice a rows.length c∧rows.length≤c:=by
  rcases ho.shape with ⟨rfl,rfl⟩ | ⟨g,c,e,-,-,hc⟩
  ·exact ⟨none,0,rfl,Nat.le_refl _⟩
  ·exact ⟨_,c,e,hc⟩
 obtain ⟨a,c,rfl,hc⟩:=hsh;obtain ⟨b,d,rfl,-⟩:=hx.len;obtain ⟨n,hn⟩:∃z,rows.length=z:=⟨_,rfl⟩;obtain ⟨m,hm⟩:∃z,rows2.length=z:=⟨_,rfl⟩;obtain ⟨TQ,hTQ⟩:∃z:Ending→World→Prop,(fun e w'=>∃v',e=.returned v'∧OwnS w' base 75 6 v' (rows ++ rows2)∧w.grownBy w' (Value.slice a rows.length c).ownBlock)=z:=⟨_,rfl⟩;have HT:Hid (TQ (.returned v') w'):=by rw [← hTQ]; exact ⟨_,rfl,ho2,hg2⟩
 rw [hTQ];rw [hn,hm] at hrun;rw [hn] at hc ⊢;rw [hm] at h2 ⊢;have hHR:=Lib.hid hrun;have hnc:(n:Int)≤(c:Int):=by omega
 have hm0:¬(m:Int)=0:=by omega
 clear ho hx hrun ho2 hg2 hn hm hTQ HO;go_enter Try.func79,Try.ntmps79;go_wp2_with (at_builtin; refine Lib.wpList_append_run _ rfl _ _ _ _ rfl _ _ rfl rfl _ _ hHR.out ?_)
 all_goals exact HT.out
set_option maxRecDepth 100000 in
set_option maxHeartbeats 16000000 in
theorem growU_nil (n:Nat) (w:World) (hn:n≤1000000) :
  Calls Try.prog 110 #[.slice none 0 0,.int .i64 n] w fun e w'=>∃v',e=.returned v'∧OwnI w' w.heap.size 41 .u64 v' []∧Below w.heap.size w w':=by
 by_cases h0:n=0
 ·subst h0
  go_enter Try.func110,Try.ntmps110;go_wp2;go_ret;exact ⟨_,rfl,OwnI.nil _ _ _ _,Below.refl _ _⟩
 ·have hpos:0<(n:Int):=by omega
  obtain ⟨i0,hi,hz0,hz1,hz2⟩:=info_parts Try.info_u64;have hr:=fun ty=>Lib.run_append_nil_zeros (P:=Try.prog) w 27 3 ty 41 i0 (.int .u64 0) .i64 .i64 (by kernel_rfl) Try.underlying3 hi hz0 n (by omega) (by rw [hz1]; omega) (by omega) (by rw [hz2]; omega);have hge:=grownCap_ge w n 0 41;have hle:=grownCap_le_maxLen w n 0 41 (by unfold maxLen; omega);generalize grownCap w n 0 41=c at *;have hown:Hid (OwnI (w.drew.alloc (.cells (Builtin.zeroCells (Value.int .u64 0).cells n ++ Builtin.zeroCells (Value.int .u64 0).cells (c - n)) 41)) w.heap.size 41 .u64 (.slice (some ⟨w.heap.size,0,none⟩) 0 c) []):=by
   show OwnI _ _ _ _ _ _;exact World.ownsRow_made w.drew _ c (Nat.le_refl _) hle (by simp [Builtin.zeroCells,Value.cells]; omega)
  have hb:Hid (Below w.heap.size w (w.drew.alloc (.cells (Builtin.zeroCells (Value.int .u64 0).cells n ++ Builtin.zeroCells (Value.int .u64 0).cells (c - n)) 41))):=below_new (below_drewN (Below.refl _ _) 1) _;unfold maxLen at hle;go_enter Try.func110,Try.ntmps110;go_wp2_with (at_builtin; refine Lib.wpList_append_run _ rfl _ _ _ _ rfl _ _ rfl rfl _ _ (hr _) ?_);go_ret;exact ⟨_,rfl,hown.out,hb.out⟩
def SlLU (w:World) (v:Value) (us:List Value) (ll:List (List Int)):Prop:=
 ll.length≤1000000∧us.length=ll.length∧∃a cap,v=.slice a ll.length cap∧ll.length≤cap∧
  ∀t,t<ll.length→∃b off,a=some ⟨b,off,none⟩∧b<w.heap.size∧w.cell? ⟨b,off+t,none⟩=some (us.getD t (.slice none 0 0))∧SlI w .u64 (us.getD t (.slice none 0 0)) (ll.getD t [])
theorem SlLU.len {w:World} {v:Value} {us:List Value} {ll:List (List Int)} (h:SlLU w v us ll):∃a cap,v=.slice a ll.length cap∧ll.length≤cap:=by
 obtain ⟨-,-,a,cap,e,hc,-⟩:=h;exact ⟨a,cap,e,hc⟩
theorem SlLU.below {w w':World} {v:Value} {us:List Value} {ll:List (List Int)} (h:SlLU w v us ll) (hb:Below w.heap.size w w'):SlLU w' v us ll:=by
 obtain ⟨h1,h2,a,cap,e,hc,h5⟩:=h;refine ⟨h1,h2,a,cap,e,hc,fun t ht=>?_⟩;obtain ⟨b,off,e,hlt,hcl,hs⟩:=h5 t ht;exact ⟨b,off,e,Nat.lt_of_lt_of_le hlt hb.size,(hb.cell (p:=⟨b,off+t,none⟩) hlt).trans hcl,hs.below hb⟩
theorem flat_takeU (ll:List (List Int)) (k:Nat) (hk:k<ll.length):(ll.take (k+1)).flatten=(ll.take k).flatten ++ ll.getD k []:=by
 rw [List.take_succ_eq_append_getElem hk,List.flatten_append];simp [List.getD_eq_getElem?_getD,hk]
theorem SlLU.two {w:World} {g:Nat} {v0 v1:Value} {r0 r1:List Int} {T:TypeId} (h:w.heap[g]?=some (.cells #[v0,v1] T (0,0))) (h0:SlI w .u64 v0 r0) (h1:SlI w .u64 v1 r1):SlLU w (.slice (some ⟨g,0,none⟩) 2 2) [v0,v1] [r0,r1]:=by
 refine ⟨by simp,rfl,_,2,rfl,Nat.le_refl _,fun t ht=>⟨g,0,rfl,(Array.getElem?_eq_some_iff.1 h).1,?_,?_⟩⟩
 ·rw [Nat.zero_add]
  obtain rfl | rfl:t=0∨t=1:=by simp at ht; omega
  ·exact cell_of_row _ _ 0 _ _ _ h
  ·exact cell_of_row _ _ 1 _ _ _ h
 ·obtain rfl | rfl:t=0∨t=1:=by simp at ht; omega
  ·exact h0
  ·exact h1
theorem flat_twoU (a b:List Int):[a,b].flatten=a ++ b:=by simp
set_option maxRecDepth 100000 in
set_option maxHeartbeats 16000000 in
theorem concatU_any (v:Value) (us:List Value) (ll:List (List Int)) (w:World) (h:SlLU w v us ll) (hl:ll.length≤10) (hf:ll.flatten.length≤900000) :
  Calls Try.prog 95 #[v] w fun e w'=>∃v',e=.returned v'∧OwnI w' w.heap.size 41 .u64 v' ll.flatten∧Below w.heap.size w w':=by
 obtain ⟨a,cap,rfl,hcap⟩:=h.len;have H:=Lib.hid h;have HF:Hid (∀k,k<ll.length→(ll.take (k+1)).flatten.length=(ll.take k).flatten.length+(ll.getD k []).length∧(ll.take (k+1)).flatten.length≤900000∧(ll.take (k+1)).flatten=(ll.take k).flatten ++ ll.getD k []):=fun k hk=>by
  have e:=flat_takeU ll k hk;refine ⟨by rw [e,List.length_append],?_,e⟩;refine Nat.le_trans ?_ hf;conv=>rhs; rw [← List.take_append_drop (k+1) ll,List.flatten_append,List.length_append]
  omega
 have HA:Hid ((ll.take ll.length).flatten=ll.flatten):=by show _=_; rw [List.take_length]
 have HZ:Hid ((ll.take 0).flatten=[]):=by show _=_; simp
 clear h;generalize hn:ll.length=n at *;have HN:=Lib.hid hn;clear hn;go_enter Try.func95,Try.ntmps95;go_wp2;go_loop [3,11] (fun s i=>∃k:Nat,k≤n∧i=.int .i64 k∧s=.int .i64 ((ll.take k).flatten.length:Nat)) (fun _ i=>n - (intOf i).toNat)
 case atStart=>exact ⟨0,Nat.zero_le _,rfl,by rw [HZ.out]; rfl⟩
 case round=>
  obtain ⟨k,hk,rfl,rfl⟩:=hrel;by_cases hlt:k<n
  ·obtain ⟨hf1,hf2,hf3⟩:=HF.out k hlt
   obtain ⟨_,_,a',cap',e,_,h5⟩:=H.out;obtain ⟨b,off,rfl,hb,hc,hu⟩:=h5 k (by rw [HN.out]; exact hlt);generalize us.getD k (.slice none 0 0)=u at *;simp only [Value.slice.injEq] at e;obtain ⟨rfl,-,rfl⟩:=e;obtain ⟨ua,uc,rfl,-⟩:=hu.len;clear h5 hu hf3;have HF1:=Lib.hid hf1;have h12:(ll.take k).flatten.length+(ll.getD k []).length≤900000:=by omega
   clear hf1 hf2;generalize (ll.take k).flatten.length=s1 at *;generalize (ll.getD k []).length=s3 at *;go_wp2;go_round
   case rel=>exact ⟨k+1,by omega,by go_num,by rw [HF1.out]; go_num⟩
   case measure=>simp [intOf]; omega
  ·obtain rfl:k=n:=by omega
   have hf':(ll.take k).flatten.length≤900000:=by rw [HA.out]; exact hf
   generalize (ll.take k).flatten.length=tot at *;go_wp2_with fail;refine (growU_nil tot _ (by omega)).mono ?_; rintro e w1 ⟨v',rfl,ho,hb⟩;have HO:=Lib.hid ho;have HB:=Lib.hid hb;clear ho hb;go_wp2_with fail;go_loopw [6,27] (fun r i wr=>∃j:Nat,j≤k∧i=.int .i64 j∧Hid (OwnI wr w.heap.size 41 .u64 r (ll.take j).flatten)∧Hid (Below w.heap.size w wr)) (fun _ i _=>k - (intOf i).toNat)
   case atStart=>exact ⟨0,Nat.zero_le _,rfl,by rw [HZ.out]; exact HO,HB⟩
   case round=>
    obtain ⟨j,hj,rfl,hO,hB⟩:=hrel;obtain ⟨wo,rfl⟩:∃wo:World,wo=wr:=⟨_,rfl⟩;by_cases hlt:j<k
    ·have hf3:=(HF.out j hlt).2
     obtain ⟨_,_,a',cap',e,_,h5⟩:=H.out.below hB.out;obtain ⟨b,off,rfl,hb,hc,hu⟩:=h5 j (by rw [HN.out]; exact hlt);generalize us.getD j (.slice none 0 0)=u at *;simp only [Value.slice.injEq] at e;obtain ⟨rfl,-,rfl⟩:=e;have HU:=Lib.hid hu;have HE:=Lib.hid hf3.2;have L1:Hid ((ll.take j).flatten.length≤1000000∧(ll.getD j []).length≤1000000):=by
      have h1:=hf3.1;have h2:=(HF.out j hlt).1;show _∧_;omega
     have hz:=hB.out.size;clear h5 hu hf3;go_wp2_with (at_builtin; refine wp_app_u64 _ rfl _ _ rfl w.heap.size _ _ rfl hO.out _ _ rfl HU.out L1.out.1 L1.out.2 hz ?_; intro v2 w2 h1 h2; have H1:=Lib.hid h1; have H2:=Lib.hid h2; clear h1 h2);go_roundw
     case rel=>exact ⟨j+1,by omega,by go_num,by rw [HE.out]; exact H1,Below.grown hB.out H2.out hB.out.size (fun j hj=>hO.out.own_ge j hj)⟩
     case measure=>simp [intOf]; omega
    ·obtain rfl:j=k:=by omega
     go_wp2;go_ret;exact ⟨_,rfl,by rw [← HA.out]; exact hO.out,hB.out⟩
set_option maxRecDepth 100000 in
set_option maxHeartbeats 16000000 in
theorem chooseS_any (v vo:Value) (d:DeskM) (thr:Int) (op:OpM) (w:World) (h:DeskV w v d) (hd:d.ok) (ho:OpV w vo op) (hk:op.kind=4) (hl:op.cases.length≤100000):Calls Try.prog 68 #[v,.int .i64 thr,vo] w fun e w'=>e=.returned (.tuple #[.agg (if 0≤choiceD d thr op then #[.bool (op.cases.getD (choiceD d thr op).toNat noCase).send,.int .i64 (op.cases.getD (choiceD d thr op).toNat noCase).chan,.int .u64 (op.cases.getD (choiceD d thr op).toNat noCase).val,.int .i64 (choiceD d thr op)] else #[.bool false,.int .i64 0,.int .u64 0,.int .i64 0]),.bool (decide (0≤choiceD d thr op))])∧Below w.heap.size w w':=by
 have TC:=Lib.hid fun w' (hb:Below w.heap.size w w')=>dchoice_any v vo d thr op w' (h.below hb) hd (ho.below hb);have HRG:choiceD d thr op=-1∨(0≤choiceD d thr op∧choiceD d thr op<(op.cases.length:Int)):=by
  by_cases h0:0≤choiceD d thr op
  ·obtain ⟨i,h1,h2,-⟩:=pickD_spec (d:=d) (thr:=thr) (op:=op) (by unfold pickD; rw [if_pos hk]; exact h0) (fun h=>absurd hk h)
   unfold pickD at h1;rw [if_pos hk] at h1;unfold casesE at h2;rw [if_pos hk] at h2;exact .inr ⟨h0,by omega⟩
  ·left
   unfold choiceD choiceL at h0 ⊢;cases hf:(ordL op.cases.length op.draws).find? (fun i=>readyD d thr (op.cases.getD i.toNat noCase)) with
   | none=>rfl
   | some i=>
    have hm:=ordL_mem _ _ _ (List.mem_of_find?_eq_some hf);rw [hf] at h0;exact absurd hm.1 h0
 obtain ⟨ci,hci⟩:∃z,choiceD d thr op=z:=⟨_,rfl⟩;rw [hci] at TC HRG ⊢;obtain ⟨vc,vw,rfl,hch,hwt⟩:=h;obtain ⟨ac,kc,rfl,-⟩:=hch.len;obtain ⟨aw,kw,rfl,-⟩:=hwt.len;obtain ⟨vcs,vds,rfl,hcs,hds⟩:=ho;obtain ⟨kd,md,oc,ov,odl,cs,ds⟩:=op;dsimp only at *;obtain ⟨a3,cap3,rfl⟩:=hcs.len;obtain ⟨a4,cap4,rfl,-⟩:=hds.len;obtain ⟨t,htt⟩:∃z,d.tick=z:=⟨_,rfl⟩;obtain ⟨cn,hcn⟩:∃z,d.chans.length=z:=⟨_,rfl⟩;obtain ⟨wn,hwn⟩:∃z,d.wait.length=z:=⟨_,rfl⟩;rw [hcn,hwn,htt] at TC ⊢;obtain ⟨TQ,hTQ⟩:∃z:Ending→World→Prop,(fun e w'=>e=.returned (.tuple #[.agg (if 0≤ci then #[.bool (cs.getD ci.toNat noCase).send,.int .i64 (cs.getD ci.toNat noCase).chan,.int .u64 (cs.getD ci.toNat noCase).val,.int .i64 ci] else #[.bool false,.int .i64 0,.int .u64 0,.int .i64 0]),.bool (decide (0≤ci))])∧Below w.heap.size w w')=z:=⟨_,rfl⟩;have HT1:Hid (ci=-1→∀w',Below w.heap.size w w'→TQ (.returned (.tuple #[.agg #[.bool false,.int .i64 0,.int .u64 0,.int .i64 0],.bool false])) w'):=fun h w' hb=>by rw [← hTQ,h]; exact ⟨rfl,hb⟩
 have HT2:Hid (∀(i:Nat) xs xc xv,ci=(i:Int)→cs.getD i noCase=⟨xs,xc,xv⟩→∀w',Below w.heap.size w w'→TQ (.returned (.tuple #[.agg #[.bool xs,.int .i64 xc,.int .u64 xv,.int .i64 (i:Int)],.bool true])) w'):=fun i xs xc xv h h2 w' hb=>by
  rw [← hTQ,h];refine ⟨?_,hb⟩;rw [if_pos (by omega),Int.toNat_natCast,h2,decide_eq_true (by omega)]
 rw [hTQ];clear hTQ;have HCS:=Lib.hid hcs;subst hk;clear hcs hds hch hwt htt hcn hwn hd hci;obtain ⟨W,hW,HB,R0,R1,R2,hz⟩:=three_new w (.cells #[.slice ac cn kc,.slice aw wn kw,.int .i64 t] 34) (.cells #[.int .i64 4,.int .i64 md,.int .i64 oc,.int .u64 ov,.int .i64 odl,.slice a3 cs.length cap3,.slice a4 ds.length cap4] 44) (.cells #[.bool false,.int .i64 0,.int .u64 0,.int .i64 0] 94);have HW:=Lib.hid hW;clear hW;go_enter Try.func68,Try.ntmps68;go_upto_region 1 with fail
 rw [HW.out];clear HW;obtain ⟨x0_0,x0_1,x0_2⟩:=rowc3 R0.out;obtain ⟨x1_0,x1_1,x1_2,x1_3,x1_4,x1_5,x1_6⟩:=rowc7 R1.out;go_wp2_with fail;refine (TC.out _ HB.out).mono ?_; rintro e w1 ⟨rfl,hb1⟩;have R21:=Lib.hid (row_below3 hb1 R2.out);have R11:=Lib.hid (row_below3 hb1 R1.out);have HB1:=Lib.hid (below_then HB.out hb1);clear x0_0 x0_1 x0_2 x1_0 x1_1 x1_2 x1_3 x1_4 x1_5 x1_6 hb1 TC;rcases HRG with hc | ⟨hc0,hc1⟩
 ·subst hc
  go_wp2_with (refine wpList_store_row rfl 94 _ _ rfl (w.heap.size+2) _ rfl rfl 94 _ R21.out (by kernel_rfl) rfl (by simp [Value.oneCell']) ?_);refine bodyPost_ret (v:=.tuple #[.agg #[.bool false,.int .i64 0,.int .u64 0,.int .i64 0],.bool false]) (results_cell_tmp Try.results68 _ _ (w.heap.size+2) 94 _ (0,0) _ rfl (setRow_heap _ _ _ _ 94 (0,0) R21.out) Try.underlying94 rfl (by kernel_rfl) _ rfl) rfl ?_;exact HT1.out (by trivial) _ (row_below HB1.out (show w.heap.size≤w.heap.size+2 by omega) _)
 ·obtain ⟨i,rfl⟩:∃i:Nat,ci=(i:Int):=⟨ci.toNat,by omega⟩
  have hi:i<cs.length:=by omega
  obtain ⟨-,-,a9,cap9,hve,-,hcell⟩:=HCS.out.below HB1.out;simp only [Value.slice.injEq,true_and] at hve;obtain ⟨rfl,rfl⟩:=hve;obtain ⟨b8,o8,rfl,hb8,hca⟩:=hcell i hi;obtain ⟨⟨xs,xc,xv⟩,hxi⟩:∃z,cs.getD i noCase=z:=⟨_,rfl⟩;rw [hxi] at hca;obtain ⟨c80,c81,c82⟩:=hca;dsimp only at c80 c81 c82;have hn1:¬(i:Int)=-1:=by omega
  have HXI:=Lib.hid hxi;obtain ⟨x0,x1,x2,x3,x4,x5,x6⟩:=rowc7 R11.out;clear hcell hxi;go_wp2_with (refine wpList_store_row rfl 94 _ _ rfl (w.heap.size+2) _ rfl rfl 94 _ R21.out (by kernel_rfl) rfl (by simp [Value.oneCell']) ?_);refine bodyPost_ret (v:=.tuple #[.agg #[.bool xs,.int .i64 xc,.int .u64 xv,.int .i64 (i:Int)],.bool true]) (results_cell_tmp Try.results68 _ _ (w.heap.size+2) 94 _ (0,0) _ rfl (setRow_heap _ _ _ _ 94 (0,0) R21.out) Try.underlying94 rfl (by kernel_rfl) _ rfl) rfl ?_;exact HT2.out i xs xc xv (by first | rfl | trivial) HXI.out _ (row_below HB1.out (show w.heap.size≤w.heap.size+2 by omega) _)
set_option maxRecDepth 100000 in
set_option maxHeartbeats 16000000 in
theorem chooseO_any (v vo:Value) (d:DeskM) (thr:Int) (op:OpM) (w:World) (h:DeskV w v d) (hd:d.ok) (ho:OpV w vo op) (hk:op.kind=1∨op.kind=2):Calls Try.prog 68 #[v,.int .i64 thr,vo] w fun e w'=>e=.returned (.tuple #[.agg #[.bool (sgC op).send,.int .i64 (sgC op).chan,.int .u64 (sgC op).val,.int .i64 (-1)],.bool (readyD d thr (sgC op))])∧Below w.heap.size w w':=by
 have TS:=Lib.hid fun w' (hb:Below w.heap.size w w')=>single_any vo op w' (ho.below hb);have TR:=Lib.hid fun w' (hb:Below w.heap.size w w')=>dreadyD_any v d thr (sgC op) w' (h.below hb) hd;have hsb:sgB op=true:=by unfold sgB; rcases hk with h | h <;> rw [h] <;> rfl
 have hk4:op.kind≠4:=by omega
 rw [hsb] at TS;obtain ⟨⟨s1,s2,s3⟩,hsc⟩:∃z,sgC op=z:=⟨_,rfl⟩;obtain ⟨bq,hbq⟩:∃z,readyD d thr (sgC op)=z:=⟨_,rfl⟩;rw [hbq,hsc] at TR;rw [hsc] at TS;rw [hbq,hsc];unfold caseW at TR TS;dsimp only at TR TS ⊢;clear hsb hsc hbq;obtain ⟨vc,vw,rfl,hch,hwt⟩:=h;obtain ⟨ac,kc,rfl,-⟩:=hch.len;obtain ⟨aw,kw,rfl,-⟩:=hwt.len;obtain ⟨vcs,vds,rfl,hcs,hds⟩:=ho;obtain ⟨kd,md,oc,ov,odl,cs,ds⟩:=op;dsimp only at *;obtain ⟨a3,cap3,rfl⟩:=hcs.len;obtain ⟨a4,cap4,rfl,-⟩:=hds.len;obtain ⟨t,htt⟩:∃z,d.tick=z:=⟨_,rfl⟩;obtain ⟨cn,hcn⟩:∃z,d.chans.length=z:=⟨_,rfl⟩;obtain ⟨wn,hwn⟩:∃z,d.wait.length=z:=⟨_,rfl⟩;rw [hcn,hwn,htt] at TR ⊢;clear hcs hds hch hwt htt hcn hwn hd hk;obtain ⟨W,hW,HB,R0,R1,R2,hz⟩:=three_new w (.cells #[.slice ac cn kc,.slice aw wn kw,.int .i64 t] 34) (.cells #[.int .i64 kd,.int .i64 md,.int .i64 oc,.int .u64 ov,.int .i64 odl,.slice a3 cs.length cap3,.slice a4 ds.length cap4] 44) (.cells #[.bool false,.int .i64 0,.int .u64 0,.int .i64 0] 94);have HW:=Lib.hid hW;clear hW;go_enter Try.func68,Try.ntmps68;go_upto_region 1 with fail
 rw [HW.out];clear HW;obtain ⟨x0_0,x0_1,x0_2⟩:=rowc3 R0.out;obtain ⟨x1_0,x1_1,x1_2,x1_3,x1_4,x1_5,x1_6⟩:=rowc7 R1.out;go_wp2_with fail;refine (TS.out _ HB.out).mono ?_; rintro e w1 ⟨rfl,hb1⟩;have R01:=Lib.hid (row_below3 hb1 R0.out);have R11:=Lib.hid (row_below3 hb1 R1.out);have R21:=Lib.hid (row_below3 hb1 R2.out);have HB1:=Lib.hid (below_then HB.out hb1);have hwl:w.heap.size+2<w1.heap.size:=(ltR R21);clear x0_0 x0_1 x0_2 x1_0 x1_1 x1_2 x1_3 x1_4 x1_5 x1_6 hb1 TS;obtain ⟨Wc,hWc⟩:∃Wc,(w1.alloc (.cells #[.bool false,.int .i64 0,.int .u64 0] 58)).setRow w1.heap.size #[.bool s1,.int .i64 s2,.int .u64 s3]=Wc:=⟨_,rfl⟩;have Nc:Hid ((w1.alloc (.cells #[.bool false,.int .i64 0,.int .u64 0] 58)).heap[w1.heap.size]?=some (.cells #[.bool false,.int .i64 0,.int .u64 0] 58 (0,0))):=heap_alloc_new _ _;have HBc:Hid (Below w1.heap.size w1 Wc):=hWc▸row_below (below_new (Below.refl _ _) _) (Nat.le_refl _) _;have Rc:Hid (Wc.heap[w1.heap.size]?=some (.cells #[.bool s1,.int .i64 s2,.int .u64 s3] 58 (0,0))):=hWc▸setRow_heap _ _ _ _ _ (0,0) Nc.out;have HWc:=Lib.hid hWc;clear hWc;go_upto_region 7 with (refine wpList_store_row rfl 58 _ _ rfl (w1.heap.size) _ rfl rfl 58 _ Nc.out (by kernel_rfl) rfl (by simp [Value.oneCell']) ?_)
 rw [HWc.out];try simp only [Act.put]
 clear HWc Nc;obtain ⟨C,hC⟩:∃C,w1.heap.size=C:=⟨_,rfl⟩;rw [hC] at Rc;rw [hC];have hCp:w1.heap.size=C:=hC;clear hC;have R0c:=Lib.hid (row_below3 HBc.out R01.out);have R2c:=Lib.hid (row_below3 HBc.out R21.out);have HBC:=Lib.hid (below_then HB1.out HBc.out);have hwc:w.heap.size+2<C:=by omega
 have hCl:C<Wc.heap.size:=(ltR Rc);clear hCp;have KS:Hid (∀w',Wc.grownBy w' (some (w.heap.size+2))→(fun w':World=>(w'.cell? ⟨w.heap.size,0,none⟩=some (.slice ac cn kc)∧w'.cell? ⟨w.heap.size,1,none⟩=some (.slice aw wn kw)∧w'.cell? ⟨w.heap.size,2,none⟩=some (.int .i64 t))∧(w'.cell? ⟨C,0,none⟩=some (.bool s1)∧w'.cell? ⟨C,1,none⟩=some (.int .i64 s2)∧w'.cell? ⟨C,2,none⟩=some (.int .u64 s3))) w'):=fun w' hg=>⟨rowc3 (row_keepD hg R0c.out (by omega)),rowc3 (row_keepD hg Rc.out (by omega))⟩;go_upto_region 7 with fail
 refine wp_region_until (fun w':World=>(w'.cell? ⟨w.heap.size,0,none⟩=some (.slice ac cn kc)∧w'.cell? ⟨w.heap.size,1,none⟩=some (.slice aw wn kw)∧w'.cell? ⟨w.heap.size,2,none⟩=some (.int .i64 t))∧(w'.cell? ⟨C,0,none⟩=some (.bool s1)∧w'.cell? ⟨C,1,none⟩=some (.int .i64 s2)∧w'.cell? ⟨C,2,none⟩=some (.int .u64 s3))) 10 11 (by kernel_rfl) rfl ?_;obtain ⟨u0,hu0,hU0⟩:=drew_pack Wc;rw [hu0];clear hu0;have HU0:Hid (Wc.grownBy u0 (some (w.heap.size+2))):=grown_belowD hU0.out;have ZC:=Lib.hid (row_below3 hU0.out R2c.out);have HBU:=Lib.hid (hU0.out);clear hU0;have hSU0:=KS.out _ HU0.out;apply tkV 0 hSU0 rfl (by kernel_rfl) (fun _ _ _ h=>h) rfl;intro w hSw;(go_simp<;>with_reducible rfl);simp only [J0,J1,J2,J3,J4];apply tkV 1 hSU0 rfl (by kernel_rfl) (fun _ _ _ h=>h) rfl;intro w hSw;(go_simp<;>with_reducible rfl);simp only [J0,J1,J2,J3,J4];apply tkV 2 hSU0 rfl (by kernel_rfl) (fun _ _ _ h=>h) rfl;intro w hSw;(go_simp<;>with_reducible rfl);simp only [J0,J1,J2,J3,J4];apply tkV 3 hSU0 rfl (by kernel_rfl) (fun _ _ _ h=>h) rfl;intro w hSw;(go_simp<;>with_reducible rfl);simp only [J0,J1,J2,J3,J4];refine wpAnyU_ready (rs:=[4,5,6]) (by kernel_rfl) rfl ?_;refine AllReadyU.consG la4 (fun K hK=>?_) ?_
 ·obtain ⟨⟨d0,d1,d2⟩,d3,d4,d5⟩:=KS.out _ HU0.out
  go_simp;clear d0 d1 d2 d3 d4 d5;refine hK.out _ _ ?_ fun hSU1=>?_;exact hSU0;clear hK K hSU0;(try simp only [J0,J1,J2,J3,J4]);refine wpAnyU_ready (rs:=[5,6]) (by kernel_rfl) rfl ?_;refine AllReadyU.consG la5 (fun K hK=>?_) ?_
  ·go_simp
   refine hK.out _ _ ?_ fun hSU2=>?_;exact hSU1;clear hK K hSU1;(try simp only [J0,J1,J2,J3,J4]);refine wpAnyU_ready (rs:=[6]) (by kernel_rfl) rfl ?_;refine AllReadyU.consG la6 (fun K hK=>?_) ?_
   ·obtain ⟨⟨d0,d1,d2⟩,d3,d4,d5⟩:=KS.out _ HU0.out
    go_simp;clear d0 d1 d2 d3 d4 d5;refine hK.out _ _ ?_ fun hSU3=>?_;exact hSU2;clear hK K hSU2;(try simp only [J0,J1,J2,J3,J4]);refine wpAnyU_ready (rs:=[7]) (by kernel_rfl) rfl ?_;refine AllReadyU.consG la7 (fun K hK=>?_) ?_
    ·go_simp
     go_at_call 27;refine (TR.out _ (below_then HBC.out HBU.out)).mono ?_;rintro e u1 ⟨rfl,hb⟩;have HU1:=Lib.hid (grownBy_trans HU0.out (grown_belowD hb));have ZC:=Lib.hid (row_below3 hb ZC.out);have HBU:=Lib.hid (below_then HBU.out hb);clear hb;refine hK.out _ _ ?_ fun hSU4=>?_;exact KS.out _ HU1.out;clear hK K hSU3;(try simp only [J0,J1,J2,J3,J4]);apply tkV 8 hSU4 rfl (by kernel_rfl) (fun _ _ _ h=>h) rfl;intro w hSw;(go_simp<;>with_reducible rfl);simp only [J0,J1,J2,J3,J4];refine consU 9 rfl (by kernel_rfl) rfl fun K hK=>?_;refine step_store_row rfl 94 _ _ rfl (w.heap.size+2) _ rfl rfl 94 _ ZC.out (by kernel_rfl) rfl (by simp [Value.oneCell']) ?_;have hgz:=row_grown u1 (w.heap.size+2) #[.bool s1,.int .i64 s2,.int .u64 s3,.int .i64 (-1)];have RZ:=Lib.hid (setRow_heap u1 (w.heap.size+2) _ #[.bool s1,.int .i64 s2,.int .u64 s3,.int .i64 (-1)] 94 (0,0) ZC.out);skip
     have HBU:=Lib.hid (row_below (below_then HBC.out HBU.out) (show w.heap.size≤w.heap.size+2 by omega) #[.bool s1,.int .i64 s2,.int .u64 s3,.int .i64 (-1)]);generalize u1.setRow (w.heap.size+2) #[.bool s1,.int .i64 s2,.int .u64 s3,.int .i64 (-1)]=u2 at *;have HU2:=Lib.hid (grownBy_trans HU1.out hgz);clear hgz;refine hK.out _ _ ?_ fun hSU5=>?_;exact KS.out _ HU2.out;clear hK K hSU4;(try simp only [J0,J1,J2,J3,J4]);refine freeU 10 rfl (by kernel_rfl) rfl (by kernel_rfl) fun K hK=>?_;go_simp;refine hK.out _ _ ?_;clear hK K hSU5;(try simp only [J0,J1,J2,J3,J4]);refine wpAnyU_done (by kernel_rfl) ?_ _;go_wp2_with fail;refine bodyPost_ret (v:=.tuple #[.agg #[.bool s1,.int .i64 s2,.int .u64 s3,.int .i64 (-1)],.bool bq]) (results_cell_tmp Try.results68 _ _ (w.heap.size+2) 94 _ (0,0) _ rfl RZ.out Try.underlying94 rfl (by kernel_rfl) _ rfl) rfl ?_;exact ⟨rfl,HBU.out⟩
    exact AllReadyU.nil
   exact AllReadyU.nil
  refine AllReadyU.consG la6 (fun K hK=>?_) ?_
  ·obtain ⟨⟨d0,d1,d2⟩,d3,d4,d5⟩:=KS.out _ HU0.out
   go_simp;clear d0 d1 d2 d3 d4 d5;refine hK.out _ _ ?_ fun hSU6=>?_;exact hSU1;clear hK K hSU1;(try simp only [J0,J1,J2,J3,J4]);refine wpAnyU_ready (rs:=[5]) (by kernel_rfl) rfl ?_;refine AllReadyU.consG la5 (fun K hK=>?_) ?_
   ·go_simp
    refine hK.out _ _ ?_ fun hSU7=>?_;exact hSU6;clear hK K hSU6;(try simp only [J0,J1,J2,J3,J4]);refine wpAnyU_ready (rs:=[7]) (by kernel_rfl) rfl ?_;refine AllReadyU.consG la7 (fun K hK=>?_) ?_
    ·go_simp
     go_at_call 27;refine (TR.out _ (below_then HBC.out HBU.out)).mono ?_;rintro e u1 ⟨rfl,hb⟩;have HU1:=Lib.hid (grownBy_trans HU0.out (grown_belowD hb));have ZC:=Lib.hid (row_below3 hb ZC.out);have HBU:=Lib.hid (below_then HBU.out hb);clear hb;refine hK.out _ _ ?_ fun hSU8=>?_;exact KS.out _ HU1.out;clear hK K hSU7;(try simp only [J0,J1,J2,J3,J4]);apply tkV 8 hSU8 rfl (by kernel_rfl) (fun _ _ _ h=>h) rfl;intro w hSw;(go_simp<;>with_reducible rfl);simp only [J0,J1,J2,J3,J4];refine consU 9 rfl (by kernel_rfl) rfl fun K hK=>?_;refine step_store_row rfl 94 _ _ rfl (w.heap.size+2) _ rfl rfl 94 _ ZC.out (by kernel_rfl) rfl (by simp [Value.oneCell']) ?_;have hgz:=row_grown u1 (w.heap.size+2) #[.bool s1,.int .i64 s2,.int .u64 s3,.int .i64 (-1)];have RZ:=Lib.hid (setRow_heap u1 (w.heap.size+2) _ #[.bool s1,.int .i64 s2,.int .u64 s3,.int .i64 (-1)] 94 (0,0) ZC.out);skip
     have HBU:=Lib.hid (row_below (below_then HBC.out HBU.out) (show w.heap.size≤w.heap.size+2 by omega) #[.bool s1,.int .i64 s2,.int .u64 s3,.int .i64 (-1)]);generalize u1.setRow (w.heap.size+2) #[.bool s1,.int .i64 s2,.int .u64 s3,.int .i64 (-1)]=u2 at *;have HU2:=Lib.hid (grownBy_trans HU1.out hgz);clear hgz;refine hK.out _ _ ?_ fun hSU9=>?_;exact KS.out _ HU2.out;clear hK K hSU8;(try simp only [J0,J1,J2,J3,J4]);refine freeU 10 rfl (by kernel_rfl) rfl (by kernel_rfl) fun K hK=>?_;go_simp;refine hK.out _ _ ?_;clear hK K hSU9;(try simp only [J0,J1,J2,J3,J4]);refine wpAnyU_done (by kernel_rfl) ?_ _;go_wp2_with fail;refine bodyPost_ret (v:=.tuple #[.agg #[.bool s1,.int .i64 s2,.int .u64 s3,.int .i64 (-1)],.bool bq]) (results_cell_tmp Try.results68 _ _ (w.heap.size+2) 94 _ (0,0) _ rfl RZ.out Try.underlying94 rfl (by kernel_rfl) _ rfl) rfl ?_;exact ⟨rfl,HBU.out⟩
    exact AllReadyU.nil
   exact AllReadyU.nil
  exact AllReadyU.nil
 refine AllReadyU.consG la5 (fun K hK=>?_) ?_
 ·go_simp
  refine hK.out _ _ ?_ fun hSU10=>?_;exact hSU0;clear hK K hSU0;(try simp only [J0,J1,J2,J3,J4]);refine wpAnyU_ready (rs:=[4,6]) (by kernel_rfl) rfl ?_;refine AllReadyU.consG la4 (fun K hK=>?_) ?_
  ·obtain ⟨⟨d0,d1,d2⟩,d3,d4,d5⟩:=KS.out _ HU0.out
   go_simp;clear d0 d1 d2 d3 d4 d5;refine hK.out _ _ ?_ fun hSU11=>?_;exact hSU10;clear hK K hSU10;(try simp only [J0,J1,J2,J3,J4]);refine wpAnyU_ready (rs:=[6]) (by kernel_rfl) rfl ?_;refine AllReadyU.consG la6 (fun K hK=>?_) ?_
   ·obtain ⟨⟨d0,d1,d2⟩,d3,d4,d5⟩:=KS.out _ HU0.out
    go_simp;clear d0 d1 d2 d3 d4 d5;refine hK.out _ _ ?_ fun hSU12=>?_;exact hSU11;clear hK K hSU11;(try simp only [J0,J1,J2,J3,J4]);refine wpAnyU_ready (rs:=[7]) (by kernel_rfl) rfl ?_;refine AllReadyU.consG la7 (fun K hK=>?_) ?_
    ·go_simp
     go_at_call 27;refine (TR.out _ (below_then HBC.out HBU.out)).mono ?_;rintro e u1 ⟨rfl,hb⟩;have HU1:=Lib.hid (grownBy_trans HU0.out (grown_belowD hb));have ZC:=Lib.hid (row_below3 hb ZC.out);have HBU:=Lib.hid (below_then HBU.out hb);clear hb;refine hK.out _ _ ?_ fun hSU13=>?_;exact KS.out _ HU1.out;clear hK K hSU12;(try simp only [J0,J1,J2,J3,J4]);apply tkV 8 hSU13 rfl (by kernel_rfl) (fun _ _ _ h=>h) rfl;intro w hSw;(go_simp<;>with_reducible rfl);simp only [J0,J1,J2,J3,J4];refine consU 9 rfl (by kernel_rfl) rfl fun K hK=>?_;refine step_store_row rfl 94 _ _ rfl (w.heap.size+2) _ rfl rfl 94 _ ZC.out (by kernel_rfl) rfl (by simp [Value.oneCell']) ?_;have hgz:=row_grown u1 (w.heap.size+2) #[.bool s1,.int .i64 s2,.int .u64 s3,.int .i64 (-1)];have RZ:=Lib.hid (setRow_heap u1 (w.heap.size+2) _ #[.bool s1,.int .i64 s2,.int .u64 s3,.int .i64 (-1)] 94 (0,0) ZC.out);skip
     have HBU:=Lib.hid (row_below (below_then HBC.out HBU.out) (show w.heap.size≤w.heap.size+2 by omega) #[.bool s1,.int .i64 s2,.int .u64 s3,.int .i64 (-1)]);generalize u1.setRow (w.heap.size+2) #[.bool s1,.int .i64 s2,.int .u64 s3,.int .i64 (-1)]=u2 at *;have HU2:=Lib.hid (grownBy_trans HU1.out hgz);clear hgz;refine hK.out _ _ ?_ fun hSU14=>?_;exact KS.out _ HU2.out;clear hK K hSU13;(try simp only [J0,J1,J2,J3,J4]);refine freeU 10 rfl (by kernel_rfl) rfl (by kernel_rfl) fun K hK=>?_;go_simp;refine hK.out _ _ ?_;clear hK K hSU14;(try simp only [J0,J1,J2,J3,J4]);refine wpAnyU_done (by kernel_rfl) ?_ _;go_wp2_with fail;refine bodyPost_ret (v:=.tuple #[.agg #[.bool s1,.int .i64 s2,.int .u64 s3,.int .i64 (-1)],.bool bq]) (results_cell_tmp Try.results68 _ _ (w.heap.size+2) 94 _ (0,0) _ rfl RZ.out Try.underlying94 rfl (by kernel_rfl) _ rfl) rfl ?_;exact ⟨rfl,HBU.out⟩
    exact AllReadyU.nil
   exact AllReadyU.nil
  refine AllReadyU.consG la6 (fun K hK=>?_) ?_
  ·obtain ⟨⟨d0,d1,d2⟩,d3,d4,d5⟩:=KS.out _ HU0.out
   go_simp;clear d0 d1 d2 d3 d4 d5;refine hK.out _ _ ?_ fun hSU15=>?_;exact hSU10;clear hK K hSU10;(try simp only [J0,J1,J2,J3,J4]);refine wpAnyU_ready (rs:=[4]) (by kernel_rfl) rfl ?_;refine AllReadyU.consG la4 (fun K hK=>?_) ?_
   ·obtain ⟨⟨d0,d1,d2⟩,d3,d4,d5⟩:=KS.out _ HU0.out
    go_simp;clear d0 d1 d2 d3 d4 d5;refine hK.out _ _ ?_ fun hSU16=>?_;exact hSU15;clear hK K hSU15;(try simp only [J0,J1,J2,J3,J4]);refine wpAnyU_ready (rs:=[7]) (by kernel_rfl) rfl ?_;refine AllReadyU.consG la7 (fun K hK=>?_) ?_
    ·go_simp
     go_at_call 27;refine (TR.out _ (below_then HBC.out HBU.out)).mono ?_;rintro e u1 ⟨rfl,hb⟩;have HU1:=Lib.hid (grownBy_trans HU0.out (grown_belowD hb));have ZC:=Lib.hid (row_below3 hb ZC.out);have HBU:=Lib.hid (below_then HBU.out hb);clear hb;refine hK.out _ _ ?_ fun hSU17=>?_;exact KS.out _ HU1.out;clear hK K hSU16;(try simp only [J0,J1,J2,J3,J4]);apply tkV 8 hSU17 rfl (by kernel_rfl) (fun _ _ _ h=>h) rfl;intro w hSw;(go_simp<;>with_reducible rfl);simp only [J0,J1,J2,J3,J4];refine consU 9 rfl (by kernel_rfl) rfl fun K hK=>?_;refine step_store_row rfl 94 _ _ rfl (w.heap.size+2) _ rfl rfl 94 _ ZC.out (by kernel_rfl) rfl (by simp [Value.oneCell']) ?_;have hgz:=row_grown u1 (w.heap.size+2) #[.bool s1,.int .i64 s2,.int .u64 s3,.int .i64 (-1)];have RZ:=Lib.hid (setRow_heap u1 (w.heap.size+2) _ #[.bool s1,.int .i64 s2,.int .u64 s3,.int .i64 (-1)] 94 (0,0) ZC.out);skip
     have HBU:=Lib.hid (row_below (below_then HBC.out HBU.out) (show w.heap.size≤w.heap.size+2 by omega) #[.bool s1,.int .i64 s2,.int .u64 s3,.int .i64 (-1)]);generalize u1.setRow (w.heap.size+2) #[.bool s1,.int .i64 s2,.int .u64 s3,.int .i64 (-1)]=u2 at *;have HU2:=Lib.hid (grownBy_trans HU1.out hgz);clear hgz;refine hK.out _ _ ?_ fun hSU18=>?_;exact KS.out _ HU2.out;clear hK K hSU17;(try simp only [J0,J1,J2,J3,J4]);refine freeU 10 rfl (by kernel_rfl) rfl (by kernel_rfl) fun K hK=>?_;go_simp;refine hK.out _ _ ?_;clear hK K hSU18;(try simp only [J0,J1,J2,J3,J4]);refine wpAnyU_done (by kernel_rfl) ?_ _;go_wp2_with fail;refine bodyPost_ret (v:=.tuple #[.agg #[.bool s1,.int .i64 s2,.int .u64 s3,.int .i64 (-1)],.bool bq]) (results_cell_tmp Try.results68 _ _ (w.heap.size+2) 94 _ (0,0) _ rfl RZ.out Try.underlying94 rfl (by kernel_rfl) _ rfl) rfl ?_;exact ⟨rfl,HBU.out⟩
    exact AllReadyU.nil
   exact AllReadyU.nil
  exact AllReadyU.nil
 refine AllReadyU.consG la6 (fun K hK=>?_) ?_
 ·obtain ⟨⟨d0,d1,d2⟩,d3,d4,d5⟩:=KS.out _ HU0.out
  go_simp;clear d0 d1 d2 d3 d4 d5;refine hK.out _ _ ?_ fun hSU19=>?_;exact hSU0;clear hK K hSU0;(try simp only [J0,J1,J2,J3,J4]);refine wpAnyU_ready (rs:=[4,5]) (by kernel_rfl) rfl ?_;refine AllReadyU.consG la4 (fun K hK=>?_) ?_
  ·obtain ⟨⟨d0,d1,d2⟩,d3,d4,d5⟩:=KS.out _ HU0.out
   go_simp;clear d0 d1 d2 d3 d4 d5;refine hK.out _ _ ?_ fun hSU20=>?_;exact hSU19;clear hK K hSU19;(try simp only [J0,J1,J2,J3,J4]);refine wpAnyU_ready (rs:=[5]) (by kernel_rfl) rfl ?_;refine AllReadyU.consG la5 (fun K hK=>?_) ?_
   ·go_simp
    refine hK.out _ _ ?_ fun hSU21=>?_;exact hSU20;clear hK K hSU20;(try simp only [J0,J1,J2,J3,J4]);refine wpAnyU_ready (rs:=[7]) (by kernel_rfl) rfl ?_;refine AllReadyU.consG la7 (fun K hK=>?_) ?_
    ·go_simp
     go_at_call 27;refine (TR.out _ (below_then HBC.out HBU.out)).mono ?_;rintro e u1 ⟨rfl,hb⟩;have HU1:=Lib.hid (grownBy_trans HU0.out (grown_belowD hb));have ZC:=Lib.hid (row_below3 hb ZC.out);have HBU:=Lib.hid (below_then HBU.out hb);clear hb;refine hK.out _ _ ?_ fun hSU22=>?_;exact KS.out _ HU1.out;clear hK K hSU21;(try simp only [J0,J1,J2,J3,J4]);apply tkV 8 hSU22 rfl (by kernel_rfl) (fun _ _ _ h=>h) rfl;intro w hSw;(go_simp<;>with_reducible rfl);simp only [J0,J1,J2,J3,J4];refine consU 9 rfl (by kernel_rfl) rfl fun K hK=>?_;refine step_store_row rfl 94 _ _ rfl (w.heap.size+2) _ rfl rfl 94 _ ZC.out (by kernel_rfl) rfl (by simp [Value.oneCell']) ?_;have hgz:=row_grown u1 (w.heap.size+2) #[.bool s1,.int .i64 s2,.int .u64 s3,.int .i64 (-1)];have RZ:=Lib.hid (setRow_heap u1 (w.heap.size+2) _ #[.bool s1,.int .i64 s2,.int .u64 s3,.int .i64 (-1)] 94 (0,0) ZC.out);skip
     have HBU:=Lib.hid (row_below (below_then HBC.out HBU.out) (show w.heap.size≤w.heap.size+2 by omega) #[.bool s1,.int .i64 s2,.int .u64 s3,.int .i64 (-1)]);generalize u1.setRow (w.heap.size+2) #[.bool s1,.int .i64 s2,.int .u64 s3,.int .i64 (-1)]=u2 at *;have HU2:=Lib.hid (grownBy_trans HU1.out hgz);clear hgz;refine hK.out _ _ ?_ fun hSU23=>?_;exact KS.out _ HU2.out;clear hK K hSU22;(try simp only [J0,J1,J2,J3,J4]);refine freeU 10 rfl (by kernel_rfl) rfl (by kernel_rfl) fun K hK=>?_;go_simp;refine hK.out _ _ ?_;clear hK K hSU23;(try simp only [J0,J1,J2,J3,J4]);refine wpAnyU_done (by kernel_rfl) ?_ _;go_wp2_with fail;refine bodyPost_ret (v:=.tuple #[.agg #[.bool s1,.int .i64 s2,.int .u64 s3,.int .i64 (-1)],.bool bq]) (results_cell_tmp Try.results68 _ _ (w.heap.size+2) 94 _ (0,0) _ rfl RZ.out Try.underlying94 rfl (by kernel_rfl) _ rfl) rfl ?_;exact ⟨rfl,HBU.out⟩
    exact AllReadyU.nil
   exact AllReadyU.nil
  refine AllReadyU.consG la5 (fun K hK=>?_) ?_
  ·go_simp
   refine hK.out _ _ ?_ fun hSU24=>?_;exact hSU19;clear hK K hSU19;(try simp only [J0,J1,J2,J3,J4]);refine wpAnyU_ready (rs:=[4]) (by kernel_rfl) rfl ?_;refine AllReadyU.consG la4 (fun K hK=>?_) ?_
   ·obtain ⟨⟨d0,d1,d2⟩,d3,d4,d5⟩:=KS.out _ HU0.out
    go_simp;clear d0 d1 d2 d3 d4 d5;refine hK.out _ _ ?_ fun hSU25=>?_;exact hSU24;clear hK K hSU24;(try simp only [J0,J1,J2,J3,J4]);refine wpAnyU_ready (rs:=[7]) (by kernel_rfl) rfl ?_;refine AllReadyU.consG la7 (fun K hK=>?_) ?_
    ·go_simp
     go_at_call 27;refine (TR.out _ (below_then HBC.out HBU.out)).mono ?_;rintro e u1 ⟨rfl,hb⟩;have HU1:=Lib.hid (grownBy_trans HU0.out (grown_belowD hb));have ZC:=Lib.hid (row_below3 hb ZC.out);have HBU:=Lib.hid (below_then HBU.out hb);clear hb;refine hK.out _ _ ?_ fun hSU26=>?_;exact KS.out _ HU1.out;clear hK K hSU25;(try simp only [J0,J1,J2,J3,J4]);apply tkV 8 hSU26 rfl (by kernel_rfl) (fun _ _ _ h=>h) rfl;intro w hSw;(go_simp<;>with_reducible rfl);simp only [J0,J1,J2,J3,J4];refine consU 9 rfl (by kernel_rfl) rfl fun K hK=>?_;refine step_store_row rfl 94 _ _ rfl (w.heap.size+2) _ rfl rfl 94 _ ZC.out (by kernel_rfl) rfl (by simp [Value.oneCell']) ?_;have hgz:=row_grown u1 (w.heap.size+2) #[.bool s1,.int .i64 s2,.int .u64 s3,.int .i64 (-1)];have RZ:=Lib.hid (setRow_heap u1 (w.heap.size+2) _ #[.bool s1,.int .i64 s2,.int .u64 s3,.int .i64 (-1)] 94 (0,0) ZC.out);skip
     have HBU:=Lib.hid (row_below (below_then HBC.out HBU.out) (show w.heap.size≤w.heap.size+2 by omega) #[.bool s1,.int .i64 s2,.int .u64 s3,.int .i64 (-1)]);generalize u1.setRow (w.heap.size+2) #[.bool s1,.int .i64 s2,.int .u64 s3,.int .i64 (-1)]=u2 at *;have HU2:=Lib.hid (grownBy_trans HU1.out hgz);clear hgz;refine hK.out _ _ ?_ fun hSU27=>?_;exact KS.out _ HU2.out;clear hK K hSU26;(try simp only [J0,J1,J2,J3,J4]);refine freeU 10 rfl (by kernel_rfl) rfl (by kernel_rfl) fun K hK=>?_;go_simp;refine hK.out _ _ ?_;clear hK K hSU27;(try simp only [J0,J1,J2,J3,J4]);refine wpAnyU_done (by kernel_rfl) ?_ _;go_wp2_with fail;refine bodyPost_ret (v:=.tuple #[.agg #[.bool s1,.int .i64 s2,.int .u64 s3,.int .i64 (-1)],.bool bq]) (results_cell_tmp Try.results68 _ _ (w.heap.size+2) 94 _ (0,0) _ rfl RZ.out Try.underlying94 rfl (by kernel_rfl) _ rfl) rfl ?_;exact ⟨rfl,HBU.out⟩
    exact AllReadyU.nil
   exact AllReadyU.nil
  exact AllReadyU.nil
 exact AllReadyU.nil
def ChQ (d:DeskM) (thr:Int) (op:OpM) (w:World) (e:Ending) (w':World):Prop:=∃(xs:Bool) (xc xv i:Int),e=.returned (.tuple #[.agg #[.bool xs,.int .i64 xc,.int .u64 xv,.int .i64 i],.bool (decide (0≤pickD d thr op))])∧(0≤pickD d thr op→(casesE op).getD (pickD d thr op).toNat noCase=⟨xs,xc,xv⟩∧namedI op (pickD d thr op)=i)∧Below w.heap.size w w'
theorem choose_any (v vo:Value) (d:DeskM) (thr:Int) (op:OpM) (w:World) (h:DeskV w v d) (hd:d.ok) (ho:OpV w vo op) (hk:op.kind=1∨op.kind=2∨op.kind=4) (hl:op.cases.length≤100000):Calls Try.prog 68 #[v,.int .i64 thr,vo] w (ChQ d thr op w):=by
 by_cases h4:op.kind=4
 ·refine (chooseS_any v vo d thr op w h hd ho h4 hl).mono ?_
  rintro e w' ⟨rfl,hb⟩;have hp:pickD d thr op=choiceD d thr op:=by unfold pickD; rw [if_pos h4]
  have hc:casesE op=op.cases:=by unfold casesE; rw [if_pos h4]
  unfold ChQ;rw [hp,hc];by_cases h0:0≤choiceD d thr op
  ·rw [if_pos h0]
   exact ⟨_,_,_,_,rfl,fun _=>⟨rfl,by unfold namedI; rw [if_pos h4]⟩,hb⟩
  ·rw [if_neg h0]
   exact ⟨_,_,_,_,rfl,fun h=>absurd h h0,hb⟩
 ·have hk2:op.kind=1∨op.kind=2:=by omega
  refine (chooseO_any v vo d thr op w h hd ho hk2).mono ?_;rintro e w' ⟨rfl,hb⟩;have hc:casesE op=[sgC op]:=by
   unfold casesE;rw [if_neg h4,if_pos (by unfold oneB; rcases hk2 with h | h <;> rw [h] <;> rfl)];rfl
  have hp:pickD d thr op=if readyD d thr (sgC op)=true then 0 else -1:=by unfold pickD; rw [if_neg h4,hc]; rfl
  unfold ChQ;rw [hp,hc];cases hr:readyD d thr (sgC op) with
  | true=>
   rw [if_pos rfl];exact ⟨_,_,_,_,rfl,fun _=>⟨rfl,by unfold namedI; rw [if_neg h4]⟩,hb⟩
  | false=>
   rw [if_neg (by decide)];exact ⟨_,_,_,_,rfl,fun h=>absurd h (by decide),hb⟩
theorem Try.info_dn2:(Try.prog.info? 75).map (fun i=>(i.zero,i.size,i.bytes))=some (some (.agg #[.int .i64 0,.int .i64 0,.int .i64 0,.int .u64 0,.bool false,.int .i64 0]),6,48):=by kernel_rfl
theorem run_copy_wide (w:World) (dT sT ty elem:TypeId) (g o dLen dCap s:Nat) (a:Addr) (sLen sCap:Nat) (cur:Array Value) (t:TypeId) (cs:List Value)
  (hu:Try.prog.underlying dT=some (.slice elem)) (hs:(Try.prog.info? elem).map (·.size)=some s)
  (hg:w.heap[g]?=some (.cells cur t (0,0))) (hn:cs.length=Nat.min sLen dLen * s)
  (hsrc:∀j v,cs[j]?=some v→w.cell? (a.add j)=some v) (hfit:o+cs.length≤cur.size) (h1:∀v∈cs,v.oneCell'=true) :
  (Builtin.copy_ #[dT,sT] ty #[.slice (some ⟨g,o,none⟩) dLen dCap,.slice (some a) sLen sCap]).run Try.prog w =
   .ok (goInt (Nat.min sLen dLen)) (w.setRow g (cur.toList.take o ++ cs ++ cur.toList.drop (o+cs.length)).toArray):=by
 have hl:=run_loadCells_list (P:=Try.prog) w a cs hsrc;have hst:=run_storeCells_at Try.prog g o t cs 0 cur w hg (by simpa using hfit) h1;cases hq:Try.prog.info? elem with
 | none=>simp [hq] at hs
 | some i=>
  have hi:i.size=s:=by simpa [hq] using hs
  simp [Builtin.copy_,run_underlying hu,Builtin.lenOf,Builtin.firstCells,sizeOf,typeInfo,hq,hi,← hn,hl,hst]
theorem take_mid {α:Type} (xs r:List α) (cur:List α) (p q s:Nat) (hs:r.length=s) (hp:p≤xs.length) (hq:xs.length+s≤q) (hc:cur.take xs.length=xs) (hl:q≤cur.length) :
  ((((cur.take (p+s) ++ xs.drop p ++ cur.drop (p+s+(xs.drop p).length)).take p) ++ r ++ ((cur.take (p+s) ++ xs.drop p ++ cur.drop (p+s+(xs.drop p).length)).drop (p+r.length))).take (xs.length+s))=xs.take p ++ r ++ xs.drop p:=by
 have h1:cur.take p=xs.take p:=by rw [← hc,List.take_take,Nat.min_eq_left hp]
 have hlt:(cur.take (p+s)).length=p+s:=by rw [List.length_take]; omega
 have e1:(cur.take (p+s) ++ xs.drop p ++ cur.drop (p+s+(xs.drop p).length)).take p=xs.take p:=by
  rw [List.append_assoc,List.take_append_of_le_length (by omega),List.take_take,Nat.min_eq_left (by omega),h1]
 have e2:(cur.take (p+s) ++ xs.drop p ++ cur.drop (p+s+(xs.drop p).length)).drop (p+r.length)=xs.drop p ++ cur.drop (p+s+(xs.drop p).length):=by
  rw [hs,List.append_assoc,List.drop_left' hlt]
 rw [e1,e2,← List.append_assoc,List.take_left'];rw [List.length_append,List.length_append,List.length_take,List.length_drop,hs];omega
theorem take_grow {α:Type} (xs r z:List α) (p s:Nat) (hs:r.length=s) (hp:p≤xs.length) (hz:xs.length - p+s≤z.length) :
  (((((xs.take p ++ z).take p) ++ r ++ ((xs.take p ++ z).drop (p+r.length))).take (p+s)) ++ xs.drop p ++ ((((xs.take p ++ z).take p) ++ r ++ ((xs.take p ++ z).drop (p+r.length))).drop (p+s+(xs.drop p).length))).take (xs.length+s)=xs.take p ++ r ++ xs.drop p:=by
 have hlt:(xs.take p).length=p:=by rw [List.length_take]; omega
 have e1:(xs.take p ++ z).take p=xs.take p:=List.take_left' hlt;rw [e1];have e2:(xs.take p ++ r ++ ((xs.take p ++ z).drop (p+r.length))).take (p+s)=xs.take p ++ r:=List.take_left' (by rw [List.length_append,hlt,hs]);rw [e2,List.take_left'];rw [List.length_append,List.length_append,hlt,List.length_drop,hs];omega
set_option maxRecDepth 100000 in
set_option maxHeartbeats 16000000 in
theorem insRoom_any (base g vb c i:Nat) (rows:List (List Value)) (r:List Value) (w:World) (ho:OwnS w base 75 6 (.slice (some ⟨g,0,none⟩) rows.length c) rows) (hi:i<rows.length) (hr:r.length=6) (hr1:∀u∈r,u.oneCell'=true) (hvb:w.heap[vb]?=some (.cells r.toArray 75 (0,0))) (hne:vb≠g) (hroom:rows.length+1≤c) :
  Calls Try.prog 79 #[.slice (some ⟨g,0,none⟩) rows.length c,.int .i64 (i:Int),.slice (some ⟨vb,0,none⟩) 1 1] w fun e w'=>∃v',e=.returned v'∧OwnS w' base 75 6 v' (rows.take i ++ [r] ++ rows.drop i)∧w.grownBy w' (some g):=by
 obtain ⟨hrw,hxl,hor⟩:=ho;rcases hor with ⟨h,-⟩ | ⟨g',c',cur,he,hbg,hg,hnc,hcm,hcs,hct⟩
 ·simp at h
 simp only [Value.slice.injEq,Option.some.injEq,Addr.mk.injEq] at he;obtain ⟨⟨rfl,-,-⟩,-,rfl⟩:=he;obtain ⟨n,hn⟩:∃n,rows.length=n:=⟨_,rfl⟩;obtain ⟨xs,hxs⟩:∃xs,rows.flatten=xs:=⟨_,rfl⟩;rw [hn,hxs] at hxl hct;rw [hn] at hi hnc hroom ⊢;have hx1:∀u∈xs,u.oneCell'=true:=fun u hu=>by
  rw [← hxs] at hu;obtain ⟨r2,h2,h3⟩:=List.mem_flatten.1 hu;exact (hrw r2 h2).2 u h3
 have hsz:(Try.prog.info? 75).map (·.size)=some 6:=by
  obtain ⟨i0,hi0,h0,h1,h2⟩:=info_parts Try.info_dn2;rw [hi0]; simp [h1]
 have hzz:∀w,(Go.sizeOf 75).run Try.prog w=.ok 6 w:=fun w=>by
  obtain ⟨i0,hi0,h0,h1,h2⟩:=info_parts Try.info_dn2;simp [Go.sizeOf,typeInfo,hi0,h1]
 have hu:Try.prog.underlying 37=some (.slice 75):=by kernel_rfl
 have hcell:∀j v,xs[j]?=some v→w.cell? ⟨g,j,none⟩=some v:=fun j v h=>by
  have hj:=(List.getElem?_eq_some_iff.1 h).1;rw [← hct,List.getElem?_take] at h;split at h
  ·rw [cell_of_row _ _ j _ _ _ hg]; simpa using h
  ·cases h
 have hrc:∀j v,r[j]?=some v→w.cell? ⟨vb,j,none⟩=some v:=fun j v h=>by rw [cell_of_row _ _ j _ _ _ hvb]; simpa using h
 have hdl:(xs.drop (i * 6)).length=(n - i) * 6:=by rw [List.length_drop,hxl,Nat.sub_mul]
 have hcl:cur.toList.length=c * 6:=by simpa using hcs
 obtain ⟨cur1,hcur1⟩:∃z:List Value,cur.toList.take ((i+1) * 6) ++ xs.drop (i * 6) ++ cur.toList.drop ((i+1) * 6+(xs.drop (i * 6)).length)=z:=⟨_,rfl⟩;have hc1l:cur1.length=c * 6:=by
  rw [← hcur1,List.length_append,List.length_append,List.length_take,hdl,List.length_drop,hcl];omega
 have hcp1:∀ty dc sc,(Builtin.copy_ #[37,37] ty #[.slice (some ⟨g,(i+1) * 6,none⟩) (n - i) dc,.slice (some ⟨g,i * 6,none⟩) (n+1 - i) sc]).run Try.prog w.drew=.ok (goInt ((n - i:Nat):Int)) (w.drew.setRow g cur1.toArray):=fun ty dc sc=>by
  have hm:Nat.min (n+1 - i) (n - i)=n - i:=by simp only [Nat.min_def]; split <;> omega
  have h:=run_copy_wide w.drew 37 37 ty 75 g ((i+1) * 6) (n - i) dc 6 ⟨g,i * 6,none⟩ (n+1 - i) sc cur _ (xs.drop (i * 6)) hu hsz hg (by rw [hdl,hm])
   (fun j v hj=>by rw [Addr.add_lit]; exact hcell (i * 6+j) v (by rwa [List.getElem?_drop] at hj)) (by rw [hdl,hcs]; omega) (fun v hv=>hx1 v (List.mem_of_mem_drop hv))
  rw [hm,hcur1] at h;exact h
 have hg1:(w.drew.setRow g cur1.toArray).heap[g]?=some (.cells cur1.toArray 75 (0,0)):=setRow_heap _ _ _ _ _ (0,0) hg;obtain ⟨W1,hW1⟩:∃W1,w.drew.setRow g cur1.toArray=W1:=⟨_,rfl⟩;have hvb1:W1.heap[vb]?=some (.cells r.toArray 75 (0,0)):=by rw [← hW1]; exact (setRow_other _ _ _ _ hne).trans hvb
 have hgr1:w.grownBy W1 (some g):=by rw [← hW1]; exact ⟨rfl,rfl,rfl,(row_grown w.drew g cur1.toArray).size,(row_grown w.drew g cur1.toArray).block⟩
 rw [hW1] at hcp1 hg1;have hcp2:∀(W:World),W.heap=W1.heap→∀ty dc,(Builtin.copy_ #[37,37] ty #[.slice (some ⟨g,i * 6,none⟩) (n+1 - i) dc,.slice (some ⟨vb,0,none⟩) 1 1]).run Try.prog W=.ok (goInt 1) (W.setRow g (cur1.take (i * 6) ++ r ++ cur1.drop (i * 6+r.length)).toArray):=fun W hWh ty dc=>by
  have hm:Nat.min 1 (n+1 - i)=1:=by simp only [Nat.min_def]; split <;> omega
  have h:=run_copy_wide W 37 37 ty 75 g (i * 6) (n+1 - i) dc 6 ⟨vb,0,none⟩ 1 1 cur1.toArray _ r hu hsz (by rw [hWh]; exact hg1) (by rw [hr,hm])
   (fun j v hj=>by rw [Addr.add_lit,cell_of_row _ _ (0+j) _ _ _ (by rw [hWh]; exact hvb1)]; simpa using hj) (by rw [hr]; simp; omega) hr1
  rw [hm] at h;exact h
 have hov:∀lb cb,(callFunc 99 #[.slice (some ⟨vb,0,none⟩) 1 1,.slice (some ⟨g,(i+1) * 6,none⟩) lb cb]).run Try.prog w=.ok (.value (.bool false)) w:=fun lb cb=>by
  rw [run_callFunc_extern Try.func99 (by kernel_rfl) (by kernel_rfl) (by kernel_rfl) (e:=Extern.SlicesOverlaps.overlaps #[37,37] #[4]) (by kernel_rfl),
   Lib.run_overlaps_apart w 37 4 75 hu 6 hzz ⟨vb,0,none⟩ ⟨g,(i+1) * 6,none⟩ 1 1 lb cb hne 75 75 6 (c * 6) (by simp [World.shape?,hvb,hr]) (by simp [World.shape?,hg,hcs]) (by omega) (by simp [World.frozen?,hvb]) (by simp [World.frozen?,hvb])]
  rfl
 obtain ⟨W2,hW2⟩:∃W2,W1.setRow g (cur1.take (i * 6) ++ r ++ cur1.drop (i * 6+r.length)).toArray=W2:=⟨_,rfl⟩;have hg2:W2.heap[g]?=some (.cells (cur1.take (i * 6) ++ r ++ cur1.drop (i * 6+r.length)).toArray 75 (0,0)):=by rw [← hW2]; exact setRow_heap _ _ _ _ _ (0,0) hg1
 have hgr2:w.grownBy W2 (some g):=by rw [← hW2]; exact grownBy_trans hgr1 (row_grown W1 g _)
 have hfl:(rows.take i ++ [r] ++ rows.drop i).flatten=xs.take (i * 6) ++ r ++ xs.drop (i * 6):=by
  have h1:(rows.take i).flatten.length=i * 6:=by rw [flatS_length (s:=6) _ (fun q hq=>hrw q (List.mem_of_mem_take hq)),List.length_take]; congr 1; omega
  have h2:xs=(rows.take i).flatten ++ (rows.drop i).flatten:=by rw [← hxs,← List.flatten_append,List.take_append_drop]
  rw [h2,List.take_left' h1,List.drop_left' h1];simp
 have hown:OwnS W2 base 75 6 (.slice (some ⟨g,0,none⟩) (n+1) c) (rows.take i ++ [r] ++ rows.drop i):=by
  have hlen:(rows.take i ++ [r] ++ rows.drop i).length=n+1:=by simp; omega
  refine ⟨fun q hq=>?_,?_⟩
  ·rcases List.mem_append.1 hq with h | h
   ·rcases List.mem_append.1 h with h | h
    ·exact hrw q (List.mem_of_mem_take h)
    ·rw [List.mem_singleton.1 h]; exact ⟨hr,hr1⟩
   ·exact hrw q (List.mem_of_mem_drop h)
  ·rw [hlen,hfl]
   refine ⟨by simp [hr]; omega,.inr ⟨g,c,_,rfl,hbg,hg2,hroom,hcm,?_,?_⟩⟩
   ·simp [hr,hc1l]; omega
   ·have h:=take_mid xs r cur.toList (i * 6) (c * 6) 6 hr (by omega) (by omega) (by rw [hxl]; exact hct) (by omega)
    rw [show i * 6+6=(i+1) * 6 by omega,hcur1,hxl,show n * 6+6=(n+1) * 6 by omega] at h;simpa using h
 obtain ⟨TQ,hTQ⟩:∃z:Ending→World→Prop,(fun e w'=>∃v',e=.returned v'∧OwnS w' base 75 6 v' (rows.take i ++ [r] ++ rows.drop i)∧w.grownBy w' (some g))=z:=⟨_,rfl⟩;have HT:Hid (TQ (.returned (.slice (some ⟨g,0,none⟩) (n+1) c)) W2):=by rw [← hTQ]; exact ⟨_,rfl,hown,hgr2⟩
 have HC2:=Lib.hid hcp2;have HW2:=Lib.hid hW2;rw [hTQ];have hw1:IntKind.i64.wrap ((i:Int)+1)=(i:Int)+1:=by rw [IntKind.wrap_i64]; unfold maxLen at hcm; omega
 have hw2:IntKind.i64.wrap ((n:Int)+1)=(n:Int)+1:=by rw [IntKind.wrap_i64]; unfold maxLen at hcm; omega
 have hz2:¬((i:Int)=(n:Int)):=by omega
 have hin:i≤n:=by omega
 have mixed:Try.prog.follows .mixedOrders=true:=by kernel_rfl
 have hb1:(0:Int)≤(i:Int)+1:=by omega
 have htn:((i:Int)+1).toNat=i+1:=by omega
 have hb2:¬(c=i+1):=by omega
 have hb3:(i:Int)≤(n:Int)+1:=by omega
 have hb4:¬(c=i):=by omega
 have HW1:=Lib.hid hW1;have HCP1:=Lib.hid hcp1;clear hown hgr2 hfl hg2 hgr1 hvb1 hg1 hcp1 hcp2 hc1l hcur1 hcl hdl hrc hcell hu hzz hsz hx1 hct hxl hxs hrw hg hcs hcm hTQ hW2 hW1 hvb hr1 hn hbg;go_enter Try.func79,Try.ntmps79;go_wp2_with (simp only [hov]);have hcp1:=HCP1.out;go_region_law_o (refine step_copy_runI rfl _ _ 37 37 rfl _ _ (by simp [Act.eval,Act.put]) (by simp [Act.eval,Act.put]) (hcp1 _ _ _) ?_);clear hcp1;have hc2:=HC2.out _ rfl;rw [HW2.out] at hc2;go_wp2_with fail;exact HT.out
set_option maxRecDepth 100000 in
set_option maxHeartbeats 16000000 in
theorem insGrow_any (base g vb c i:Nat) (rows:List (List Value)) (r:List Value) (w:World) (ho:OwnS w base 75 6 (.slice (some ⟨g,0,none⟩) rows.length c) rows) (hi:i<rows.length) (hr:r.length=6) (hr1:∀u∈r,u.oneCell'=true) (hvb:w.heap[vb]?=some (.cells r.toArray 75 (0,0))) (hroom:¬rows.length+1≤c) (hbw:base≤w.heap.size) (hsm:rows.length≤100000) :
  Calls Try.prog 79 #[.slice (some ⟨g,0,none⟩) rows.length c,.int .i64 (i:Int),.slice (some ⟨vb,0,none⟩) 1 1] w fun e w'=>∃v',e=.returned v'∧OwnS w' base 75 6 v' (rows.take i ++ [r] ++ rows.drop i)∧w.grownBy w' (some g):=by
 obtain ⟨hrw,hxl,hor⟩:=ho;rcases hor with ⟨h,-⟩ | ⟨g',c',cur,he,hbg,hg,hnc,hcm,hcs,hct⟩
 ·simp at h
 simp only [Value.slice.injEq,Option.some.injEq,Addr.mk.injEq] at he;obtain ⟨⟨rfl,-,-⟩,-,rfl⟩:=he;obtain ⟨n,hn⟩:∃n,rows.length=n:=⟨_,rfl⟩;obtain ⟨xs,hxs⟩:∃xs,rows.flatten=xs:=⟨_,rfl⟩;rw [hn,hxs] at hxl hct;rw [hn] at hi hnc hroom hsm ⊢;have hcn:c=n:=by omega
 subst hcn;have hx1:∀u∈xs,u.oneCell'=true:=fun u hu=>by
  rw [← hxs] at hu;obtain ⟨r2,h2,h3⟩:=List.mem_flatten.1 hu;exact (hrw r2 h2).2 u h3
 obtain ⟨i0,hi0,hz0,hz1,hz2⟩:=info_parts Try.info_dn2;have hsz:(Try.prog.info? 75).map (·.size)=some 6:=by rw [hi0]; simp [hz1]
 have hu:Try.prog.underlying 37=some (.slice 75):=by kernel_rfl
 have hui:Try.prog.underlying 3=some (.int .i64):=by kernel_rfl
 have hcell:∀j v,xs[j]?=some v→w.cell? ⟨g,j,none⟩=some v:=fun j v h=>by
  have hj:=(List.getElem?_eq_some_iff.1 h).1;rw [← hct,List.getElem?_take] at h;split at h
  ·rw [cell_of_row _ _ j _ _ _ hg]; simpa using h
  ·cases h
 have hgw:g<w.heap.size:=(Array.getElem?_eq_some_iff.1 hg).1;have hvw:vb<w.heap.size:=(Array.getElem?_eq_some_iff.1 hvb).1;have hdl:(xs.drop (i * 6)).length=(c - i) * 6:=by rw [List.length_drop,hxl,Nat.sub_mul]
 have hold:(Builtin.firstCells i0.size i (.slice (some ⟨g,0,none⟩) i c)).run Try.prog w.drew=.ok (xs.take (i * 6)).toArray w.drew:=by
  rw [hz1];exact run_firstCells_some w.drew 6 i ⟨g,0,none⟩ i c (xs.take (i * 6)) (by rw [List.length_take]; omega) (fun j v hj=>by
   rw [Addr.add_lit];rw [List.getElem?_take] at hj;split at hj
   ·rw [Nat.zero_add]; exact hcell j v hj
   ·cases hj)
 obtain ⟨G,hG⟩:∃G,G=grownCap w (c+1) c 75:=⟨_,rfl⟩;obtain ⟨Z,hZ⟩:∃Z:Array Value,Z=Builtin.zeroCells (Value.agg #[.int .i64 0,.int .i64 0,.int .i64 0,.int .u64 0,.bool false,.int .i64 0]).cells (c+1 - i) ++ Builtin.zeroCells (Value.agg #[.int .i64 0,.int .i64 0,.int .i64 0,.int .u64 0,.bool false,.int .i64 0]).cells (G - (c+1)):=⟨_,rfl⟩;have hGn:c+1≤G:=by rw [hG]; exact grownCap_ge w _ _ _
 have hGm:G≤maxLen:=by rw [hG]; exact grownCap_le_maxLen w _ _ _ (by unfold maxLen; omega)
 have hZl:Z.size=(G - i) * 6:=by
  rw [hZ];simp [Builtin.zeroCells,Value.cells];omega
 obtain ⟨N,hN⟩:∃N,w.heap.size=N:=⟨_,rfl⟩;have hrz:∀ty,(Builtin.append_ #[37,3] ty #[.slice (some ⟨g,0,none⟩) i c,.int .i64 ((c:Int)+1 - (i:Int))]).run Try.prog w =
   .ok (.slice (some ⟨N,0,none⟩) (c+1) G) (w.drew.alloc (.cells ((xs.take (i * 6)) ++ Z.toList).toArray 75)):=fun ty=>by
  have h:=Lib.run_append_grow_zeros w 37 3 ty 75 i0 _ .i64 .i64 hu hui hi0 hz0 (some ⟨g,0,none⟩) i c (xs.take (i * 6)) hold (c+1 - i) (by omega) (by omega) (by omega) (by omega) (by rw [hz2]; omega) (by rw [hz2,show i+(c+1 - i)=c+1 by omega]; exact growslice_fits (by omega) (by omega));rw [show i+(c+1 - i)=c+1 by omega,← hG,hN] at h;rw [show (c:Int)+1 - (i:Int)=((c+1 - i:Nat):Int) by omega,h,hZ,← hN];congr 3;simp [Array.append_assoc]
 obtain ⟨W0,hW0⟩:∃W0,w.drew.alloc (.cells ((xs.take (i * 6)) ++ Z.toList).toArray 75)=W0:=⟨_,rfl⟩;have hb0:Below w.heap.size w W0:=by rw [← hW0]; exact ⟨rfl,rfl,rfl,(below_new (Below.refl w.drew.heap.size w.drew) _).size,(below_new (Below.refl w.drew.heap.size w.drew) _).block⟩
 have h0:W0.heap[N]?=some (.cells ((xs.take (i * 6)) ++ Z.toList).toArray 75 (0,0)):=by rw [← hW0,← hN]; exact heap_alloc_new w.drew _
 rw [hW0] at hrz;have hvb0:W0.heap[vb]?=some (.cells r.toArray 75 (0,0)):=(hb0.block _ hvw).trans hvb;have hg0:W0.heap[g]?=some (.cells cur 75 (0,0)):=(hb0.block _ hgw).trans hg;have htl:(xs.take (i * 6)).length=i * 6:=by rw [List.length_take]; omega
 obtain ⟨cur1,hcur1⟩:∃z:List Value,((xs.take (i * 6)) ++ Z.toList).take (i * 6) ++ r ++ ((xs.take (i * 6)) ++ Z.toList).drop (i * 6+r.length)=z:=⟨_,rfl⟩;have hc1l:cur1.length=G * 6:=by
  rw [← hcur1];simp [htl,hr,hZl];omega
 have hcpA:∀(W:World),W.heap=W0.heap→∀ty dc,(Builtin.copy_ #[37,37] ty #[.slice (some ⟨N,i * 6,none⟩) (c+1 - i) dc,.slice (some ⟨vb,0,none⟩) 1 1]).run Try.prog W=.ok (goInt 1) (W.setRow N cur1.toArray):=fun W hWh ty dc=>by
  have hm:Nat.min 1 (c+1 - i)=1:=by simp only [Nat.min_def]; split <;> omega
  have h:=run_copy_wide W 37 37 ty 75 N (i * 6) (c+1 - i) dc 6 ⟨vb,0,none⟩ 1 1 _ _ r hu hsz (by rw [hWh]; exact h0) (by rw [hr,hm])
   (fun j v hj=>by rw [Addr.add_lit,cell_of_row _ _ (0+j) _ _ _ (by rw [hWh]; exact hvb0)]; simpa using hj) (by rw [hr]; simp [htl,hZl]; omega) hr1
  rw [hm,hcur1] at h;exact h
 obtain ⟨cur2,hcur2⟩:∃z:List Value,cur1.take ((i+1) * 6) ++ xs.drop (i * 6) ++ cur1.drop ((i+1) * 6+(xs.drop (i * 6)).length)=z:=⟨_,rfl⟩;have hc2l:cur2.length=G * 6:=by
  rw [← hcur2,List.length_append,List.length_append,List.length_take,hdl,List.length_drop,hc1l];omega
 have hcpB:∀(W:World),W.heap=(W0.setRow N cur1.toArray).heap→∀ty dc sc,(Builtin.copy_ #[37,37] ty #[.slice (some ⟨N,(i+1) * 6,none⟩) (c - i) dc,.slice (some ⟨g,i * 6,none⟩) (c - i) sc]).run Try.prog W=.ok (goInt ((c - i:Nat):Int)) (W.setRow N cur2.toArray):=fun W hWh ty dc sc=>by
  have hm:Nat.min (c - i) (c - i)=c - i:=Nat.min_self _;have hgW:W.heap[g]?=some (.cells cur 75 (0,0)):=by rw [hWh]; exact (setRow_other _ _ _ _ (by omega)).trans hg0
  have h:=run_copy_wide W 37 37 ty 75 N ((i+1) * 6) (c - i) dc 6 ⟨g,i * 6,none⟩ (c - i) sc _ _ (xs.drop (i * 6)) hu hsz (by rw [hWh]; exact setRow_heap _ _ _ _ _ (0,0) h0) (by rw [hdl,hm])
   (fun j v hj=>by
    rw [List.getElem?_drop,← hct,List.getElem?_take] at hj;split at hj
    ·rw [Addr.add_lit,cell_of_row _ _ (i * 6+j) _ _ _ hgW]; simpa using hj
    ·cases hj) (by rw [hdl]; simp [hc1l]; omega) (fun v hv=>hx1 v (List.mem_of_mem_drop hv))
  rw [hm,List.toList_toArray,hcur2] at h;exact h
 have hfl:(rows.take i ++ [r] ++ rows.drop i).flatten=xs.take (i * 6) ++ r ++ xs.drop (i * 6):=by
  have h1:(rows.take i).flatten.length=i * 6:=by rw [flatS_length (s:=6) _ (fun q hq=>hrw q (List.mem_of_mem_take hq)),List.length_take]; congr 1; omega
  have h2:xs=(rows.take i).flatten ++ (rows.drop i).flatten:=by rw [← hxs,← List.flatten_append,List.take_append_drop]
  rw [h2,List.take_left' h1,List.drop_left' h1];simp
 have hown:∀W:World,W.heap[N]?=some (.cells cur2.toArray 75 (0,0))→OwnS W base 75 6 (.slice (some ⟨N,0,none⟩) (c+1) G) (rows.take i ++ [r] ++ rows.drop i):=fun W hWN=>by
  have hlen:(rows.take i ++ [r] ++ rows.drop i).length=c+1:=by simp; omega
  refine ⟨fun q hq=>?_,?_⟩
  ·rcases List.mem_append.1 hq with h | h
   ·rcases List.mem_append.1 h with h | h
    ·exact hrw q (List.mem_of_mem_take h)
    ·rw [List.mem_singleton.1 h]; exact ⟨hr,hr1⟩
   ·exact hrw q (List.mem_of_mem_drop h)
  ·rw [hlen,hfl]
   refine ⟨by simp [hr]; omega,.inr ⟨N,G,_,rfl,by omega,hWN,hGn,hGm,by simp [hc2l],?_⟩⟩;have h:=take_grow xs r Z.toList (i * 6) 6 hr (by omega) (by simp [hZl]; omega);rw [hcur1,show i * 6+6=(i+1) * 6 by omega,hcur2,hxl,show c * 6+6=(c+1) * 6 by omega] at h;simpa using h
 obtain ⟨TQ,hTQ⟩:∃z:Ending→World→Prop,(fun e w'=>∃v',e=.returned v'∧OwnS w' base 75 6 v' (rows.take i ++ [r] ++ rows.drop i)∧w.grownBy w' (some g))=z:=⟨_,rfl⟩;have HT:Hid (∀W:World,W.os=w.os→W.tape=w.tape→W.output=w.output→W.heap=((W0.setRow N cur1.toArray).setRow N cur2.toArray).heap→TQ (.returned (.slice (some ⟨N,0,none⟩) (c+1) G)) W):=fun W ha hb hc hd=>by
  rw [← hTQ];have hBB:=row_below (row_below hb0 (show w.heap.size≤N by omega) cur1.toArray) (show w.heap.size≤N by omega) cur2.toArray;exact ⟨_,rfl,hown W (by rw [hd]; exact setRow_heap _ _ _ _ _ (0,0) (setRow_heap _ _ _ _ _ (0,0) h0)),ha,hb,hc,by rw [hd]; exact hBB.size,fun k hk hk2=>by rw [hd]; exact hBB.block k hk⟩
 have HOS:Hid (W0.os=w.os∧W0.tape=w.tape∧W0.output=w.output):=⟨hb0.os,hb0.tape,hb0.output⟩;have HA:=Lib.hid hcpA;have HB2:=Lib.hid hcpB;have HZ:=Lib.hid hrz;rw [hTQ];have hw1:IntKind.i64.wrap ((i:Int)+1)=(i:Int)+1:=by rw [IntKind.wrap_i64]; omega
 have hw2:IntKind.i64.wrap ((c:Int)+1)=(c:Int)+1:=by rw [IntKind.wrap_i64]; omega
 have hw3:IntKind.i64.wrap ((c:Int)+1 - (i:Int))=(c:Int)+1 - (i:Int):=by rw [IntKind.wrap_i64]; omega
 have hzz2:¬((i:Int)=(c:Int)):=by omega
 have hin:i≤c:=by omega
 have mixed:Try.prog.follows .mixedOrders=true:=by kernel_rfl
 have hb1:(0:Int)≤(i:Int)+1:=by omega
 have htn:((i:Int)+1).toNat=i+1:=by omega
 have hb2:¬(G=i+1):=by omega
 have hb3:(i:Int)≤(c:Int)+1:=by omega
 have hb4:¬(G=i):=by omega
 have hb5:¬(c=i):=by omega
 have hW1:(W0.setRow N cur1.toArray).heap=(W0.setRow N cur1.toArray).heap:=rfl;clear hown hfl hcpA hcpB hc2l hcur2 hc1l hcur1 htl hvb0 hg0 h0 hb0 hW0 hrz hZl hGm hZ hG hold hdl hcell hu hui hsz hx1 hct hxl hxs hrw hg hcs hcm hTQ hvb hr1 hn hbg hi0 hz0 hz1 hz2 hN hW1;go_enter Try.func79,Try.ntmps79;have hcA:=HA.out _ rfl;go_wp2_with (at_builtin; refine Lib.wpList_append_run _ rfl _ _ _ _ rfl _ _ rfl rfl _ _ (HZ.out _) ?_);trace_state
 have hcB:=HB2.out (W0.setRow N cur1.toArray).drew rfl;go_region_law_o (refine step_copy_runI rfl _ _ 37 37 rfl _ _ (by simp [Act.eval,Act.put]) (by simp [Act.eval,Act.put]) (hcB _ _ _) ?_);obtain ⟨q1,q2,q3⟩:=HOS.out;have HF:=Lib.hid (HT.out ((W0.setRow N cur1.toArray).drew.setRow N cur2.toArray) q1 q2 q3 rfl);clear hcA hcB q1 q2 q3;go_wp2_with fail;exact HF.out
def Asc (l:List DoneM):Prop:=l.Pairwise fun x y=>x.thr<y.thr
theorem Asc.nil:Asc []:=List.Pairwise.nil
theorem Asc.one (x:DoneM):Asc [x]:=List.pairwise_singleton _ _
theorem Asc.lt {l:List DoneM} (h:Asc l) {i j:Nat} (hij:i<j) (hj:j<l.length):(l.getD i doneZ).thr<(l.getD j doneZ).thr:=by
 rw [getD_lt (Nat.lt_trans hij hj),getD_lt hj];exact List.pairwise_iff_getElem.1 h i j _ hj hij
theorem Asc.le {l:List DoneM} (h:Asc l) (i j:Nat) (hij:i≤j) (hj:j<l.length):(l.getD i doneZ).thr≤(l.getD j doneZ).thr:=by
 rcases Nat.lt_or_eq_of_le hij with h1 | rfl
 ·exact Int.le_of_lt (h.lt h1 hj)
 ·exact Int.le_refl _
theorem addK_spec {l:List DoneM} (h:Asc l) (t:Int):∀k,k≤l.length→(∀j,j<addK l t k→(l.getD j doneZ).thr≤t)∧(∀j,addK l t k≤j→j<k→t<(l.getD j doneZ).thr)
 | 0,_=>⟨fun j hj=>by simp [addK] at hj,fun j _ hj=>by omega⟩
 | k+1,hk=>by
  have ih:=addK_spec h t k (by omega);unfold addK;split
  ·next hlt=>
   refine ⟨ih.1,fun j h1 h2=>?_⟩;rcases Nat.lt_or_ge j k with h3 | h3
   ·exact ih.2 j h1 h3
   ·rw [show j=k by omega]; exact hlt
  ·next hge=>
   refine ⟨fun j hj=>?_,fun j h1 h2=>by omega⟩;have:=h.le j k (by omega) (by omega);omega
theorem addK_eq {l:List DoneM} (h:Asc l) {t:Int} {p:Nat} (hp:p≤l.length) (h1:∀j,j<p→(l.getD j doneZ).thr<t) (h2:∀j,p≤j→j<l.length→t≤(l.getD j doneZ).thr) (hn:∀x∈l,x.thr≠t):addK l t l.length=p:=by
 have hs:=addK_spec h t l.length (Nat.le_refl _);have hle:=addK_le l t l.length;rcases Nat.lt_trichotomy (addK l t l.length) p with hlt | heq | hgt
 ·have a:=hs.2 _ (Nat.le_refl _) (by omega)
  have b:=h1 _ hlt;omega
 ·exact heq
 ·have a:=hs.1 p hgt
  have b:=h2 p (Nat.le_refl _) (by omega);have c:=hn l[p] (List.getElem_mem _);rw [getD_lt (by omega)] at a b;omega
theorem addE_asc {l:List DoneM} (h:Asc l) {t:Int} (r:ResM) (hn:∀x∈l,x.thr≠t):Asc (addE l t r):=by
 have hs:=addK_spec h t l.length (Nat.le_refl _);have hle:=addK_le l t l.length;have hT:∀x∈l.take (addK l t l.length),x.thr<t:=fun x hx=>by
  obtain ⟨j,hj,rfl⟩:=List.mem_iff_getElem.1 hx;rw [List.length_take] at hj;have a:=hs.1 j (by omega);have b:=hn l[j] (List.getElem_mem _);rw [getD_lt (by omega)] at a;rw [List.getElem_take];omega
 have hD:∀x∈l.drop (addK l t l.length),t<x.thr:=fun x hx=>by
  obtain ⟨j,hj,rfl⟩:=List.mem_iff_getElem.1 hx;rw [List.length_drop] at hj;have a:=hs.2 (addK l t l.length+j) (by omega) (by omega);rw [getD_lt (by omega)] at a;rw [List.getElem_drop];exact a
 unfold addE Asc;rw [List.pairwise_append,List.pairwise_append];refine ⟨⟨List.Pairwise.sublist (List.take_sublist _ _) h,List.pairwise_singleton _ _,fun x hx y hy=>?_⟩,List.Pairwise.sublist (List.drop_sublist _ _) h,fun x hx y hy=>?_⟩
 ·rw [List.mem_singleton.1 hy]; exact hT x hx
 ·rcases List.mem_append.1 hx with hx | hx
  ·exact Int.lt_trans (hT x hx) (hD y hy)
  ·rw [List.mem_singleton.1 hx]; exact hD y hy
theorem addE_mem {l:List DoneM} {t:Int} {r:ResM} {x:DoneM} (h:x∈addE l t r):x=⟨t,r⟩∨x∈l:=by
 unfold addE at h;rcases List.mem_append.1 h with h | h
 ·rcases List.mem_append.1 h with h | h
  ·exact .inr (List.mem_of_mem_take h)
  ·exact .inl (List.mem_singleton.1 h)
 ·exact .inr (List.mem_of_mem_drop h)
theorem ins_any (base vb i:Nat) (v:Value) (rows:List (List Value)) (r:List Value) (w:World) (ho:OwnS w base 75 6 v rows) (hi:i≤rows.length) (hr:r.length=6) (hr1:∀u∈r,u.oneCell'=true) (hvb:w.heap[vb]?=some (.cells r.toArray 75 (0,0))) (hne:v.ownBlock≠some vb) (hsm:rows.length≤100000) (hbw:base≤w.heap.size) :
  Calls Try.prog 79 #[v,.int .i64 (i:Int),.slice (some ⟨vb,0,none⟩) 1 1] w fun e w'=>∃v',e=.returned v'∧OwnS w' base 75 6 v' (rows.take i ++ [r] ++ rows.drop i)∧w.grownBy w' v.ownBlock:=by
 rcases Nat.lt_or_eq_of_le hi with hlt | rfl
 ·obtain ⟨g,c,rfl,h1,h2,h3⟩:=ho.open (by omega)
  by_cases hroom:rows.length+1≤c
  ·exact insRoom_any base g vb c i rows r w ho hlt hr hr1 hvb (fun e=>hne (by rw [e]; rfl)) hroom
  ·exact insGrow_any base g vb c i rows r w ho hlt hr hr1 hvb hroom hbw hsm
 ·rw [List.take_length,List.drop_length,List.append_nil]
  exact insEnd_any base v _ rows [r] w ho (SlS.row1 hvb hr hr1) hsm (by simp) (by simp) hbw
set_option maxRecDepth 100000 in
set_option maxHeartbeats 16000000 in
theorem with_any (base:Nat) (v:Value) (l:List DoneM) (t:Int) (r:ResM) (w:World) (ho:OwnS w base 75 6 v (doneRows l)) (hl:l.length≤10000) (hs:Asc l) (hnt:∀x∈l,x.thr≠t) (hb:base≤w.heap.size):Calls Try.prog 50 #[v,.int .i64 t,resW r] w fun e w'=>∃v',e=.returned v'∧OwnS w' base 75 6 v' (doneRows (addE l t r))∧w.grownBy w' v.ownBlock:=by
 have HO:=Lib.hid ho;have hll:=doneRows_length l;obtain ⟨a,c,rfl⟩:=ho.len;rw [hll];rw [hll] at HO;have TB:=Lib.hid fun w' (hb:Below w.heap.size w w')=>bsF_any (.slice a l.length c) l t w' ((HO.out.below hb).sls (by rw [hll]; omega)) (by omega) (fun i j=>hs.le i j);have HOL0:=ho.lt;rw [hll] at HOL0;have HOL:=Lib.hid HOL0;clear HOL0;have TI:=Lib.hid fun w' vb i r2 (hb2:Below w.heap.size w w') (hi:i≤l.length) h2 h3 h4 (h5:w.heap.size≤vb)=>ins_any base vb i (.slice a l.length c) (doneRows l) r2 w' (HO.out.below hb2) (by rw [hll]; exact hi) h2 h3 h4 (fun e=>by have:=(HOL.out vb e).2; omega) (by rw [hll]; omega) (Nat.le_trans hb hb2.size);obtain ⟨k1,k2,k3,k4,k5⟩:=r;unfold resW;dsimp only;obtain ⟨TQ,hTQ⟩:∃z:Ending→World→Prop,(fun e w'=>∃v',e=.returned v'∧OwnS w' base 75 6 v' (doneRows (addE l t ⟨k1,k2,k3,k4,k5⟩))∧w.grownBy w' (Value.slice a l.length c).ownBlock)=z:=⟨_,rfl⟩;have HT:Hid (∀w1 w2 v' (i:Nat),i≤l.length→(∀j,j<i→(l.getD j doneZ).thr<t)→(∀j,i≤j→j<l.length→t≤(l.getD j doneZ).thr)→Below w.heap.size w w1→w1.grownBy w2 (Value.slice a l.length c).ownBlock→OwnS w2 base 75 6 v' ((doneRows l).take i ++ [[.int .i64 t,.int .i64 k1,.int .i64 k2,.int .u64 k3,.bool k4,.int .i64 k5]] ++ (doneRows l).drop i)→TQ (.returned v') w2):=fun w1 w2 v' i hi h1 h2 h3 h4 h5=>by rw [← hTQ]; exact ⟨_,rfl,by rw [addE_rows,addK_eq hs hi h1 h2 hnt]; exact h5,grownBy_trans (grown_belowD h3) h4⟩
 rw [hTQ];obtain ⟨n,hn⟩:∃z,l.length=z:=⟨_,rfl⟩;have HN:=Lib.hid hn;rw [hn] at TB TI hl ⊢;rw [hn] at HT;clear ho hs hnt hb hn hll hTQ HO HOL;obtain ⟨W,hW,HB,R0,hz⟩:=one_new w (.cells #[.int .i64 k1,.int .i64 k2,.int .u64 k3,.bool k4,.int .i64 k5] 73);have HW:=Lib.hid hW;clear hW;go_enter Try.func50,Try.ntmps50;go_upto_region 1 with fail
 rw [HW.out];clear HW;obtain ⟨x0_0,x0_1,x0_2,x0_3,x0_4⟩:=rowc5s R0.out;go_wp2_with fail;refine (TB.out _ HB.out).mono ?_;rintro e w1 ⟨i,f,rfl,hi,hi1,hi2,hb1⟩;rw [HN.out] at hi;have HI1:=Lib.hid hi1;have HI2:=Lib.hid hi2;have R1:=Lib.hid (row_below3 hb1 R0.out);have HB1:=Lib.hid (below_then HB.out hb1);clear x0_0 x0_1 x0_2 x0_3 x0_4 TB hi1 hi2 hb1;obtain ⟨x0,x1,x2,x3,x4⟩:=rowc5s R1.out;have hbn:Below w1.heap.size w1 (w1.alloc (.cells #[.int .i64 t,.int .i64 k1,.int .i64 k2,.int .u64 k3,.bool k4,.int .i64 k5] 75)):=below_new (Below.refl _ _) _;have HBn:=Lib.hid (below_then HB1.out hbn);have HVB:Hid ((w1.alloc (.cells #[.int .i64 t,.int .i64 k1,.int .i64 k2,.int .u64 k3,.bool k4,.int .i64 k5] 75)).heap[w1.heap.size]?=some (.cells #[.int .i64 t,.int .i64 k1,.int .i64 k2,.int .u64 k3,.bool k4,.int .i64 k5] 75 (0,0))):=heap_alloc_new _ _;have hws:w.heap.size≤w1.heap.size:=HB1.out.size;clear hbn;go_wp2_with fail;refine (TI.out _ _ i [.int .i64 t,.int .i64 k1,.int .i64 k2,.int .u64 k3,.bool k4,.int .i64 k5] HBn.out hi rfl (by intro u hu; simp only [List.mem_cons,List.not_mem_nil,or_false] at hu; rcases hu with rfl | rfl | rfl | rfl | rfl | rfl <;> rfl) HVB.out hws).mono ?_;rintro e w2 ⟨v',rfl,ho2,hg2⟩;have HF:=Lib.hid (HT.out _ _ _ i hi HI1.out (fun j h1 h2=>HI2.out j h1 (by rw [HN.out]; exact h2)) HBn.out hg2 ho2);clear HT ho2 hg2;go_wp2_with fail;exact HF.out
theorem addE_nil (t:Int) (r:ResM):addE [] t r=[⟨t,r⟩]:=rfl
theorem below_none {a b:World} (h:a.grownBy b none):Below a.heap.size a b:=⟨h.os,h.tape,h.output,h.size,fun j hj=>h.block j hj (by simp)⟩
theorem with0_any (t:Int) (r:ResM) (w:World):Calls Try.prog 50 #[.slice none 0 0,.int .i64 t,resW r] w fun e w'=>∃g c,e=.returned (.slice (some ⟨g,0,none⟩) 1 c)∧w.heap.size≤g∧g<w'.heap.size∧OwnS w' w.heap.size 75 6 (.slice (some ⟨g,0,none⟩) 1 c) (doneRows [⟨t,r⟩])∧Below w.heap.size w w':=by
 refine (with_any w.heap.size (.slice none 0 0) [] t r w (OwnS.nil _ _ _ _) (by simp) Asc.nil (by simp) (Nat.le_refl _)).mono ?_;rintro e w' ⟨v',rfl,ho,hg⟩;rw [addE_nil] at ho;obtain ⟨g,c,rfl,h1,h2,-⟩:=ho.open (by simp [doneRows]);exact ⟨g,c,rfl,h1,h2,ho,below_none hg⟩
end Go.Proofs.Ytiekicailidhcaa
