import Derived.Deep.DeepCutAuto
import Derived.Deep.CutBlock
import Derived.Deep.LoopGhost
import Derived.Laws.AppendOwnNone
import Derived.Deep.RegionHeld3
import Derived.Deep.RegionLaw
import Derived.Test.YtfbdehcibgdagaaRows
import Derived.Deep.QuietTactic
import Derived.BigQuiet
import Derived.Test.YtfbdehcibgdagaaB03
import Derived.Test.YtfbdehcibgdagaaB01
set_option linter.unusedVariables false
set_option linter.unusedSimpArgs false
namespace Go.Proofs.Ytfbdehcibgdagaa
open Go.ChangeShapes Go.WideShapes Go.ChangeAt Go.RowKit Go.WideMaps
set_option maxRecDepth 100000
open Go.Maps (Keyed)
theorem allI_succ (l:List ItemM) (a k:Nat):allI l a (k+1)=allI l a k ++ (partT l a k).map fun n:Nat=>(n:Int):=by
 unfold allI allT;rw [List.range_succ,List.flatMap_append,List.map_append];simp
theorem partT_drop {l:List ItemM} {a th k:Nat} {L:List Nat} (hL:grpN l l.length (placeE (l.getD a noItem)) (th:Int) (!changesE (l.getD a noItem))=L) (hk:k≤L.length) (h1:∀j,j<k→L.getD j 0<a) (h2:∀j,k≤j→j<L.length→a≤L.getD j 0):partT l a th=(L.drop k).filter (hitB l a):=by
 unfold partT;rw [hL];exact drop_filter hk h1 h2 _
theorem drop_thr {l:List ItemM} {i k:Nat} {p t:Int} {c:Bool} {L:List Nat} (hL:grpN l i p t c=L):(L.drop k).Pairwise (·<·)∧(∀b∈L.drop k,b<i)∧∀b∈L.drop k,∀d∈L.drop k,(l.getD b noItem).thr=(l.getD d noItem).thr:=by
 subst hL;refine ⟨List.Pairwise.sublist (List.drop_sublist ..) (grpN_asc ..),fun b hb=>(grpN_mem.1 (List.mem_of_mem_drop hb)).1,fun b hb d hd=>?_⟩;rw [grpN_thr (List.mem_of_mem_drop hb),grpN_thr (List.mem_of_mem_drop hd)]
theorem take_snoc {L:List Nat} {j:Nat} (hj:j<L.length):L.take (j+1)=L.take j ++ [L.getD j 0]:=by
 rw [List.take_add_one,List.getD_eq_getElem?_getD,List.getElem?_eq_getElem hj];rfl
theorem getD_memN {L:List Nat} {j:Nat} (hj:j<L.length):L.getD j 0∈L:=by
 rw [List.getD_eq_getElem?_getD,List.getElem?_eq_getElem hj];exact List.getElem_mem _
theorem OwnI.ltK {w:World} {base:Nat} {e:TypeId} {k:IntKind} {v:Value} {l:List Int} (h:OwnI w base e k v l):∀g,v.ownBlock=some g→base≤g:=fun g hg=>(World.ownsRow.lt h g hg).1
theorem allI_len (l:List ItemM) (a k:Nat):(allI l a k).length≤k * l.length:=by
 unfold allI allT;rw [List.length_map];induction k with
 | zero=>simp
 | succ k ih=>
  rw [List.range_succ,List.flatMap_append,List.length_append,Nat.succ_mul];have:((List.range l.length).filter fun n=>inG (l.getD n noItem) (placeE (l.getD a noItem)) (k:Int) (!changesE (l.getD a noItem))).length≤(List.range l.length).length:=List.length_filter_le ..;have h2:(partT l a k).length≤l.length:=by
   unfold partT;refine Nat.le_trans (List.length_filter_le ..) ?_;unfold grpN;simpa using this
  simp only [List.flatMap_cons,List.flatMap_nil,List.append_nil];omega
theorem OwnI.belowK {w w':World} {base:Nat} {e:TypeId} {k:IntKind} {v:Value} {l:List Int} (h:OwnI w base e k v l) (hb:Below w.heap.size w w'):OwnI w' base e k v l:=OwnI.below h hb
theorem OwnI.lenK {w:World} {base:Nat} {e:TypeId} {k:IntKind} {v:Value} {l:List Int} (h:OwnI w base e k v l):∃p c,v=.slice p l.length c:=by
 rcases h.2 with ⟨rfl,h2⟩ | ⟨g,cap,cur,rfl,-⟩
 ·have:l=[]:=by simpa using h2
  subst this;exact ⟨_,_,rfl⟩
 ·exact ⟨_,_,rfl⟩
theorem sort_anyK (base:Nat) (v:Value) (l:List Int) (w:World) (h:OwnI w base 3 .i64 v l) (hl:l.length≤1000000):Calls Try.prog 42 #[v] w fun e w'=>e=.returned (.tuple #[])∧OwnI w' base 3 .i64 v (sorted l)∧w.grownBy w' v.ownBlock:=by
 rcases h.2 with ⟨rfl,h2⟩ | ⟨g,cap,cur,rfl,-⟩
 ·have:l=[]:=by simpa using h2
  subst this;refine (Go.Proofs.Try.slices_Sort_int_none none 0 w).mono ?_;rintro e w' ⟨rfl,rfl⟩;have e:sorted []=[]:=by simp [sorted]
  exact ⟨rfl,by rw [e]; exact h,grownBy_refl _ _⟩
 ·exact (sort_own base g cap l w h hl).mono fun e w' ⟨h1,h2,h3⟩=>⟨h1,h2,h3⟩
set_option maxRecDepth 100000 in
set_option maxHeartbeats 16000000 in
theorem part_any (l:List ItemM) (a:Nat) (v u:Value) (f:Lit→Value) (m:Nat) (w0 w:World) (hv:SlT w v l) (hth:∀x∈l,0≤x.thr∧x.thr<8) (hl:l.length≤100000) (hu:SlS w 8 u (ckR (clkAt l) l.length)) (hG:GrI w0 w m (grpN l l.length) f) (ha:a<l.length):Calls Try.prog 32 #[v,u,.map (some w0.heap.size),.int .i64 (a:Int)] w fun e w'=>∃r,e=.returned r∧OwnI w' w.heap.size 3 .i64 r (tgtI l a)∧Below w.heap.size w w':=by
 have hsort:=sort_all hth a;have HSORT:Hid (sorted (allI l a 8)=tgtI l a):=hsort;have TOR:=Lib.hid fun b w' (hb:Below w.heap.size w w') (hbn:b<l.length)=>ordered_any l (clkAt l) l.length a b v u w' (hv.below hb) hth (hu.below hb) ha ha hbn;have HGD:=Lib.hid hv.2.1;have HGG:=Lib.hid hG;have HV:=Lib.hid hv;obtain ⟨x,hx⟩:∃x,l.getD a noItem=x:=⟨_,rfl⟩;have hxm:x∈l:=by
  rw [← hx,List.getD_eq_getElem?_getD,List.getElem?_eq_getElem ha];exact List.getElem_mem _
 obtain ⟨bl,ol,cl,rfl,hcl,hbl,kl⟩:=hv.atK (by omega);have KL:=Lib.hid kl;obtain ⟨uu,cu,rfl,-⟩:=hu.len;rw [ckR_length] at TOR ⊢;have HGX:=Lib.hid (HGD.out x hxm);have HX:=Lib.hid hx;have TPL:=Lib.hid fun w'=>place_any x w' HGX.out;have TCH:=Lib.hid fun w'=>changes_any x w';have TCF:=Lib.hid fun y w' (hy:y.good)=>conflict_any x y w' HGX.out hy;have HPW:=Lib.hid (placeE_wf HGX.out);obtain ⟨pl,hpl⟩:∃z,placeE x=z:=⟨_,rfl⟩;obtain ⟨ch,hch⟩:∃z,changesE x=z:=⟨_,rfl⟩;have HPL:=Lib.hid hpl;have HCH:=Lib.hid hch;rw [hpl] at TPL HPW;rw [hch] at TCH;obtain ⟨n,hn⟩:∃n,l.length=n:=⟨_,rfl⟩;have HN:=Lib.hid hn;rw [hn] at hl ha TOR ⊢;obtain ⟨ta,⟨ak,ad,ao,an,at_⟩,vl,ok⟩:=x;have hbase:w.heap.size≤w.heap.size:=Nat.le_refl _;clear hv hth hu hG hx hxm kl hpl hch hn hsort;unfold itemV at TPL TCH TCF;dsimp only at TPL TCH TCF;have haI:(a:Int)<(n:Int):=by omega
 go_enter Try.func32,Try.ntmps32;go_wp2_with fail;go_loopw [9,16] (fun u9 u16 wr=>∃(th:Nat) (p:Option Addr) (q r:Nat),u16=.int .i64 (th:Int)∧th≤8∧u9=.slice p q r∧Hid (Below w.heap.size w wr)∧Hid (OwnI wr w.heap.size 3 .i64 (.slice p q r) (allI l a th))) (fun _ u16 _=>8 - (intOf u16).toNat)
 case atStart=>exact ⟨0,none,0,0,rfl,by omega,rfl,Below.refl _ _,OwnI.nil _ _ _ _⟩
 case round=>
  obtain ⟨th,p,q,r,rfl,hth,rfl,HB,HO⟩:=hrel;obtain ⟨wo,rfl⟩:∃wo:World,wo=wr:=⟨_,rfl⟩;by_cases hlt:th<8
  ·have hltI:(th:Int)<8:=by omega
   obtain ⟨nch,hnch⟩:∃z,(!ch)=z:=⟨_,rfl⟩;have HTW:I64 (th:Int):=wf_i64w (by rw [IntKind.wrap_i64]; omega);obtain ⟨L,hL⟩:∃L,grpN l n pl (th:Int) nch=L:=⟨_,rfl⟩;obtain ⟨vL,hvL⟩:∃z,f (gK pl (th:Int) nch)=z:=⟨_,rfl⟩;have HOL:=Lib.hid (HGG.out.own pl (th:Int) nch HPW.out HTW);rw [HN.out,hL,hvL] at HOL;have HLL:Hid (grpN l l.length (placeE (l.getD a noItem)) (th:Int) (!changesE (l.getD a noItem))=L):=by
    show _=_;rw [HX.out,HPL.out,HCH.out,hnch,HN.out];exact hL
   have HNCH:=Lib.hid hnch;have hLn:L.length≤100000:=by
    rw [← hL];have:=grpLen l n pl (th:Int) nch;omega
   have KS:Hid (∀w',Below wo.heap.size wo w'→(fun w':World=>(w'.cell? ⟨bl,ol+a * 8,none⟩=some (.int .i64 ta)∧w'.cell? ⟨bl,ol+a * 8+1,none⟩=some (.int .i64 ak)∧w'.cell? ⟨bl,ol+a * 8+2,none⟩=some (.int .i64 ad)∧w'.cell? ⟨bl,ol+a * 8+3,none⟩=some (.int .u64 ao)∧w'.cell? ⟨bl,ol+a * 8+4,none⟩=some (.int .u64 an)∧w'.cell? ⟨bl,ol+a * 8+5,none⟩=some (.int .i64 at_)∧w'.cell? ⟨bl,ol+a * 8+6,none⟩=some (.int .u64 vl)∧w'.cell? ⟨bl,ol+a * 8+7,none⟩=some (.bool ok))∧(Instr.lookup 64 (.map (some w0.heap.size)) (.agg #[.int .i64 pl,.int .i64 (th:Int),.bool nch]) false).run Try.prog w'=.ok vL w') w'):=fun w' hb=>by
    have hw:=below_then HB.out hb;refine ⟨KL.out a w' (by rw [HN.out]; exact ha) hw _ HX.out,?_⟩;have h9:=(HGG.out.below hw).map.look Try.keyGr Try.underlying64 (by kernel_rfl) (keyOf_gr (p:=pl) (t:=(th:Int)) (c:=nch) HPW.out HTW);rw [hvL] at h9;exact h9
   have HSL:=Lib.hid (HOL.out.sls (by rw [nRows_length]; omega));have HVL:=Lib.hid hvL;clear hL hvL hnch;go_upto_region 5 with fail
   go_cut [11] (fun s11 wx=>s11=vL∧Hid (Below wo.heap.size wo wx))
   case first=>
    rw [← HNCH.out] at KS;refine untilK KS 14 16 (by kernel_rfl) rfl ?_;obtain ⟨u0,hu0,hU0⟩:=drew_pack wo;rw [hu0];clear hu0;have HU0:=Lib.hid hU0.out;clear hU0;have hSU0:=KS.out _ HU0.out;apply tkV 0 hSU0 rfl (by kernel_rfl) (fun _ _ _ h=>h) rfl;intro w hSw;(go_simp<;>with_reducible rfl);simp only [J0,J1,J2,J3,J4];apply tkW 1 (fun _=>hSU0) rfl (by kernel_rfl) (fun _ _ _ h=>h) rfl;intro w;(go_simp<;>with_reducible rfl);simp only [J0,J1,J2,J3,J4];apply tkW 2 (fun _=>hSU0) rfl (by kernel_rfl) (fun _ _ _ h=>h) rfl;intro w;(go_simp<;>with_reducible rfl);simp only [J0,J1,J2,J3,J4];apply tkW 3 (fun _=>hSU0) rfl (by kernel_rfl) (fun _ _ _ h=>h) rfl;intro w;(go_simp<;>with_reducible rfl);simp only [J0,J1,J2,J3,J4];apply tkW 6 (fun _=>hSU0) rfl (by kernel_rfl) (fun _ _ _ h=>h) rfl;intro w;(go_simp<;>with_reducible rfl);simp only [J0,J1,J2,J3,J4];apply tkW 7 (fun _=>hSU0) rfl (by kernel_rfl) (fun _ _ _ h=>h) rfl;intro w;(go_simp<;>with_reducible rfl);simp only [J0,J1,J2,J3,J4];apply tkW 8 (fun _=>hSU0) rfl (by kernel_rfl) (fun _ _ _ h=>h) rfl;intro w;(go_simp<;>with_reducible rfl);simp only [J0,J1,J2,J3,J4];apply tkW 9 (fun _=>hSU0) rfl (by kernel_rfl) (fun _ _ _ h=>h) rfl;intro w;(go_simp<;>with_reducible rfl);simp only [J0,J1,J2,J3,J4];refine wpAnyU_ready (rs:=[4,10]) (by kernel_rfl) rfl ?_;refine AllReadyU.cons la4 rfl (fun K hK=>?_) ?_
    ·go_simp
     refine hK.out _ _ ?_ fun hSU1=>?_;exact hSU0;clear hK K hSU0;(try simp only [J0,J1,J2,J3,J4]);refine wpAnyU_ready (rs:=[5,10]) (by kernel_rfl) rfl ?_;refine AllReadyU.cons la5 rfl (fun K hK=>?_) ?_
     ·go_simp
      go_at_call 38;refine (TPL.out u0).mono ?_;rintro e u1 ⟨rfl,hbp⟩;have HU1:=Lib.hid (below_then HU0.out hbp);clear hbp;refine hK.out _ _ ?_ fun hSU2=>?_;exact KS.out _ HU1.out;clear hK K hSU1;(try simp only [J0,J1,J2,J3,J4]);refine consU 10 rfl (by kernel_rfl) rfl fun K hK=>?_;go_simp;refine hK.out _ _ ?_ fun hSU3=>?_;exact hSU2;clear hK K hSU2;(try simp only [J0,J1,J2,J3,J4]);refine consU 11 rfl (by kernel_rfl) rfl fun K hK=>?_;go_simp;go_at_call 39;refine (TCH.out u1).mono ?_;rintro e u2 ⟨rfl,hbp⟩;have HU2:=Lib.hid (below_then HU1.out hbp);clear hbp;refine hK.out _ _ ?_ fun hSU4=>?_;exact KS.out _ HU2.out;clear hK K hSU3;(try simp only [J0,J1,J2,J3,J4]);apply tkW 12 (fun _=>hSU4) rfl (by kernel_rfl) (fun _ _ _ h=>h) rfl;intro w;(go_simp<;>with_reducible rfl);simp only [J0,J1,J2,J3,J4];apply tkV 13 hSU4 rfl (by kernel_rfl) (fun _ _ _ h=>h) rfl;intro w hSw;(go_simp<;>with_reducible rfl);simp only [J0,J1,J2,J3,J4];refine freeU 14 rfl (by kernel_rfl) rfl (by kernel_rfl) fun K hK=>?_;have hlk:=(KS.out _ HU2.out).2;go_simp;clear hlk;refine hK.out _ _ ?_;clear hK K hSU4;(try simp only [J0,J1,J2,J3,J4]);apply tkW 15 (past_k (by kernel_rfl)) rfl (by kernel_rfl) (fun _ _ _ h=>h) rfl;intro w;(go_simp<;>with_reducible rfl);simp only [J0,J1,J2,J3,J4];refine wpAnyU_done (by kernel_rfl) ?_ _;go_wp2_with fail;go_meet;exact ⟨rfl,HU2⟩
     refine AllReadyU.cons la10 rfl (fun K hK=>?_) ?_
     ·go_simp
      refine hK.out _ _ ?_ fun hSU5=>?_;exact hSU1;clear hK K hSU1;(try simp only [J0,J1,J2,J3,J4]);refine consU 5 rfl (by kernel_rfl) rfl fun K hK=>?_;go_simp;go_at_call 38;refine (TPL.out u0).mono ?_;rintro e u1 ⟨rfl,hbp⟩;have HU1:=Lib.hid (below_then HU0.out hbp);clear hbp;refine hK.out _ _ ?_ fun hSU6=>?_;exact KS.out _ HU1.out;clear hK K hSU5;(try simp only [J0,J1,J2,J3,J4]);refine consU 11 rfl (by kernel_rfl) rfl fun K hK=>?_;go_simp;go_at_call 39;refine (TCH.out u1).mono ?_;rintro e u2 ⟨rfl,hbp⟩;have HU2:=Lib.hid (below_then HU1.out hbp);clear hbp;refine hK.out _ _ ?_ fun hSU7=>?_;exact KS.out _ HU2.out;clear hK K hSU6;(try simp only [J0,J1,J2,J3,J4]);apply tkW 12 (fun _=>hSU7) rfl (by kernel_rfl) (fun _ _ _ h=>h) rfl;intro w;(go_simp<;>with_reducible rfl);simp only [J0,J1,J2,J3,J4];apply tkV 13 hSU7 rfl (by kernel_rfl) (fun _ _ _ h=>h) rfl;intro w hSw;(go_simp<;>with_reducible rfl);simp only [J0,J1,J2,J3,J4];refine freeU 14 rfl (by kernel_rfl) rfl (by kernel_rfl) fun K hK=>?_;have hlk:=(KS.out _ HU2.out).2;go_simp;clear hlk;refine hK.out _ _ ?_;clear hK K hSU7;(try simp only [J0,J1,J2,J3,J4]);apply tkW 15 (past_k (by kernel_rfl)) rfl (by kernel_rfl) (fun _ _ _ h=>h) rfl;intro w;(go_simp<;>with_reducible rfl);simp only [J0,J1,J2,J3,J4];refine wpAnyU_done (by kernel_rfl) ?_ _;go_wp2_with fail;go_meet;exact ⟨rfl,HU2⟩
     exact AllReadyU.nil
    refine AllReadyU.cons la10 rfl (fun K hK=>?_) ?_
    ·go_simp
     refine hK.out _ _ ?_ fun hSU8=>?_;exact hSU0;clear hK K hSU0;(try simp only [J0,J1,J2,J3,J4]);refine consU 4 rfl (by kernel_rfl) rfl fun K hK=>?_;go_simp;refine hK.out _ _ ?_ fun hSU9=>?_;exact hSU8;clear hK K hSU8;(try simp only [J0,J1,J2,J3,J4]);refine consU 5 rfl (by kernel_rfl) rfl fun K hK=>?_;go_simp;go_at_call 38;refine (TPL.out u0).mono ?_;rintro e u1 ⟨rfl,hbp⟩;have HU1:=Lib.hid (below_then HU0.out hbp);clear hbp;refine hK.out _ _ ?_ fun hSU10=>?_;exact KS.out _ HU1.out;clear hK K hSU9;(try simp only [J0,J1,J2,J3,J4]);refine consU 11 rfl (by kernel_rfl) rfl fun K hK=>?_;go_simp;go_at_call 39;refine (TCH.out u1).mono ?_;rintro e u2 ⟨rfl,hbp⟩;have HU2:=Lib.hid (below_then HU1.out hbp);clear hbp;refine hK.out _ _ ?_ fun hSU11=>?_;exact KS.out _ HU2.out;clear hK K hSU10;(try simp only [J0,J1,J2,J3,J4]);apply tkW 12 (fun _=>hSU11) rfl (by kernel_rfl) (fun _ _ _ h=>h) rfl;intro w;(go_simp<;>with_reducible rfl);simp only [J0,J1,J2,J3,J4];apply tkV 13 hSU11 rfl (by kernel_rfl) (fun _ _ _ h=>h) rfl;intro w hSw;(go_simp<;>with_reducible rfl);simp only [J0,J1,J2,J3,J4];refine freeU 14 rfl (by kernel_rfl) rfl (by kernel_rfl) fun K hK=>?_;have hlk:=(KS.out _ HU2.out).2;go_simp;clear hlk;refine hK.out _ _ ?_;clear hK K hSU11;(try simp only [J0,J1,J2,J3,J4]);apply tkW 15 (past_k (by kernel_rfl)) rfl (by kernel_rfl) (fun _ _ _ h=>h) rfl;intro w;(go_simp<;>with_reducible rfl);simp only [J0,J1,J2,J3,J4];refine wpAnyU_done (by kernel_rfl) ?_ _;go_wp2_with fail;go_meet;exact ⟨rfl,HU2⟩
    exact AllReadyU.nil
   obtain ⟨hs11,HBx⟩:=hcut;subst hs11;obtain ⟨wx,rfl⟩:∃wx:World,wx=wc:=⟨_,rfl⟩;clear KS;have HBw:=Lib.hid (below_then HB.out HBx.out);have HSx:=Lib.hid (HSL.out.below HBw.out);have HOx:Hid (OwnI wx w.heap.size 3 .i64 (.slice p q r) (allI l a th)):=HO.out.below HBx.out;have TBS:=Lib.hid (bs_any u11 L a wx HSx.out (by omega) (fun i j h1 h2=>asc_get (by rw [← HLL.out]; exact grpN_asc ..) i j h1 h2));clear HB HBx HO;go_wp2_with fail;refine TBS.out.mono ?_; rintro e w6 ⟨k,fl,rfl,hkL,hk1,hk2,hb6⟩;have HB6:=Lib.hid (below_then HBw.out hb6);have HS6:=Lib.hid (HSx.out.below hb6);have HO6:Hid (OwnI w6 w.heap.size 3 .i64 (.slice p q r) (allI l a th)):=HOx.out.below hb6;have HPT:=Lib.hid (partT_drop HLL.out hkL hk1 hk2);have HDT:=Lib.hid (drop_thr (k:=k) HLL.out);have hkLI:(k:Int)≤(L.length:Int):=by omega
   have hk0:(0:Int)≤(k:Int):=by omega
   clear hb6 hk1 hk2 TBS HSx HOx HBw HVL;go_upto_region 7 with fail
   go_cut [42,43,44] (fun s42 s43 s44 wx=>∃(px:Option Addr) (cx:Nat),s42=.slice px (L.length - k) cx∧s43=.int .i64 ((L.length - k:Nat):Int)∧s44=.int .i64 0∧Hid (SlS w 1 (.slice px (L.length - k) cx) (nRows (L.drop k)))∧Hid (Below w.heap.size w wx)∧Hid (OwnI wx w.heap.size 3 .i64 (.slice p q r) (allI l a th)))
   case first=>
    have hsh:=HOL.out.shape;rw [nRows_length] at hsh;rcases hsh with ⟨hv0,hl0⟩ | ⟨gL,cL,hvL,-,-,hcL⟩
    ·subst hv0
     have hL0:L=[]:=by
      have:(nRows L).length=0:=by rw [hl0]; rfl
      rw [nRows_length] at this;exact List.eq_nil_of_length_eq_zero this
     subst hL0;have hk9:k=0:=by simpa using hkL
     subst hk9;have HS7:Hid (SlS w 1 (.slice none 0 0) (nRows (([]:List Nat).drop 0))):=HSL.out;go_wp2_with fail;go_meet;exact ⟨none,0,rfl,rfl,rfl,HS7,HB6,HO6⟩
    ·subst hvL
     have hkc:k≤cL:=by omega
     have hnd:(nRows L).drop k=nRows (L.drop k):=by simp [nRows]
     by_cases hck:cL=k
     ·have HS7:=Lib.hid (HSL.out.drop k (by rw [nRows_length]; exact hkL) (p:=some ⟨gL,0,none⟩) (by rw [if_pos hck]))
      rw [hnd] at HS7;subst hck;rw [Nat.sub_self] at HS7;have hz:L.length - cL=0:=by omega
      rw [hz] at HS7;clear hnd;go_wp2_with fail;go_meet;rw [hz];exact ⟨some ⟨gL,0,none⟩,0,rfl,rfl,rfl,HS7,HB6,HO6⟩
     ·have HS7:=Lib.hid (HSL.out.drop k (by rw [nRows_length]; exact hkL) (p:=some ⟨gL,k,none⟩) (by rw [if_neg hck]; simp))
      rw [hnd] at HS7;clear hnd;go_wp2_with fail;go_meet;exact ⟨some ⟨gL,k,none⟩,cL - k,rfl,rfl,rfl,HS7,HB6,HO6⟩
   obtain ⟨px,cx,rfl,rfl,rfl,HS7,HB7,HO7⟩:=hcut;obtain ⟨w7,rfl⟩:∃w7:World,w7=wc:=⟨_,rfl⟩;obtain ⟨D,hD⟩:∃D,L.drop k=D:=⟨_,rfl⟩;have hDl:L.length - k=D.length:=by rw [← hD,List.length_drop]
   rw [hD] at HS7 HPT HDT;rw [hDl] at HS7 ⊢;have hDn:D.length≤100000:=by omega
   clear hD hDl HS6 HB6 HO6 HOL hkL hkLI hk0;go_wp2_with fail;go_loopw [9,44] (fun u9 u44 wr=>∃(j:Nat) (p:Option Addr) (q r:Nat),u44=.int .i64 (j:Int)∧j≤D.length∧u9=.slice p q r∧Hid (Below w.heap.size w wr)∧Hid (OwnI wr w.heap.size 3 .i64 (.slice p q r) (allI l a th ++ ((D.take j).filter (hitB l a)).map fun n:Nat=>(n:Int)))) (fun _ u44 _=>D.length - (intOf u44).toNat)
   case atStart=>exact ⟨0,p,q,r,rfl,by omega,rfl,HB7,by simpa using HO7⟩
   case round=>
    clear HB7 HO7;obtain ⟨j,p9,q9,r9,rfl,hj,rfl,HBj,HOj⟩:=hrel;obtain ⟨wj,rfl⟩:∃wj:World,wj=wr:=⟨_,rfl⟩;by_cases hjl:j<D.length
    ·have hjI:(j:Int)<(D.length:Int):=by omega
     obtain ⟨b,hb⟩:∃b,D.getD j 0=b:=⟨_,rfl⟩;have hbl2:b<n:=by
      have h1:=HDT.out.2.1 _ (getD_memN hjl);rw [hb,HN.out] at h1;exact h1
     have hbI:(b:Int)<(n:Int):=by omega
     have HBD:=Lib.hid hb;obtain ⟨b5,o5,c5,hve,-,hb5,kc⟩:=nRows_at HS7.out (by omega);simp only [Value.slice.injEq] at hve;obtain ⟨hv1,-,hv3⟩:=hve;subst hv1;subst hv3;have c0:=kc j wj hjl HBj.out;rw [hb] at c0;have TO:Hid (Calls Try.prog 29 #[.slice (some ⟨bl,ol,none⟩) n cl,.slice uu n cu,.int .i64 (a:Int),.int .i64 (b:Int)] wj fun e w'=>e=.returned (.bool (ordB l a b))∧Below wj.heap.size wj w'):=TOR.out b wj HBj.out hbl2;obtain ⟨ob,hob⟩:∃z,ordB l a b=z:=⟨_,rfl⟩;rw [hob] at TO;have HOB:=Lib.hid hob;clear kc hb hob;go_wp2_with fail;refine TO.out.mono ?_; rintro e w8 ⟨rfl,hb8⟩;have HB8:=Lib.hid (below_then HBj.out hb8);have HO8:=Lib.hid (OwnI.belowK HOj.out hb8);clear hb8 c0 TO HOj HBj;cases ob with
     | true=>
      have HPS:=Lib.hid (stop_filter (l:=l) (a:=a) HDT.out.1 HDT.out.2.1 HDT.out.2.2 hjl (by rw [HBD.out]; exact HOB.out));go_wp2_with fail;go_roundw
      case rel=>
       refine ⟨th+1,p9,q9,r9,by go_num,by omega,rfl,HB8,?_⟩;rw [allI_succ,HPT.out,HPS.out];exact HO8
      case measure=>simp [intOf]; omega
     | false=>
      obtain ⟨y,hy⟩:∃y,l.getD b noItem=y:=⟨_,rfl⟩;have hym:y∈l:=by
       rw [← hy,List.getD_eq_getElem?_getD,List.getElem?_eq_getElem (by rw [HN.out]; exact hbl2)];exact List.getElem_mem _
      have TC1:=Lib.hid fun w'=>TCF.out y w' (HGD.out y hym);obtain ⟨d0,d1,d2,d3,d4,d5,d6,d7⟩:=KL.out a w8 (by rw [HN.out]; exact ha) HB8.out _ HX.out;obtain ⟨e0,e1,e2,e3,e4,e5,e6,e7⟩:=KL.out b w8 (by rw [HN.out]; exact hbl2) HB8.out y hy;obtain ⟨cf,hcf⟩:∃z,conflictE ⟨ta,⟨ak,ad,ao,an,at_⟩,vl,ok⟩ y=z:=⟨_,rfl⟩;rw [hcf] at TC1;have HHB:Hid (hitB l a b=cf):=by
       show _=_;unfold hitB;rw [HX.out,hy,hcf,HOB.out];simp
      obtain ⟨tb,⟨bk,bd,bo,bn,bt⟩,bv,bok⟩:=y;dsimp only at TC1 d0 d1 d2 d3 d4 d5 d6 d7 e0 e1 e2 e3 e4 e5 e6 e7;have hbl8:bl<w8.heap.size:=by have:=HB8.out.size; omega
      clear hy hym hcf;go_upto_region 11 with fail
      have Xd0:=ext_cell bl (ol+a * 8) hbl8 _ d0;have Xd1:=ext_cell bl (ol+a * 8+1) hbl8 _ d1;have Xd2:=ext_cell bl (ol+a * 8+2) hbl8 _ d2;have Xd3:=ext_cell bl (ol+a * 8+3) hbl8 _ d3;have Xd4:=ext_cell bl (ol+a * 8+4) hbl8 _ d4;have Xd5:=ext_cell bl (ol+a * 8+5) hbl8 _ d5;have Xd6:=ext_cell bl (ol+a * 8+6) hbl8 _ d6;have Xd7:=ext_cell bl (ol+a * 8+7) hbl8 _ d7;have Xe0:=ext_cell bl (ol+b * 8) hbl8 _ e0;have Xe1:=ext_cell bl (ol+b * 8+1) hbl8 _ e1;have Xe2:=ext_cell bl (ol+b * 8+2) hbl8 _ e2;have Xe3:=ext_cell bl (ol+b * 8+3) hbl8 _ e3;have Xe4:=ext_cell bl (ol+b * 8+4) hbl8 _ e4;have Xe5:=ext_cell bl (ol+b * 8+5) hbl8 _ e5;have Xe6:=ext_cell bl (ol+b * 8+6) hbl8 _ e6;have Xe7:=ext_cell bl (ol+b * 8+7) hbl8 _ e7;clear d0 d1 d2 d3 d4 d5 d6 d7 e0 e1 e2 e3 e4 e5 e6 e7;refine wp_region_ext w8 (by kernel_rfl) (by kernel_rfl) (Below.refl _ _) ?_
      repeat (go_big_quiet_step (first | (go_at_call 41; with_reducible exact calls_ext (TC1.out _))))
      refine wpQuiet_nil ?_;intro _ hw';obtain ⟨n9,rfl⟩:=hw';have HB9:=Lib.hid (below_then HB8.out n9.below);have HO9:=Lib.hid (OwnI.belowK HO8.out n9.below);generalize n9.wd=w9 at *;clear TC1 Xd0 Xd1 Xd2 Xd3 Xd4 Xd5 Xd6 Xd7 Xe0 Xe1 Xe2 Xe3 Xe4 Xe5 Xe6 Xe7 HB8 HO8;cases cf with
      | false=>
       go_wp2_with fail;go_roundw
       case rel=>
        refine ⟨j+1,p9,q9,r9,by go_num,by omega,rfl,HB9,?_⟩;rw [take_snoc hjl,List.filter_append,HBD.out];have e:[b].filter (hitB l a)=[]:=by simp [HHB.out]
        rw [e,List.append_nil];exact HO9
       case measure=>simp [intOf]; omega
      | true=>
       obtain ⟨Wl,hWl⟩:∃Wl,w9.alloc (.cells #[.int .i64 (b:Int)] 3)=Wl:=⟨_,rfl⟩;have HBl:Hid (Below w9.heap.size w9 Wl):=hWl▸below_new (Below.refl _ _) _;have Rl:Hid (Wl.heap[w9.heap.size]?=some (.cells #[.int .i64 (b:Int)] 3 (0,0))):=hWl▸heap_alloc_new _ _;have HWl:=Lib.hid hWl;have HOl:=Lib.hid (OwnI.belowK HO9.out HBl.out);have hszl:w.heap.size≤Wl.heap.size:=by have:=HB9.out.size; have:=HBl.out.size; omega
       have hlen:(allI l a th ++ ((D.take j).filter (hitB l a)).map fun n:Nat=>(n:Int)).length≤1000000:=by
        have h1:=allI_len l a th;rw [HN.out] at h1;have h2:th * n≤7 * 100000:=Nat.mul_le_mul (by omega) (by omega);have h3:=List.length_filter_le (hitB l a) (D.take j);rw [List.length_take] at h3;rw [List.length_append,List.length_map];omega
       clear hWl;go_wp2_with (first | (rw [HWl.out]) | refine wp_append_i64 _ rfl _ _ rfl w.heap.size _ _ (by rfl) HOl.out (b:Int) w9.heap.size (by rfl) (cell_of_row _ _ 0 _ _ _ Rl.out) hlen hszl ?_);intro v5 w5 ho5 hg5;have HO5:=Lib.hid ho5;have hlt5:∀k,(Value.slice p9 q9 r9).ownBlock=some k→w.heap.size≤k:=fun k hk=>HOl.out.ltK k hk;have HB5:Hid (Below w.heap.size w w5):=(below_then HB9.out HBl.out).grown hg5 hszl hlt5;obtain ⟨p5,q5,rfl⟩:=ho5.lenK;obtain ⟨m5,hm5⟩:∃z,(allI l a th ++ (((D.take j).filter (hitB l a)).map (fun n:Nat=>(n:Int)) ++ [(b:Int)])).length=z:=⟨_,rfl⟩;rw [hm5] at HO5 ⊢;clear ho5 hg5 HOl HO9 HB9 hlen hm5;go_wp2_with fail;go_roundw
       case rel=>
        refine ⟨j+1,p5,m5,q5,by go_num,by omega,rfl,HB5,?_⟩;rw [take_snoc hjl,List.filter_append,HBD.out];have e:[b].filter (hitB l a)=[b]:=by simp [HHB.out]
        rw [e,List.map_append];exact HO5
       case measure=>simp [intOf]; omega
    ·have hge:¬(j:Int)<(D.length:Int):=by omega
     have hjd:j=D.length:=by omega
     go_wp2_with fail;go_roundw
     case rel=>
      refine ⟨th+1,p9,q9,r9,by go_num,by omega,rfl,HBj,?_⟩;rw [allI_succ,HPT.out];have h9:=HOj.out;rw [hjd,List.take_length] at h9;exact h9
     case measure=>simp [intOf]; omega
  ·have hge:¬(th:Int)<8:=by omega
   have h8:th=8:=by omega
   subst h8;have hall:(allI l a 8).length=q:=by
    obtain ⟨p9,c9,h9⟩:=HO.out.lenK;simp only [Value.slice.injEq] at h9;omega
   have TS:=Lib.hid (sort_anyK w.heap.size _ (allI l a 8) wo HO.out (by have:=allI_len l a 8; have:=HN.out; omega));rw [HSORT.out] at TS;clear hall;go_wp2_with fail;refine TS.out.mono ?_; rintro e w9 ⟨rfl,ho9,hg9⟩;have HO9:=Lib.hid ho9;have HB9:Hid (Below w.heap.size w w9):=HB.out.grown hg9 HB.out.size (fun k hk=>(HO.out.ltK k hk));clear ho9 hg9 TS;go_wp2;go_ret;exact ⟨_,rfl,HO9.out,HB9.out⟩
open Go.ChangeShapes Go.WideShapes Go.ChangeAt Go.RowKit Go.WideMaps
open Go.Maps (Keyed)
theorem Try.info_pr2:(Try.prog.info? 63).map (fun i=>(i.zero,i.size,i.bytes))=some (some (.agg #[.int .i64 0,.int .i64 0]),2,16):=by kernel_rfl
def racesP (l:List ItemM) (a:Nat):List (Nat × Nat):=(List.range a).flatMap fun x=>(tgt l x).map fun b=>(x,b)
def prL (c:Nat × Nat):List Value:=[.int .i64 (c.1:Int),.int .i64 (c.2:Int)]
def prRows (l:List (Nat × Nat)):List (List Value):=l.map prL
theorem racesP_succ (l:List ItemM) (a:Nat):racesP l (a+1)=racesP l a ++ (tgt l a).map fun b=>(a,b):=by
 unfold racesP;rw [List.range_succ,List.flatMap_append];simp
theorem prRows_length (l:List (Nat × Nat)):(prRows l).length=l.length:=by simp [prRows]
theorem tgt_len (l:List ItemM) (a:Nat):(tgt l a).length≤l.length:=by
 unfold tgt;have:=List.length_filter_le (fun b=>decide (a<b) && hitB l a b) (List.range l.length);rwa [List.length_range] at this
theorem racesP_len (l:List ItemM) (a:Nat):(racesP l a).length≤a * l.length:=by
 induction a with
 | zero=>simp [racesP]
 | succ a ih=>
  rw [racesP_succ,List.length_append,List.length_map,Nat.succ_mul];have:=tgt_len l a;omega
theorem ownI_apart {w:World} {b1 b2 s:Nat} {e1 e2:TypeId} {k:IntKind} {v v2:Value} {l:List Int} {rows:List (List Value)} (h:OwnI w b1 e1 k v l) (h2:OwnS w b2 e2 s v2 rows) (he:e1≠e2):v.ownBlock=none∨v.ownBlock≠v2.ownBlock:=by
 rcases h.2 with ⟨rfl,_⟩ | ⟨g,cap,cur,rfl,_,hg,_⟩
 ·exact .inl rfl
 ·rcases h2.2.2 with ⟨rfl,_⟩ | ⟨g',cap',cur',rfl,_,hg',_⟩
  ·exact .inr (by simp [Value.ownBlock])
  ·refine .inr ?_
   simp only [Value.ownBlock,ne_eq,Option.some.injEq];intro e;rw [e,hg'] at hg;simp at hg;exact he hg.2.symm
theorem tgtI_get {l:List ItemM} {a j:Nat} (hj:j<(tgt l a).length):(tgtI l a).getD j 0=((tgt l a).getD j 0:Nat):=by
 unfold tgtI;rw [List.getD_eq_getElem?_getD,List.getElem?_map,List.getD_eq_getElem?_getD,List.getElem?_eq_getElem hj];rfl
theorem tgtI_len (l:List ItemM) (a:Nat):(tgtI l a).length=(tgt l a).length:=by simp [tgtI]
theorem OwnS.base {w:World} {b1 b2 s:Nat} {e:TypeId} {v:Value} {rows:List (List Value)} (h:OwnS w b1 e s v rows) (hb:b2≤b1):OwnS w b2 e s v rows:=by
 refine ⟨h.1,h.2.1,?_⟩;rcases h.2.2 with h2 | ⟨g,cap,cur,h3,h4,h5⟩
 ·exact .inl h2
 ·exact .inr ⟨g,cap,cur,h3,Nat.le_trans hb h4,h5⟩
theorem tgtI_wrap {l:List ItemM} (hl:l.length≤100000) (a:Nat):∀x∈tgtI l a,x=IntKind.i64.wrap x:=fun x hx=>by
 unfold tgtI at hx;obtain ⟨b,hb,rfl⟩:=List.mem_map.1 hx;unfold tgt at hb;have:=List.mem_range.1 (List.mem_filter.1 hb).1;rw [IntKind.wrap_i64];omega
theorem SlI.cellAtK {w:World} {k:IntKind} {a:Option Addr} {n cap:Nat} {l:List Int} (h:SlI w k (.slice a n cap) l) (t:Nat) (ht:t<l.length) :
  ∃b off,a=some ⟨b,off,none⟩∧b<w.heap.size∧w.cell? ⟨b,off+t,none⟩=some (.int k (l.getD t 0)):=by
 obtain ⟨_,_,a',cap',e,_,h5⟩:=h;simp only [Value.slice.injEq] at e;obtain ⟨rfl,-,-⟩:=e;exact h5 t ht
set_option maxRecDepth 100000 in
set_option maxHeartbeats 16000000 in
theorem races_any (l:List ItemM) (n:Int) (v:Value) (w:World) (hv:SlT w v l) (hn:1≤n∧n≤8) (hth:∀x∈l,0≤x.thr∧x.thr<n) (hl:l.length≤900):Calls Try.prog 18 #[v,.int .i64 n] w fun e w'=>∃r,e=.returned r∧OwnS w' w.heap.size 63 2 r (prRows (racesP l l.length))∧Below w.heap.size w w':=by
 have TE:=Lib.hid (expected_any l n v w hv hn hth);have hth8:∀x∈l,0≤x.thr∧x.thr<8:=fun x hx=>by have:=hth x hx; omega
 have TCK:=Lib.hid fun w' (hb:Below w.heap.size w w')=>clocks_any l v w' (hv.below hb) hth8 (by omega);have TGR:=Lib.hid fun w' (hb:Below w.heap.size w w')=>groups_any l v w' (hv.below hb) (by omega);have TPA:=Lib.hid fun a u f m w0 w' (hb:Below w.heap.size w w') (hu:SlS w' 8 u (ckR (clkAt l) l.length)) (hG:GrI w0 w' m (grpN l l.length) f) (ha:a<l.length)=>part_any l a v u f m w0 w' (hv.below hb) hth8 (by omega) hu hG ha;obtain ⟨va,cap,rfl,hcap⟩:=hv.len;obtain ⟨m,hm⟩:∃m,l.length=m:=⟨_,rfl⟩;have HM:=Lib.hid hm;rw [hm] at TE TCK TGR TPA hl ⊢;clear hv hth hth8 hm hn;go_enter Try.func18,Try.ntmps18;go_wp2_with fail;refine TE.out.mono ?_; rintro e w1 ⟨rfl,hb1⟩;have HB1:=Lib.hid hb1;clear hb1 TE;go_wp2_with fail;refine (TCK.out w1 HB1.out).mono ?_; rintro e w2 ⟨u,rfl,hu,hb2⟩;have HB2:=Lib.hid (below_then HB1.out hb2);have HU:=Lib.hid (hu.sls (by rw [clkRows_length]; omega));rw [show clkRows l m=ckR (clkAt l) m from rfl] at HU;obtain ⟨uu,cu,rfl⟩:=hu.len;rw [clkRows_length] at HU ⊢;clear hb2 hu TCK;go_wp2_with fail;refine (TGR.out w2 HB2.out).mono ?_; rintro e w3 ⟨rfl,f,hG⟩;have HG:=Lib.hid hG;have HB3:=Lib.hid (below_then HB2.out hG.bw);have HU3:=Lib.hid (HU.out.below hG.bw);clear hG TGR HB1 HB2 HU;go_wp2_with fail;go_loopw [7,21] (fun u7 u21 wr=>∃(a:Nat) (p:Option Addr) (q r:Nat),u21=.int .i64 (a:Int)∧a≤m∧u7=.slice p q r∧Hid (Below w3.heap.size w3 wr)∧Hid (OwnS wr w3.heap.size 63 2 (.slice p q r) (prRows (racesP l a)))) (fun _ u21 _=>m - (intOf u21).toNat)
 case atStart=>exact ⟨0,none,0,0,rfl,by omega,rfl,Below.refl _ _,OwnS.nil _ _ _ _⟩
 case round=>
  obtain ⟨a,p,q,r,rfl,ha,rfl,HB,HO⟩:=hrel;obtain ⟨wo,rfl⟩:∃wo:World,wo=wr:=⟨_,rfl⟩;by_cases hlt:a<m
  ·have hltI:(a:Int)<(m:Int):=by omega
   have TP:=Lib.hid (TPA.out a _ f _ w2 wo (below_then HB3.out HB.out) (HU3.out.below HB.out) (HG.out.below HB.out) hlt);go_wp2_with fail;refine TP.out.mono ?_; rintro e w4 ⟨r4,rfl,ho4,hb4⟩;have HB4:=Lib.hid (below_then HB.out hb4);have HO4:=Lib.hid (HO.out.below hb4);have HT4:=Lib.hid ho4;obtain ⟨p4,c4,rfl⟩:=ho4.lenK;rw [tgtI_len] at HT4 ⊢;clear ho4 hb4 TP HO HB;obtain ⟨n4,hn4⟩:∃z,(tgt l a).length=z:=⟨_,rfl⟩;have HN4:=Lib.hid hn4;rw [hn4] at HT4 ⊢;have hn4m:n4≤900:=by have:=tgt_len l a; have:=HM.out; omega
   clear hn4;go_wp2_with fail;go_loopw [7,30] (fun u7 u30 wr=>∃(j:Nat) (p:Option Addr) (q r:Nat),u30=.int .i64 (j:Int)∧j≤n4∧u7=.slice p q r∧Hid (Below w3.heap.size w3 wr)∧Hid (OwnS wr w3.heap.size 63 2 (.slice p q r) (prRows (racesP l a ++ ((tgt l a).take j).map fun b=>(a,b))))∧Hid (OwnI wr wo.heap.size 3 .i64 (.slice p4 n4 c4) (tgtI l a))) (fun _ u30 _=>n4 - (intOf u30).toNat)
   case atStart=>exact ⟨0,p,q,r,rfl,by omega,rfl,HB4,by simpa using HO4,HT4⟩
   case round=>
    clear HB4 HO4 HT4;obtain ⟨j,p5,q5,r5,rfl,hj,rfl,HBj,HOj,HTj⟩:=hrel;obtain ⟨wj,rfl⟩:∃wj:World,wj=wr:=⟨_,rfl⟩;by_cases hjl:j<n4
    ·have hjI:(j:Int)<(n4:Int):=by omega
     have hjt:j<(tgt l a).length:=by have:=HN4.out; omega
     obtain ⟨b,hb⟩:∃b,(tgt l a).getD j 0=b:=⟨_,rfl⟩;have HBD:=Lib.hid hb;obtain ⟨RJ,hRJ⟩:∃z,prRows (racesP l a ++ ((tgt l a).take j).map fun b=>(a,b))=z:=⟨_,rfl⟩;have HRJ:=Lib.hid hRJ;have hlen:RJ.length+1≤1000001:=by
      rw [← hRJ,prRows_length,List.length_append,List.length_map,List.length_take];have h1:=racesP_len l a;rw [HM.out] at h1;have h2:a * m≤900 * 900:=Nat.mul_le_mul (by omega) (by omega);omega
     rw [hRJ] at HOj;clear hRJ;have hcl:=SlI.cellAtK (OwnI.read HTj.out (by rw [tgtI_len]; have:=HN4.out; omega) (tgtI_wrap (by have:=HM.out; omega) a)) j (by rw [tgtI_len]; exact hjt);obtain ⟨b2,o2,hv2,hlt2,c0⟩:=hcl;rw [tgtI_get hjt,hb] at c0;subst hv2;clear hb;obtain ⟨Wl,hWl⟩:∃Wl,wj.alloc (.cells #[.int .i64 (a:Int),.int .i64 (b:Int)] 63)=Wl:=⟨_,rfl⟩;have HBl:Hid (Below wj.heap.size wj Wl):=hWl▸below_new (Below.refl _ _) _;have Rl:Hid (Wl.heap[wj.heap.size]?=some (.cells #[.int .i64 (a:Int),.int .i64 (b:Int)] 63 (0,0))):=hWl▸heap_alloc_new _ _;have HWl:=Lib.hid hWl;have HOl:=Lib.hid (HOj.out.below HBl.out);have HTl:=Lib.hid (OwnI.belowK HTj.out HBl.out);have HBl2:=Lib.hid (below_then HBj.out HBl.out);have hszl:w3.heap.size≤Wl.heap.size:=HBl2.out.size;clear hWl;go_wp2_with (first | (rw [HWl.out]) | refine wp_append_ss 40 (by kernel_rfl) Try.info_pr2 rfl (by decide) (by decide) rfl _ _ rfl (by rfl) HOl.out [prL (a,b)] (fun r hr=>by rw [List.mem_singleton.1 hr]; exact ⟨rfl,by simp [prL,Value.oneCell']⟩) wj.heap.size 1 rfl (by rfl) Rl.out hlen hszl ?_);intro v6 w6 ho6 hg6;have HO6:=Lib.hid ho6;have hlt6:∀k,(Value.slice p5 q5 r5).ownBlock=some k→w3.heap.size≤k:=fun k hk=>(HOl.out.lt k hk).1;have HB6:Hid (Below w3.heap.size w3 w6):=HBl2.out.grown hg6 hszl hlt6;have HT6:Hid (OwnI w6 wo.heap.size 3 .i64 (.slice (some ⟨b2,o2,none⟩) n4 c4) (tgtI l a)):=World.ownsRow.kept HTl.out hg6 (ownI_apart HTl.out HOl.out (by decide));obtain ⟨p6,q6,rfl⟩:=ho6.len;obtain ⟨m6,hm6⟩:∃z,(RJ ++ [prL (a,b)]).length=z:=⟨_,rfl⟩;rw [hm6] at HO6 ⊢;clear ho6 hg6 HOl HTl HBl2 hlen hm6 HOj HTj HBj c0;go_wp2_with fail;go_roundw
     case rel=>
      refine ⟨j+1,p6,m6,q6,by go_num,by omega,rfl,HB6,?_,HT6⟩;rw [take_snoc hjt,HBD.out,List.map_append,← List.append_assoc];have e:prRows (racesP l a ++ ((tgt l a).take j).map (fun b=>(a,b)) ++ [b].map fun b=>(a,b))=prRows (racesP l a ++ ((tgt l a).take j).map fun b=>(a,b)) ++ [prL (a,b)]:=by simp [prRows]
      rw [e,HRJ.out];exact HO6
     case measure=>simp [intOf]; omega
    ·have hge:¬(j:Int)<(n4:Int):=by omega
     have hjd:j=n4:=by omega
     go_wp2_with fail;go_roundw
     case rel=>
      refine ⟨a+1,p5,q5,r5,by go_num,by omega,rfl,HBj,?_⟩;have h9:=HOj.out;rw [hjd,← HN4.out,List.take_length,← racesP_succ] at h9;exact h9
     case measure=>simp [intOf]; omega
  ·have hge:¬(a:Int)<(m:Int):=by omega
   have ham:a=m:=by omega
   subst ham;have hsz:=HB3.out.size;have HBF:=Lib.hid (below_then HB3.out HB.out);go_wp2;go_ret;exact ⟨_,rfl,HO.out.base (by omega),HBF.out⟩
def awL:List ItemM:=[⟨0,⟨6,0,0,0,0⟩,0,false⟩,⟨0,⟨2,1,0,1,0⟩,0,false⟩,⟨1,⟨1,1,0,0,0⟩,1,false⟩,⟨1,⟨5,0,0,0,0⟩,0,false⟩]
def awM:List ItemM:=[⟨0,⟨6,0,0,0,0⟩,0,false⟩,⟨1,⟨5,0,0,0,0⟩,0,false⟩]
theorem awL_races:(racesP awL 4).length=0:=by decide +kernel
theorem awM_races:(racesP awM 2).length=1:=by decide +kernel
theorem awL_good:∀x∈awL,x.good:=by
 intro x hx;simp only [awL,List.mem_cons,List.not_mem_nil,or_false] at hx;rcases hx with rfl | rfl | rfl | rfl <;> exact ⟨by decide,⟨by decide,by decide,by decide,by decide,by decide⟩,by decide⟩
theorem awM_good:∀x∈awM,x.good:=by
 intro x hx;simp only [awM,List.mem_cons,List.not_mem_nil,or_false] at hx;rcases hx with rfl | rfl <;> exact ⟨by decide,⟨by decide,by decide,by decide,by decide,by decide⟩,by decide⟩
theorem awL_thr:∀x∈awL,0≤x.thr∧x.thr<2:=by decide
theorem awM_thr:∀x∈awM,0≤x.thr∧x.thr<2:=by decide
theorem SlT.lit {w:World} {g:Nat} {l:List ItemM} (h:w.heap[g]?=some (.cells (l.flatMap itemCells).toArray 30 (0,0))) (hl:l.length≤1000) (hg:∀x∈l,x.good):SlT w (.slice (some ⟨g,0,none⟩) l.length l.length) l:=by
 refine OwnT.read (base:=0) ⟨by rw [flatT_length],.inr ⟨g,l.length,_,rfl,Nat.zero_le _,h,Nat.le_refl _,by unfold maxLen; omega,?_,?_⟩⟩ (by omega) hg
 ·rw [List.size_toArray,flatT_length]
 ·rw [← flatT_length,List.take_length]
set_option maxRecDepth 100000 in
set_option maxHeartbeats 16000000 in
theorem awakeH_any (w:World):Calls Try.prog 9 #[] w fun e w'=>e=.returned (.bool true)∧Below w.heap.size w w':=by
 obtain ⟨W,hW⟩:∃W,w.alloc (.cells #[.int .i64 0,.int .i64 6,.int .i64 0,.int .u64 0,.int .u64 0,.int .i64 0,.int .u64 0,.bool false,.int .i64 0,.int .i64 2,.int .i64 1,.int .u64 0,.int .u64 1,.int .i64 0,.int .u64 0,.bool false,.int .i64 1,.int .i64 1,.int .i64 1,.int .u64 0,.int .u64 0,.int .i64 0,.int .u64 1,.bool false,.int .i64 1,.int .i64 5,.int .i64 0,.int .u64 0,.int .u64 0,.int .i64 0,.int .u64 0,.bool false] 30)=W:=⟨_,rfl⟩;have HB:Hid (Below w.heap.size w W):=hW▸below_new (Below.refl _ _) _;have RL:Hid (W.heap[w.heap.size]?=some (.cells #[.int .i64 0,.int .i64 6,.int .i64 0,.int .u64 0,.int .u64 0,.int .i64 0,.int .u64 0,.bool false,.int .i64 0,.int .i64 2,.int .i64 1,.int .u64 0,.int .u64 1,.int .i64 0,.int .u64 0,.bool false,.int .i64 1,.int .i64 1,.int .i64 1,.int .u64 0,.int .u64 0,.int .i64 0,.int .u64 1,.bool false,.int .i64 1,.int .i64 5,.int .i64 0,.int .u64 0,.int .u64 0,.int .i64 0,.int .u64 0,.bool false] 30 (0,0))):=hW▸heap_alloc_new _ _;have HW:=Lib.hid hW;have KS:Hid (∀w',Below W.heap.size W w'→(fun w':World=>w'.cell? ⟨w.heap.size,0,none⟩=some (.int .i64 0)∧w'.cell? ⟨w.heap.size,1,none⟩=some (.int .i64 6)∧w'.cell? ⟨w.heap.size,2,none⟩=some (.int .i64 0)∧w'.cell? ⟨w.heap.size,3,none⟩=some (.int .u64 0)∧w'.cell? ⟨w.heap.size,4,none⟩=some (.int .u64 0)∧w'.cell? ⟨w.heap.size,5,none⟩=some (.int .i64 0)∧w'.cell? ⟨w.heap.size,6,none⟩=some (.int .u64 0)∧w'.cell? ⟨w.heap.size,7,none⟩=some (.bool false)∧w'.cell? ⟨w.heap.size,24,none⟩=some (.int .i64 1)∧w'.cell? ⟨w.heap.size,25,none⟩=some (.int .i64 5)∧w'.cell? ⟨w.heap.size,26,none⟩=some (.int .i64 0)∧w'.cell? ⟨w.heap.size,27,none⟩=some (.int .u64 0)∧w'.cell? ⟨w.heap.size,28,none⟩=some (.int .u64 0)∧w'.cell? ⟨w.heap.size,29,none⟩=some (.int .i64 0)∧w'.cell? ⟨w.heap.size,30,none⟩=some (.int .u64 0)∧w'.cell? ⟨w.heap.size,31,none⟩=some (.bool false)) w'):=fun w' hb=>by
  have h:=row_below3k hb RL.out;have hc:∀j u,(#[.int .i64 0,.int .i64 6,.int .i64 0,.int .u64 0,.int .u64 0,.int .i64 0,.int .u64 0,.bool false,.int .i64 0,.int .i64 2,.int .i64 1,.int .u64 0,.int .u64 1,.int .i64 0,.int .u64 0,.bool false,.int .i64 1,.int .i64 1,.int .i64 1,.int .u64 0,.int .u64 0,.int .i64 0,.int .u64 1,.bool false,.int .i64 1,.int .i64 5,.int .i64 0,.int .u64 0,.int .u64 0,.int .i64 0,.int .u64 0,.bool false]:Array Value)[j]?=some u→w'.cell? ⟨w.heap.size,j,none⟩=some u:=fun j u hj=>(cell_of_row _ _ j _ _ _ h).trans hj;exact ⟨hc 0 _ rfl,hc 1 _ rfl,hc 2 _ rfl,hc 3 _ rfl,hc 4 _ rfl,hc 5 _ rfl,hc 6 _ rfl,hc 7 _ rfl,hc 24 _ rfl,hc 25 _ rfl,hc 26 _ rfl,hc 27 _ rfl,hc 28 _ rfl,hc 29 _ rfl,hc 30 _ rfl,hc 31 _ rfl⟩
 clear hW;go_enter Try.func9,Try.ntmps9;go_upto_region 2 with fail
 rw [HW.out];clear HW;refine untilK KS 6 8 (by kernel_rfl) rfl ?_;obtain ⟨u0,hu0,hU0⟩:=drew_pack W;rw [hu0];clear hu0;have HU0:=Lib.hid hU0.out;clear hU0;have hSU0:=KS.out _ HU0.out;apply tkW 0 (fun _=>hSU0) rfl (by kernel_rfl) (fun _ _ _ h=>h) rfl;intro w;(go_simp<;>with_reducible rfl);simp only [J0,J1,J2,J3,J4];apply tkW 1 (fun _=>hSU0) rfl (by kernel_rfl) (fun _ _ _ h=>h) rfl;intro w;(go_simp<;>with_reducible rfl);simp only [J0,J1,J2,J3,J4];apply tkV 2 hSU0 rfl (by kernel_rfl) (fun _ _ _ h=>h) rfl;intro w hSw;(go_simp<;>with_reducible rfl);simp only [J0,J1,J2,J3,J4];apply tkW 3 (fun _=>hSU0) rfl (by kernel_rfl) (fun _ _ _ h=>h) rfl;intro w;(go_simp<;>with_reducible rfl);simp only [J0,J1,J2,J3,J4];apply tkW 4 (fun _=>hSU0) rfl (by kernel_rfl) (fun _ _ _ h=>h) rfl;intro w;(go_simp<;>with_reducible rfl);simp only [J0,J1,J2,J3,J4];apply tkV 5 hSU0 rfl (by kernel_rfl) (fun _ _ _ h=>h) rfl;intro w hSw;(go_simp<;>with_reducible rfl);simp only [J0,J1,J2,J3,J4];refine freeU 6 rfl (by kernel_rfl) rfl (by kernel_rfl) fun K hK=>?_;go_simp;refine hK.out _ _ ?_;clear hK K hSU0;(try simp only [J0,J1,J2,J3,J4]);apply tkW 7 (past_k (by kernel_rfl)) rfl (by kernel_rfl) (fun _ _ _ h=>h) rfl;intro w;(go_simp<;>with_reducible rfl);simp only [J0,J1,J2,J3,J4];refine wpAnyU_done (by kernel_rfl) ?_ _;have HW2:Hid (Below u0.heap.size u0 (u0.alloc (.cells #[.int .i64 0,.int .i64 6,.int .i64 0,.int .u64 0,.int .u64 0,.int .i64 0,.int .u64 0,.bool false,.int .i64 1,.int .i64 5,.int .i64 0,.int .u64 0,.int .u64 0,.int .i64 0,.int .u64 0,.bool false] 30))):=below_new (Below.refl _ _) _;have RM:Hid ((u0.alloc (.cells #[.int .i64 0,.int .i64 6,.int .i64 0,.int .u64 0,.int .u64 0,.int .i64 0,.int .u64 0,.bool false,.int .i64 1,.int .i64 5,.int .i64 0,.int .u64 0,.int .u64 0,.int .i64 0,.int .u64 0,.bool false] 30)).heap[u0.heap.size]?=some (.cells #[.int .i64 0,.int .i64 6,.int .i64 0,.int .u64 0,.int .u64 0,.int .i64 0,.int .u64 0,.bool false,.int .i64 1,.int .i64 5,.int .i64 0,.int .u64 0,.int .u64 0,.int .i64 0,.int .u64 0,.bool false] 30 (0,0))):=heap_alloc_new _ _
 obtain ⟨w2,hw2⟩:∃z,u0.alloc (.cells #[.int .i64 0,.int .i64 6,.int .i64 0,.int .u64 0,.int .u64 0,.int .i64 0,.int .u64 0,.bool false,.int .i64 1,.int .i64 5,.int .i64 0,.int .u64 0,.int .u64 0,.int .i64 0,.int .u64 0,.bool false] 30)=z:=⟨_,rfl⟩;rw [hw2] at HW2 RM;try rw [hw2]
 have HB2:=Lib.hid (below_then HB.out (below_then HU0.out HW2.out));have TRL:=Lib.hid (races_any awL 2 (.slice (some ⟨w.heap.size,0,none⟩) 4 4) w2 ((SlT.lit (l:=awL) RL.out (by decide) awL_good).below (below_then HU0.out HW2.out)) ⟨by decide,by decide⟩ awL_thr (by decide));have TRM:=Lib.hid fun w' (hb:Below w2.heap.size w2 w')=>races_any awM 2 (.slice (some ⟨u0.heap.size,0,none⟩) 2 2) w' ((SlT.lit (l:=awM) RM.out (by decide) awM_good).below hb) ⟨by decide,by decide⟩ awM_thr (by decide);clear hw2 HW2 RM;go_wp2_with fail;refine TRL.out.mono ?_; rintro e w3 ⟨r3,rfl,ho3,hb3⟩;obtain ⟨p3,c3,rfl⟩:=ho3.len;have e3:(prRows (racesP awL awL.length)).length=0:=by rw [prRows_length]; exact awL_races
 rw [e3];have HB3:=Lib.hid (below_then HB2.out hb3);have TM2:=Lib.hid (TRM.out w3 hb3);clear ho3 hb3 e3 TRL TRM;go_wp2_with fail;refine TM2.out.mono ?_; rintro e w4 ⟨r4,rfl,ho4,hb4⟩;obtain ⟨p4,c4,rfl⟩:=ho4.len;have e4:(prRows (racesP awM awM.length)).length=1:=by rw [prRows_length]; exact awM_races
 rw [e4];have HB4:=Lib.hid (below_then HB3.out hb4);clear ho4 hb4 e4 TM2;go_wp2;go_ret;exact ⟨rfl,HB4.out⟩
def CodesE (w:World) (g:Nat):Prop:=∃r val,CodesAt w g r val
theorem CodesE.lt {w:World} {g:Nat} (h:CodesE w g):g<w.heap.size:=by obtain ⟨r,val,h⟩:=h; exact h.lt
theorem CodesE.kept {w w':World} {g B:Nat} (h:CodesE w g) (hB:g<B) (hb:Below B w w'):CodesE w' g:=by
 obtain ⟨r,val,h⟩:=h; exact ⟨r,val,h.kept hB hb⟩
theorem nextE (g:Nat) (n:Int) (w:World) (h:CodesE w g) (h1:1≤n) (h2:n≤256) :
  Calls Try.prog 22 #[.pointer (some ⟨g,0,none⟩),.int .i64 n] w fun e w'=>∃x:Int,e=.returned (.int .i64 x)∧0≤x∧x<n∧CodesE w' g∧w.grownBy w' (some g):=by
 obtain ⟨r,val,h⟩:=h;refine (next_any g r val n w h h1 h2).mono ?_;rintro e w' ⟨rfl,hc,hg⟩;have:=nxt_bd r n h1;exact ⟨_,rfl,this.1,this.2,⟨_,_,hc⟩,hg⟩
def Off (a b:Nat) (w0:World):World→Prop:=fun w=>w0.heap.size≤w.heap.size∧∀j,j<w0.heap.size→j≠a→j≠b→w.heap[j]?=w0.heap[j]?
theorem Off.trans {a b:Nat} {w0 w1 w2:World} (h:Off a b w0 w1) (h2:Off a b w1 w2):Off a b w0 w2:=
 ⟨Nat.le_trans h.1 h2.1,fun j hj ha hb=>(h2.2 j (Nat.lt_of_lt_of_le hj h.1) ha hb).trans (h.2 j hj ha hb)⟩
theorem Off.below {a b:Nat} {w w':World} (h:Below w.heap.size w w'):Off a b w w':=⟨h.size,fun j hj _ _=>h.block j hj⟩
theorem Off.grown {a b:Nat} {w w':World} (h:w.grownBy w' (some a)):Off a b w w':=⟨h.size,fun j hj ha _=>h.block j hj (by simp; omega)⟩
theorem Off.setRow {a b:Nat} (w:World) (cs:Array Value):Off a b w (w.setRow b cs):=⟨by simp [World.setRow],fun j _ _ hb=>setRow_other w b j cs hb⟩
theorem Off.setCell {a b:Nat} (w:World) (o:Nat) (u:Value):Off a b w (w.setCell ⟨b,o,none⟩ u):=⟨by simp,fun j _ _ hb=>heap_setCell_other w ⟨b,o,none⟩ j u hb⟩
theorem OwnI.stays {a b:Nat} {w:World} {base:Nat} {e:TypeId} {k:IntKind} {v:Value} {l:List Int} (h:OwnI w base e k v l) (h1:a<base) (h2:b<base) (hl:l.length≤140737488351232) (hw:∀x∈l,x=k.wrap x):StI (Off a b w) k v l:=by
 intro w2 ho;have h3:OwnI w2 base e k v l:=by
  refine ⟨h.1,?_⟩;rcases h.2 with h4 | ⟨g,cap,cur,h4,h5,h6,h7⟩
  ·exact .inl h4
  ·exact .inr ⟨g,cap,cur,h4,h5,(ho.2 g (Array.getElem?_eq_some_iff.1 h6).1 (by omega) (by omega)).trans h6,h7⟩
 exact h3.read hl hw
theorem CodesE.grown {w w':World} {g b:Nat} (h:CodesE w g) (hg:g<b) (ho:w.grownBy w' (some b)):CodesE w' g:=
 h.kept (B:=g+1) (Nat.lt_succ_self _) ⟨ho.os,ho.tape,ho.output,ho.size,fun j hj=>ho.block j (by have:=h.lt; omega) (by simp; omega)⟩
theorem leftE (g:Nat) (w:World) (h:CodesE w g) :
  Calls Try.prog 21 #[.pointer (some ⟨g,0,none⟩)] w fun e w'=>∃b,e=.returned (.bool b)∧Below w.heap.size w w':=by
 obtain ⟨r,val,h⟩:=h;refine (left_any g r val w h).mono ?_;rintro e w' ⟨n,rfl,rfl⟩;exact ⟨_,rfl,below_drewN (Below.refl _ _) n⟩
theorem rowsT_apart {w:World} {b1 b2 n1 n2 s1 s2:Nat} {e1 e2:TypeId} {v1 v2:Value} {l1 l2:List Value} (h1:w.ownsRow b1 e1 s1 v1 n1 l1) (h2:w.ownsRow b2 e2 s2 v2 n2 l2) (he:e1≠e2):v1.ownBlock=none∨v1.ownBlock≠v2.ownBlock:=by
 rcases h1.2 with ⟨rfl,_⟩ | ⟨g,cap,cur,rfl,_,hg,_⟩
 ·exact .inl rfl
 ·rcases h2.2 with ⟨rfl,_⟩ | ⟨g',cap',cur',rfl,_,hg',_⟩
  ·exact .inr (by simp [Value.ownBlock])
  ·refine .inr ?_
   simp only [Value.ownBlock,ne_eq,Option.some.injEq];intro e;rw [e,hg'] at hg;simp at hg;exact he hg.2.symm
structure ItInv (w0 wr:World) (g X:Nat) (v:Value) (l:List ItemM) (th:Int):Prop where
 lt:g<w0.heap.size
 xw:w0.heap.size≤X
 codes:CodesE wr g
 grown:w0.grownBy wr (some g)
 words:∃ws,OwnI wr X 26 .u64 (.slice (some ⟨X,0,none⟩) 4 4) ws∧ws.length=4∧∀x∈ws,x=IntKind.u64.wrap x
 out:OwnT wr w0.heap.size v l
 good:∀x∈l,x.good∧0≤x.thr∧x.thr<th
theorem ItInv.apart {w0 wr:World} {g X:Nat} {v:Value} {l:List ItemM} {th:Int} (h:ItInv w0 wr g X v l th):v.ownBlock=none∨v.ownBlock≠some X:=by
 obtain ⟨ws,h1,-,-⟩:=h.words;exact rowsT_apart h.out h1 (by decide)
theorem ItInv.xlt {w0 wr:World} {g X:Nat} {v:Value} {l:List ItemM} {th:Int} (h:ItInv w0 wr g X v l th):X<wr.heap.size:=by
 obtain ⟨ws,h1,h2,-⟩:=h.words;rcases h1.shape with ⟨h3,-⟩ | ⟨b,c,h3,-,h4,-⟩
 ·simp at h3
 ·simp only [Value.slice.injEq,Option.some.injEq,Addr.mk.injEq] at h3; omega
theorem ItInv.next {w0 wr w2:World} {g X:Nat} {v:Value} {l:List ItemM} {th:Int} (h:ItInv w0 wr g X v l th) (hc:CodesE w2 g) (hg:wr.grownBy w2 (some g)):ItInv w0 w2 g X v l th:=by
 have hl:=h.lt;have hx:=h.xw;obtain ⟨ws,h1,h2,h3⟩:=h.words;exact ⟨h.lt,h.xw,hc,grownBy_trans h.grown hg,⟨ws,h1.kept hg (h1.ne (by omega)),h2,h3⟩,h.out.kept hg (h.out.ne hl),h.good⟩
theorem ItInv.more {w0 wr w2:World} {g X:Nat} {v:Value} {l:List ItemM} {th:Int} (h:ItInv w0 wr g X v l th) (hb:Below wr.heap.size wr w2):ItInv w0 w2 g X v l th:=by
 obtain ⟨ws,h1,h2,h3⟩:=h.words;exact ⟨h.lt,h.xw,h.codes.kept h.codes.lt hb,grownBy_of_new h.grown (grown_below (row:=none) hb) (fun k hk=>by cases hk),⟨ws,h1.below hb,h2,h3⟩,h.out.below hb,h.good⟩
theorem ItInv.other {w0 wr w2:World} {g X Y:Nat} {v:Value} {l:List ItemM} {th:Int} (h:ItInv w0 wr g X v l th) (hg:wr.grownBy w2 (some Y)) (hY:w0.heap.size≤Y) (hx:X≠Y) (hv:v.ownBlock=none∨v.ownBlock≠some Y):ItInv w0 w2 g X v l th:=by
 have hl:=h.lt;obtain ⟨ws,h1,h2,h3⟩:=h.words;refine ⟨h.lt,h.xw,h.codes.grown (by omega) hg,grownBy_of_new h.grown hg (fun k hk=>by cases hk; omega),⟨ws,h1.kept hg (.inr (by simpa [Value.ownBlock] using hx)),h2,h3⟩,h.out.kept hg hv,h.good⟩
theorem ItInv.word {w0 wr:World} {g X:Nat} {v:Value} {l:List ItemM} {th:Int} (h:ItInv w0 wr g X v l th) (i:Nat) (x:Int) (hx:x=IntKind.u64.wrap x):ItInv w0 (wr.setCell ⟨X,i,none⟩ (.int .u64 x)) g X v l th:=by
 have hl:=h.lt;have hxw:=h.xw;have hg:=grownBy_setCell wr ⟨X,i,none⟩ (.int .u64 x);have ha:=h.apart;obtain ⟨ws,h1,h2,h3⟩:=h.words;refine ⟨h.lt,h.xw,h.codes.grown (by show g<X; omega) hg,grownBy_of_new h.grown hg (fun k hk=>by cases hk; exact hxw),⟨ws.set i x,h1.store i x h2.symm,by rw [List.length_set,h2],fun y hy=>?_⟩,h.out.kept hg ha,h.good⟩;rcases List.mem_or_eq_of_mem_set hy with hy | rfl
 ·exact h3 y hy
 ·exact hx
theorem ItInv.cell {w0 wr:World} {g X:Nat} {v:Value} {l:List ItemM} {th:Int} (h:ItInv w0 wr g X v l th) (i:Nat) (hi:i<4):∃x,wr.cell? ⟨X,i,none⟩=some (.int .u64 x)∧x=IntKind.u64.wrap x∧wr.frozen? ⟨X,i,none⟩=false:=by
 obtain ⟨ws,h1,h2,h3⟩:=h.words;obtain ⟨c,f⟩:=h1.cell i (by omega);refine ⟨_,c,?_,f⟩;have hl:i<ws.length:=by omega
 rw [List.getD_eq_getElem?_getD,List.getElem?_eq_getElem hl];exact h3 _ (List.getElem_mem hl)
theorem ItInv.add {w0 wr w2:World} {g X:Nat} {v v':Value} {l:List ItemM} {th:Int} {x:ItemM} (h:ItInv w0 wr g X v l th) (ho:OwnT w2 w0.heap.size v' (l ++ [x])) (hg:wr.grownBy w2 v.ownBlock) (hx:x.good∧0≤x.thr∧x.thr<th):ItInv w0 w2 g X v' (l ++ [x]) th:=by
 have hl:=h.lt;have ha:=h.apart;have hge:=h.out.own_ge;obtain ⟨ws,h1,h2,h3⟩:=h.words;refine ⟨h.lt,h.xw,?_,grownBy_of_new h.grown hg hge,⟨ws,h1.kept hg ?_,h2,h3⟩,ho,fun y hy=>?_⟩
 ·cases hv:v.ownBlock with
  | none=>rw [hv] at hg; exact h.codes.kept h.codes.lt ⟨hg.os,hg.tape,hg.output,hg.size,fun j hj=>hg.block j hj (by simp)⟩
  | some b=>rw [hv] at hg; exact h.codes.grown (by have:=hge b hv; omega) hg
 ·rcases ha with ha | ha
  ·exact .inr (by rw [ha]; simp [Value.ownBlock])
  ·exact .inr fun e=>ha (by rw [← e]; rfl)
 ·rw [List.mem_append,List.mem_singleton] at hy
  rcases hy with hy | rfl
  ·exact h.good y hy
  ·exact hx
structure ItY (w0 wr:World) (g X:Nat) (v:Value) (l:List ItemM) (th:Int) (Y:Nat) (x:ItemM):Prop where
 inv:ItInv w0 wr g X v l th
 yw:w0.heap.size≤Y
 xy:X≠Y
 ne:v.ownBlock=none∨v.ownBlock≠some Y
 row:wr.heap[Y]?=some (.cells #[.int .i64 x.thr,.int .i64 x.acc.kind,.int .i64 x.acc.addr,.int .u64 x.acc.old,.int .u64 x.acc.new,.int .i64 x.acc.til,.int .u64 x.val,.bool x.ok] 30 (0,0))
theorem ItInv.box {w0 wr:World} {g X:Nat} {v:Value} {l:List ItemM} {th:Int} (h:ItInv w0 wr g X v l th) (x:ItemM) :
  ItY w0 ((wr.alloc (.cells zeroItem 30)).setRow wr.heap.size #[.int .i64 x.thr,.int .i64 x.acc.kind,.int .i64 x.acc.addr,.int .u64 x.acc.old,.int .u64 x.acc.new,.int .i64 x.acc.til,.int .u64 x.val,.bool x.ok]) g X v l th wr.heap.size x:=by
 have hx:=h.xlt;have hs:=h.grown.size;refine ⟨h.more (row_below (below_new (Below.refl _ _) _) (Nat.le_refl _) _),hs,by omega,?_,setRow_heap _ _ _ _ _ (0,0) (heap_alloc_new _ _)⟩;cases hv:v.ownBlock with
 | none=>exact .inl rfl
 | some b=>exact .inr fun e=>by have:=World.ownsRow.lt h.out b hv; cases e; omega
theorem ItY.word {w0 wr:World} {g X Y:Nat} {v:Value} {l:List ItemM} {th:Int} {x:ItemM} (h:ItY w0 wr g X v l th Y x) (i:Nat) (z:Int) (hz:z=IntKind.u64.wrap z):ItY w0 (wr.setCell ⟨X,i,none⟩ (.int .u64 z)) g X v l th Y x:=
 ⟨h.inv.word i z hz,h.yw,h.xy,h.ne,(heap_setCell_other wr ⟨X,i,none⟩ Y _ (Ne.symm h.xy)).trans h.row⟩
theorem ItY.setVal {w0 wr:World} {g X Y:Nat} {v:Value} {l:List ItemM} {th:Int} {x:ItemM} (h:ItY w0 wr g X v l th Y x) (z:Int):ItY w0 (wr.setCell ⟨Y,6,none⟩ (.int .u64 z)) g X v l th Y ⟨x.thr,x.acc,z,x.ok⟩:=by
 refine ⟨h.inv.other (grownBy_setCell wr ⟨Y,6,none⟩ _) h.yw h.xy h.ne,h.yw,h.xy,h.ne,?_⟩;have hs:=heap_setCell_same wr Y 6 _ _ (.int .u64 z) h.row;simpa using hs
theorem ItY.setOk {w0 wr:World} {g X Y:Nat} {v:Value} {l:List ItemM} {th:Int} {x:ItemM} (h:ItY w0 wr g X v l th Y x) (b:Bool):ItY w0 (wr.setCell ⟨Y,7,none⟩ (.bool b)) g X v l th Y ⟨x.thr,x.acc,x.val,b⟩:=by
 refine ⟨h.inv.other (grownBy_setCell wr ⟨Y,7,none⟩ _) h.yw h.xy h.ne,h.yw,h.xy,h.ne,?_⟩;have hs:=heap_setCell_same wr Y 7 _ _ (.bool b) h.row;simpa using hs
set_option maxHeartbeats 16000000 in
theorem itemsE (g:Nat) (th most:Int) (w:World) (h:CodesE w g) (hth:1≤th∧th≤256) (hm:0≤most∧most≤1000) :
  Calls Try.prog 23 #[.pointer (some ⟨g,0,none⟩),.int .i64 th,.int .i64 most] w fun e w'=>∃v l,e=.returned v∧OwnT w' w.heap.size v l∧(l.length:Int)≤most∧(∀x∈l,x.good∧0≤x.thr∧x.thr<th)∧CodesE w' g∧w.grownBy w' (some g):=by
 have HC:=Lib.hid h;obtain ⟨ht1,ht2⟩:=hth;obtain ⟨hm0,hm1⟩:=hm;obtain ⟨mo,rfl⟩:∃mo:Nat,most=mo:=⟨most.toNat,by omega⟩;clear h;go_enter Try.func23,Try.ntmps23;go_wp2_with (at_make; refine wp_make_u64 w rfl _ _ rfl 4 _ _ rfl rfl ?_ ?_ ?_ ?_; rfl; rfl; omega; intro w1 ho1 hb1);have hI0:Hid (ItInv w w1 g w.heap.size (.slice none 0 0) [] th):=⟨HC.out.lt,Nat.le_refl _,HC.out.kept HC.out.lt hb1,grown_below hb1,⟨_,ho1,by simp,fun x hx=>by rw [(List.mem_replicate.1 hx).2]; decide⟩,OwnT.nil _ _,fun x hx=>by simp at hx⟩;clear ho1 hb1 HC;go_wp2_with fail;obtain ⟨X,hX⟩:∃X,w.heap.size=X:=⟨_,rfl⟩;rw [hX] at hI0;rw [hX];have HX:=Lib.hid hX;clear hX;go_loopg [7] (mo+1) (fun gg u wr=>∃(A:Option Addr) (c:Nat) (l:List ItemM),u=.slice A l.length c∧l.length+gg=mo+1∧l.length≤mo∧Hid (ItInv w wr g X (.slice A l.length c) l th))
 case atStart=>exact ⟨none,0,[],rfl,by simp,by simp,hI0⟩
 case round=>
  clear hI0;obtain ⟨A,c,l,rfl,hlg,hlm,HI⟩:=hrel;obtain ⟨wo,rfl⟩:∃wo:World,wo=wr:=⟨_,rfl⟩;go_wp2_with fail;refine (leftE g _ HI.out.codes).mono ?_; rintro e wl ⟨b,rfl,hbl⟩;have HI1:=Lib.hid (HI.out.more hbl);clear hbl HI;by_cases hgo:b=true∧l.length<mo
  case neg=>
   have hfin:=HI1.out;cases b with
   | false=>
    go_wp2;go_ret;exact ⟨_,_,rfl,HX.out▸hfin.out,by omega,hfin.good,hfin.codes,hfin.grown⟩
   | true=>
    have hnl:¬l.length<mo:=fun h=>hgo ⟨rfl,h⟩;clear hgo;go_wp2;go_ret;exact ⟨_,_,rfl,HX.out▸hfin.out,by omega,hfin.good,hfin.codes,hfin.grown⟩
  case pos=>
   obtain ⟨rfl,hlt⟩:=hgo;have hltI:(l.length:Int)<(mo:Int):=by omega
   cases gk with
   | zero=>exact absurd hlg (by omega)
   | succ gk=>
    go_wp2_with fail;refine (nextE g th _ HI1.out.codes ht1 ht2).mono ?_; rintro e w2 ⟨z0,rfl,z00,z01,hc2,hg2⟩;have HI2:=Lib.hid (HI1.out.next hc2 hg2);clear hc2 hg2 HI1;go_wp2_with fail;refine (nextE g 9 _ HI2.out.codes (by omega) (by omega)).mono ?_; rintro e w3 ⟨z1,rfl,z10,z11,hc3,hg3⟩;have HI3:=Lib.hid (HI2.out.next hc3 hg3);clear hc3 hg3 HI2;go_wp2_with fail;refine (nextE g 4 _ HI3.out.codes (by omega) (by omega)).mono ?_; rintro e w4 ⟨z2,rfl,z20,z21,hc4,hg4⟩;have HI4:=Lib.hid (HI3.out.next hc4 hg4);clear hc4 hg4 HI3;go_wp2_with fail;refine (nextE g 3 _ HI4.out.codes (by omega) (by omega)).mono ?_; rintro e w5 ⟨z3,rfl,z30,z31,hc5,hg5⟩;have HI5:=Lib.hid (HI4.out.next hc5 hg5);clear hc5 hg5 HI4;go_wp2_with fail;refine (nextE g 3 _ HI5.out.codes (by omega) (by omega)).mono ?_; rintro e w6 ⟨z4,rfl,z40,z41,hc6,hg6⟩;have HI6:=Lib.hid (HI5.out.next hc6 hg6);clear hc6 hg6 HI5;have q1:IntKind.i64.wrap (1+z1)=1+z1:=by rw [IntKind.wrap_i64]; omega
    have q3:IntKind.u64.wrap z3=z3:=by rw [IntKind.wrap_u64]; omega
    have q4:IntKind.u64.wrap z4=z4:=by rw [IntKind.wrap_u64]; omega
    have HQ4:=Lib.hid q4;obtain ⟨k,hk⟩:∃k,1+z1=k:=⟨_,rfl⟩;have hk1:1≤k∧k≤9:=by omega
    obtain ⟨ad,rfl⟩:∃ad:Nat,z2=ad:=⟨z2.toNat,by omega⟩;have had:ad<4:=by omega
    have HY0:=Lib.hid (HI6.out.box ⟨z0,⟨k,ad,z3,z4,0⟩,0,false⟩);have HGD:Hid (∀(vl:Int) (ok:Bool),vl=IntKind.u64.wrap vl→ItemM.good ⟨z0,⟨k,ad,z3,z4,0⟩,vl,ok⟩):=fun vl ok hv=>⟨by show z0=IntKind.i64.wrap z0; rw [IntKind.wrap_i64]; omega,⟨by show k=IntKind.i64.wrap k; rw [IntKind.wrap_i64]; omega,by show (ad:Int)=IntKind.i64.wrap ad; rw [IntKind.wrap_i64]; omega,by show z3=IntKind.u64.wrap z3; rw [IntKind.wrap_u64]; omega,by show z4=IntKind.u64.wrap z4; rw [IntKind.wrap_u64]; omega,(by show (0:Int)=IntKind.i64.wrap 0; decide)⟩,hv⟩;have N6:Hid ((w6.alloc (.cells zeroItem 30)).heap[w6.heap.size]?=some (.cells zeroItem 30 (0,0))):=heap_alloc_new _ _;obtain ⟨W6,hW6⟩:∃W6,(w6.alloc (.cells zeroItem 30)).setRow w6.heap.size #[.int .i64 z0,.int .i64 k,.int .i64 ad,.int .u64 z3,.int .u64 z4,.int .i64 0,.int .u64 0,.bool false]=W6:=⟨_,rfl⟩;rw [hW6] at HY0;have HW6:=Lib.hid hW6;rw [hk] at q1;clear hW6;go_upto_region 5 with (refine wpList_store_row rfl 30 _ _ rfl (w6.heap.size) _ rfl rfl 30 zeroItem N6.out (by kernel_rfl) rfl (by simp [Value.oneCell']) ?_)
    rw [show (#[.int .i64 0,.int .i64 0,.int .i64 0,.int .u64 0,.int .u64 0,.int .i64 0,.int .u64 0,.bool false]:Array Value)=zeroItem from rfl]
    first | rw [HW6.out] | skip
    clear HW6 N6 q1 q3 HI6;generalize w6.heap.size=Y at *;simp only [Act.put];have HQ:Hid (z4=IntKind.u64.wrap z4):=HQ4.out.symm;clear HQ4 q4;obtain ⟨y0,y1,y2,y3,y4,y5,y6,y7⟩:=rowc8 HY0.out.row;dsimp only at y0 y1 y2 y3 y4 y5 y6 y7;have f6:=frozen_of_row _ _ 6 _ _ HY0.out.row;obtain ⟨x,xc,hx,xf⟩:=HY0.out.inv.cell ad had;have HXW:=Lib.hid hx;have hxy:X≠Y:=HY0.out.xy;clear hx hk hk1 z10 z11;rename_i hk9;go_upto_block 2 with fail
    go_cut [] (fun wx=>∃(vl:Int) (ok:Bool),Hid (vl=IntKind.u64.wrap vl)∧Hid (ItY w wx g X (.slice A l.length c) l th Y ⟨z0,⟨k,ad,z3,z4,0⟩,vl,ok⟩))
    case first=>
     rcases (show (k=1∨k=5∨k=4)∨(k=2∨k=6)∨k=3∨(k≠1∧k≠2∧k≠3∧k≠4∧k≠5∧k≠6) by omega) with h | h | rfl | h
     ·have HE:=Lib.hid (HY0.out.setVal x)
      rcases h with rfl | rfl | rfl
      all_goals
       go_wp2_with fail;go_meet;exact ⟨x,false,HXW,HE⟩
     ·have HE:=Lib.hid (HY0.out.word ad z4 HQ.out)
      rcases h with rfl | rfl
      all_goals
       go_wp2_with fail;go_meet;exact ⟨0,false,(by show (0:Int)=IntKind.u64.wrap 0; decide),HE⟩
     ·have HE:=Lib.hid (HY0.out.setVal x)
      go_upto_region 15 with fail
      generalize W6.setCell ⟨Y,6,none⟩ (.int .u64 x)=W7 at *;try simp only [Act.put]
      clear y0 y1 y2 y3 y4 y5 y6 y7 f6 xc xf;obtain ⟨y0,y1,y2,y3,y4,y5,y6,y7⟩:=rowc8 HE.out.row;dsimp only at y0 y1 y2 y3 y4 y5 y6 y7;by_cases hxz:x=z3
      ·have HE2:=Lib.hid (HE.out.setOk true)
       have f7:=frozen_of_row _ _ 7 _ _ HE.out.row;have hxz1:(x == z3)=true:=by simpa using hxz
       have HXZ:=Lib.hid hxz;clear hxz;go_upto_region 17 with fail
       generalize W7.setCell ⟨Y,7,none⟩ (.bool true)=W8 at *;clear y0 y1 y2 y3 y4 y5 y6 y7 f7;obtain ⟨y0,y1,y2,y3,y4,y5,y6,y7⟩:=rowc8 HE2.out.row;dsimp only at y0 y1 y2 y3 y4 y5 y6 y7;obtain ⟨x2,xc,hx2,xf⟩:=HE2.out.inv.cell ad had;have HE3:=Lib.hid (HE2.out.word ad z4 HQ.out);clear hx2;go_wp2_with fail;go_meet;exact ⟨x,true,HXW,HE3⟩
      ·have hxz1:(x == z3)=false:=by simpa using hxz
       clear hxz;go_wp2_with fail;go_meet;exact ⟨x,false,HXW,HE⟩
     ·obtain ⟨h1,h2,h3,h4,h5,h6⟩:=h
      have k1:=ne_beq h1;have k2:=ne_beq h2;have k3:=ne_beq h3;have k4:=ne_beq h4;have k5:=ne_beq h5;have k6:=ne_beq h6;clear h1 h2 h3 h4 h5 h6;go_wp2_with fail;go_meet;exact ⟨0,false,(by show (0:Int)=IntKind.u64.wrap 0; decide),HY0⟩
    case rest=>
     obtain ⟨vl,ok,HVL,HY⟩:=hcut;obtain ⟨W9,rfl⟩:∃W9:World,W9=wc:=⟨_,rfl⟩;clear y0 y1 y2 y3 y4 y5 y6 y7 f6 xc xf HXW HY0;have HGX:=Lib.hid (HGD.out vl ok HVL.out);obtain ⟨y0,y1,y2,y3,y4,y5,y6,y7⟩:=rowc8 HY.out.row;dsimp only at y0 y1 y2 y3 y4 y5 y6 y7;go_wp2_with (at_builtin; refine wp_append_item _ rfl _ _ rfl w.heap.size (.slice A l.length c) l rfl (HY.out.inv.out.alloc _) ⟨z0,⟨k,ad,z3,z4,0⟩,vl,ok⟩ _ rfl ?_ ?_ ?_ ?_; exact ⟨World.cell?_alloc_at _ _ _ _ (by simp),World.cell?_alloc_at _ _ _ _ (by simp),World.cell?_alloc_at _ _ _ _ (by simp),World.cell?_alloc_at _ _ _ _ (by simp),World.cell?_alloc_at _ _ _ _ (by simp),World.cell?_alloc_at _ _ _ _ (by simp),World.cell?_alloc_at _ _ _ _ (by simp),World.cell?_alloc_at _ _ _ _ (by simp)⟩; omega; exact Nat.le_trans HY.out.inv.grown.size (by simp); intro v9 w9 ho9 hg9; obtain ⟨A9,c9,e9⟩:=ho9.len; subst e9);have HIN:=Lib.hid (ItInv.add (HY.out.inv.more (below_new (Below.refl _ _) _)) ho9 hg9 ⟨HGX.out,z00,z01⟩);clear ho9 hg9 y0 y1 y2 y3 y4 y5 y6 y7;go_roundg gk
     case rel=>exact ⟨A9,c9,l ++ [⟨z0,⟨k,ad,z3,z4,0⟩,vl,ok⟩],by simp,by simp; omega,by simp; omega,HIN⟩
     case measure=>omega
section
variable (w:World) {ops:Array Oper} {rest:List Oper} {o:Oper} {a:Act} {Q:Exit→Act→World→Prop}
end
theorem wp_copy_none (w:World) {ops:Array Oper} {rest:List Oper} {o:Oper} {a:Act} {Q:Exit→Act→World→Prop} (hg:o.guard=none) (s x:Operand) (T e:TypeId) (i:TypeInfo)
  (hop:o.op=Op.call { callee:=Callee.builtin Builtin.append,args:=#[s,x],argTypes:=#[T,T] }) (ht:Try.prog.underlying T=some (.slice e)) (hi:Try.prog.info? e=some i)
  (hs:a.eval s=.slice none 0 0) (A:Option Addr) (c:Nat) (hx:a.eval x=.slice A 0 c) (h:wpList Try.prog ops Q rest (a.put o.dst (.slice none 0 0)) w) :
  wpList Try.prog ops Q (o :: rest) a w:=by
 refine wpList_plain hg fun K hK=>?_;have hrun:(Builtin.append_ #[T,T] o.type #[.slice none 0 0,.slice A 0 c]).run Try.prog w=.ok (.slice none 0 0) w:=by
  cases A <;> simp [Builtin.append_,run_underlying ht,sizeOf,typeInfo,hi,Builtin.lenOf,Builtin.firstCells,storeCells,loadCells,loadCellsFrom,Result.andThen]
 unfold Oper.wp;simp [execOp,hop,resolve,invoke,builtin,hs,hx,hrun,Result.andThen];exact hK _ _ h
theorem wp_copy_i64_any (w:World) {ops:Array Oper} {rest:List Oper} {o:Oper} {a:Act} {Q:Exit→Act→World→Prop}
  (hg:o.guard=none) (s x:Operand) (hop:o.op=Op.call { callee:=Callee.builtin Builtin.append,args:=#[s,x],argTypes:=#[36,36] })
  (xv:Value) (l:List Int) (hs:a.eval s=.slice none 0 0) (hx:a.eval x=xv) (hS:SlI w .i64 xv l) (hl:l.length≤1000000) (B:Nat) (hB:B≤w.heap.size)
  (hK:∀v' w',OwnI w' B 3 .i64 v' l→Below w.heap.size w w'→wpList Try.prog ops Q rest (a.put o.dst v') w') :
  wpList Try.prog ops Q (o :: rest) a w:=by
 by_cases hne:l=[]
 ·subst hne
  obtain ⟨i0,hi,-⟩:=info_parts Try.info_i64;obtain ⟨A,cap,rfl,-⟩:=hS.len;exact wp_copy_none w hg s x _ _ i0 hop (by kernel_rfl) hi hs A cap hx (hK _ _ (OwnI.nil _ _ _ _) (Below.refl _ _))
 ·exact wp_copy_i64 w hg s x hop xv l hs hx hS hne hl fun g cap w' h1 h2 _=>hK _ _ (h1.mono_base hB) h2
theorem SlC.grown {w w':World} {v:Value} {l:List CaseM} {g:Nat} (h:SlC w v l) (hg:w.grownBy w' (some g)) (ho:offB g v):SlC w' v l:=by
 obtain ⟨h1,h2,a,cap,rfl,h4,h5⟩:=h;refine ⟨h1,h2,a,cap,rfl,h4,fun t ht=>?_⟩;obtain ⟨b,off,rfl,hlt,c0,c1,c2⟩:=h5 t ht;have hb:b≠g:=(ho _ _ _ rfl).resolve_left (by omega);have k:∀j,w'.cell? ⟨b,j,none⟩=w.cell? ⟨b,j,none⟩:=fun j=>World.cell?_of_block (a:=⟨b,j,none⟩) (hg.block b hlt (by simpa using hb));exact ⟨b,off,rfl,Nat.lt_of_lt_of_le hlt hg.size,(k _).trans c0,(k _).trans c1,(k _).trans c2⟩
def ConfX (w:World) (g:Nat) (v:Value) (c:ConfM):Prop:=
 ∃vc vs,v=.agg #[vc,vs,.int .i64 c.threads]∧SlI w .i64 vc c.caps∧SlI w .u64 vs c.starts∧offB g vc∧offB g vs
theorem ConfX.below {w w':World} {g:Nat} {v:Value} {c:ConfM} (h:ConfX w g v c) (hb:Below w.heap.size w w'):ConfX w' g v c:=by
 obtain ⟨vc,vs,e,h1,h2,h3⟩:=h; exact ⟨vc,vs,e,h1.below hb,h2.below hb,h3⟩
theorem ConfX.grown {w w':World} {g:Nat} {v:Value} {c:ConfM} (h:ConfX w g v c) (hg:w.grownBy w' (some g)):ConfX w' g v c:=by
 obtain ⟨vc,vs,e,h1,h2,h3,h4⟩:=h; exact ⟨vc,vs,e,h1.grown hg h3,h2.grown hg h4,h3,h4⟩
def OpX (w:World) (g:Nat) (v:Value) (op:OpM):Prop:=
 ∃vc vd,v=.agg #[.int .i64 op.kind,.int .i64 op.mode,.int .i64 op.chan,.int .u64 op.val,.int .i64 op.dl,vc,vd]∧SlC w vc op.cases∧SlI w .i64 vd op.draws∧offB g vc∧offB g vd
theorem OpX.below {w w':World} {g:Nat} {v:Value} {op:OpM} (h:OpX w g v op) (hb:Below w.heap.size w w'):OpX w' g v op:=by
 obtain ⟨vc,vs,e,h1,h2,h3⟩:=h; exact ⟨vc,vs,e,h1.below hb,h2.below hb,h3⟩
theorem OpX.grown {w w':World} {g:Nat} {v:Value} {op:OpM} (h:OpX w g v op) (hg:w.grownBy w' (some g)):OpX w' g v op:=by
 obtain ⟨vc,vs,e,h1,h2,h3,h4⟩:=h; exact ⟨vc,vs,e,h1.grown hg h3,h2.grown hg h4,h3,h4⟩
set_option maxRecDepth 100000 in
set_option maxHeartbeats 16000000 in
theorem itemsH_any (v:Value) (l0:List Int) (th most:Int) (w:World) (hs:SlI w .u8 v l0) (hth:1≤th∧th≤256) (hm:0≤most∧most≤1000):Calls Try.prog 11 #[v,.int .i64 th,.int .i64 most] w fun e w'=>∃u l,e=.returned u∧SlT w' u l∧(l.length:Int)≤most∧(∀x∈l,x.good∧0≤x.thr∧x.thr<th)∧Below w.heap.size w w':=by
 have HS:=Lib.hid hs;have HTH:=Lib.hid hth;have HMO:=Lib.hid hm;clear hs hth hm;go_enter Try.func11,Try.ntmps11;go_wp2_with fail;refine (new_any _ l0 200 _ HS.out (by omega)).mono ?_; rintro e w2 ⟨rfl,hc2,hb2⟩;have hC2:Hid (CodesE w2 w.heap.size):=⟨_,_,hc2⟩;have HB2:=Lib.hid hb2;clear hc2 hb2;go_wp2_with fail;refine (itemsE w.heap.size th most w2 hC2.out HTH.out HMO.out).mono ?_; rintro e w3 ⟨u,l,rfl,ho,hl,hg,-,hg3⟩;have HL:=Lib.hid (ho.read (by have:=HMO.out; omega) fun x hx=>(hg x hx).1);have HB3:=Lib.hid (below_grown HB2.out hg3 (Nat.le_refl _));have HG:=Lib.hid hg;have HLE:=Lib.hid hl;clear ho hg hg3 hl HB2 hC2;go_wp2;go_ret;exact ⟨u,l,rfl,HL.out,HLE.out,HG.out,HB3.out⟩
theorem same_any (u v:Value) (l m:List Int) (w:World) (hl:SlI w .i64 u l) (hm:SlI w .i64 v m) :
  Calls Try.prog 14 #[u,v] w fun e w'=>∃n,e=.returned (.bool (decide (l=m)))∧w.drewN n=w':=by
 have hmx:=hl.1;have hmx2:=hm.1;obtain ⟨_,_,a,cap,rfl,h4,h5⟩:=hl;obtain ⟨_,_,a',cap',rfl,h4',h5'⟩:=hm;clear h4 h4';by_cases hll:l.length=m.length
 ·have hq:((l.length:Int) != (m.length:Int))=false:=by simp [hll]
  have HL:=Lib.hid hll;have HS:=Lib.hid (ext_same l m hll);clear hll;go_enter Try.func14,Try.ntmps14;go_wp2;go_loopw [5] (fun c wr=>∃k n:Nat,k≤l.length∧c=.int .i64 k∧wr=w.drewN n∧Hid (∀j,j<k→l.getD j 0=m.getD j 0)) (fun c _=>l.length - (intOf c).toNat)
  case atStart=>exact ⟨0,0,by omega,rfl,rfl,fun j hj=>by omega⟩
  case round=>
   obtain ⟨k,n,hk,rfl,rfl,hno⟩:=hrel;by_cases hlt:k<l.length
   ·obtain ⟨b,off,rfl,_,hc⟩:=h5 k hlt
    obtain ⟨b',off',rfl,_,hc'⟩:=h5' k (by rw [← HL.out]; exact hlt);have hlt':k<m.length:=by rw [← HL.out]; exact hlt
    have H5:=Lib.hid h5;have H5':=Lib.hid h5';clear h5 h5';generalize hy:l.getD k 0=y at hc;generalize hz:m.getD k 0=z at hc';have Hy:=Lib.hid hy;have Hz:=Lib.hid hz;clear hy hz;by_cases hyx:y=z
    ·subst hyx
     go_wp2;go_quiet (fail);go_wp2;go_roundw
     case rel=>exact ⟨k+1,n+nq,by omega,by go_num,rfl,fun j hj=>by
      by_cases e:j=k
      ·rw [e,Hy.out,Hz.out]
      ·exact hno.out j (by omega)⟩
     case measure=>simp [intOf]; omega
    ·have hq2:(y == z)=false:=by simpa using hyx
     go_wp2;go_quiet (fail);go_wp2;go_ret;exact ⟨n+nq,ret_bool (by symm; apply decide_eq_false; intro e; apply hyx; rw [← Hy.out,← Hz.out,e]),(World.drewN_drewN w n nq).symm⟩
   ·have e:k=l.length:=by omega
    have E:=Lib.hid e;clear e;go_wp2;go_ret;exact ⟨n,ret_bool (by symm; exact decide_eq_true (HS.out fun j hj=>hno.out j (by rw [E.out]; exact hj))),rfl⟩
 ·have hq:((l.length:Int) != (m.length:Int))=true:=by simpa using fun h=>hll (by omega)
  have hr:=Lib.hid (show decide (l=m)=false from decide_eq_false (by rintro rfl; exact hll rfl));clear hll;go_enter Try.func14,Try.ntmps14;go_wp2;go_ret;exact ⟨0,by rw [hr.out]; rfl,rfl⟩
theorem mod_any (x n:Int) (w:World) (h2:1≤n) (h3:n≤1000000) :
  Calls Try.prog 10 #[.int .i64 x,.int .i64 n] w fun e w'=>e=.returned (.int .i64 (x % n))∧w=w':=by
 obtain ⟨m,hm⟩:∃m:Nat,n=m+1:=⟨(n - 1).toNat,by omega⟩;have b:-n<x.tmod n∧x.tmod n<n:=by have:=tmod_bd x m; rw [hm]; omega
 have M:=Lib.hid (show x % n=if x.tmod n<0 then x.tmod n+n else x.tmod n by have:=tmod_mod x m; rw [hm]; exact this);clear hm;go_enter Try.func10,Try.ntmps10;go_wp2
 ·have hh:x.tmod n<0:=by assumption
  go_ret;exact ⟨ret_i64 (by rw [M.out,if_pos hh]),rfl⟩
 ·have hh:0≤x.tmod n:=by assumption
  go_ret;exact ⟨ret_i64 (by rw [M.out,if_neg (by omega)]),rfl⟩
open Go.ChangeShapes Go.WideShapes Go.ChangeAt Go.RowKit Go.WideMaps
open Go.Maps (Keyed)
theorem SlI.nil_ofK {w:World} {k:IntKind} {n c:Nat} {l:List Int} (h:SlI w k (.slice none n c) l):l=[]:=by
 obtain ⟨_,_,a',cap',e,_,h5⟩:=h;simp only [Value.slice.injEq] at e;rcases Nat.eq_zero_or_pos l.length with h0 | h0
 ·exact List.length_eq_zero_iff.1 h0
 ·obtain ⟨b,off,e2,_⟩:=h5 0 h0
  rw [← e.1] at e2; cases e2
theorem SlL.nil_ofK {w:World} {n c:Nat} {us:List Value} {l:List (List Int)} (h:SlL w (.slice none n c) us l):l=[]:=by
 obtain ⟨_,_,a',cap',e,_,h5⟩:=h;simp only [Value.slice.injEq] at e;rcases Nat.eq_zero_or_pos l.length with h0 | h0
 ·exact List.length_eq_zero_iff.1 h0
 ·obtain ⟨b,off,e2,_⟩:=h5 0 h0
  rw [← e.1] at e2; cases e2
theorem run_copy_i64 (w:World) (ty:TypeId) (B:Nat) (hB:B≤w.heap.size) (s:Value) (hs:w.ownsRow B 3 1 s 0 []) (xv:Value) (l:List Int) (hS:SlI w .i64 xv l) (hl:l.length≤1000000) :
  ∃v' w',(Builtin.append_ #[36,36] ty #[s,xv]).run Try.prog w=.ok v' w'∧OwnI w' B 3 .i64 v' l∧w.grownBy w' s.ownBlock:=by
 obtain ⟨i0,hi,hz0,hz1,hz2⟩:=info_parts Try.info_i64;by_cases hne:l=[]
 ·subst hne
  obtain ⟨B,c',rfl,-⟩:=hS.len;have e:∃A c,s=.slice A 0 c∧0≤c:=by
   rcases hs.2 with ⟨rfl,_⟩ | ⟨g,cap,cur,rfl,_⟩
   ·exact ⟨_,_,rfl,Nat.le_refl _⟩
   ·exact ⟨_,_,rfl,Nat.zero_le _⟩
  obtain ⟨A,c,rfl,hc⟩:=e;exact ⟨_,w,run_append_zero (by kernel_rfl) hi A B 0 c c' hc,hs,grownBy_refl _ _⟩
 ·obtain ⟨b,off,cap,rfl,hcap,hbk,hc⟩:=hS.open hne
  obtain ⟨v',w',hr,h2,h3,-⟩:=run_append_own (P:=Try.prog) w B 36 ty 3 i0 (.int .i64 0) 1 _ (by kernel_rfl) hi hz0 hz1 rfl rfl (by decide) s 0 _ hs ⟨b,off,none⟩ l.length cap (l.map (Value.int .i64)) (by simp) (by
   intro j u hj;rw [add_plain];simp only [List.getElem?_map,Option.map_eq_some_iff] at hj;obtain ⟨y,hy,rfl⟩:=hj;have hjl:j<l.length:=(List.getElem?_eq_some_iff.1 hy).1;rw [hc j hjl,List.getD_eq_getElem?_getD,hy]; rfl) (by intro u hu; simp only [List.mem_map] at hu; obtain ⟨y,_,rfl⟩:=hu; rfl) (by unfold maxLen; omega) (by rw [hz2]; omega) hB
  refine ⟨v',w',hr,?_,h3⟩;unfold OwnI;simpa using h2
set_option maxHeartbeats 1000000 in
theorem cloneI_any (v:Value) (l:List Int) (w:World) (h:SlI w .i64 v l) (hl:l.length≤1000000) :
  Calls Try.prog 26 #[v] w fun e w'=>∃v',e=.returned v'∧OwnI w' w.heap.size 3 .i64 v' l∧Below w.heap.size w w':=by
 obtain ⟨a,cap,e,hcap⟩:=h.len;have H:=Lib.hid h;have HL:=Lib.hid hl;clear h hl;have q0:∀(w:World) (a:Option Addr) (n c n' c':Nat),(binOp .eql 36 (.slice a n c) (.slice none n' c')).run Try.prog w=.ok (.bool a.isNone) w:=fun w a n c n' c'=>Lib.run_eql_slice_nil w _ _ a n c n' c' Try.underlying36;cases a with
 | none=>
  subst e;have hl0:=H.out.nil_ofK;subst hl0;go_enter Try.func26,Try.ntmps26;go_wp2;go_ret;exact ⟨_,rfl,OwnI.nil _ _ _ _,Below.refl _ _⟩
 | some p=>
  subst e;generalize hn:l.length=n at *;have HN:=Lib.hid hn;clear hn;have hnew:Hid (SlI (w.alloc (.cells #[] 3)) .i64 (.slice (some p) n cap) l):=H.out.below (below_new (Below.refl _ _) _);obtain ⟨v',w',hr,h1,h2⟩:=run_copy_i64 (w.alloc (.cells #[] 3)) 36 w.heap.size (by simp) (.slice (some ⟨w.heap.size,0,none⟩) 0 0) (World.ownsRow_made w #[] 0 (Nat.le_refl _) (Nat.zero_le _) rfl) _ l hnew.out (by rw [HN.out]; exact HL.out);have H1:=Lib.hid h1;have H2:=Lib.hid h2;clear h1 h2;go_enter Try.func26,Try.ntmps26;go_wp2_with (at_builtin; refine Lib.wpList_append_run _ rfl _ _ _ _ rfl _ _ rfl rfl _ _ hr ?_);go_ret;exact ⟨v',rfl,H1.out,below_grown (below_new (Below.refl _ _) _) H2.out (Nat.le_refl _)⟩
theorem OwnI.baseK {w:World} {b1 b2:Nat} {e:TypeId} {k:IntKind} {v:Value} {l:List Int} (h:OwnI w b1 e k v l) (hb:b2≤b1):OwnI w b2 e k v l:=by
 refine ⟨h.1,?_⟩;rcases h.2 with h2 | ⟨g,cap,cur,h3,h4,h5⟩
 ·exact .inl h2
 ·exact .inr ⟨g,cap,cur,h3,Nat.le_trans hb h4,h5⟩
def clkI (l:List ItemM) (j n:Nat):List Int:=(List.range n).map fun t=>clkAt l j t
theorem clkI_len (l:List ItemM) (j n:Nat):(clkI l j n).length=n:=by simp [clkI]
theorem clkI_get (l:List ItemM) (j:Nat) {n t:Nat} (ht:t<n):(clkI l j n).getD t 0=clkAt l j t:=by
 unfold clkI;rw [List.getD_eq_getElem?_getD,List.getElem?_map,List.getElem?_range ht];rfl
theorem clkAt_ok (l:List ItemM) (j t:Nat):0≤clkAt l j t∧clkAt l j t≤j+1:=by
 have h:=nowE_ok (hbAll_ok (l.take j)) (l.getD j noItem) t;have h2:((l.take j).length:Int)≤j:=by rw [List.length_take]; omega
 unfold clkAt;exact ⟨h.1,by omega⟩
theorem clk_slI {w:World} {g:Nat} {T:TypeId} {l:List ItemM} {j n:Nat} (h:w.heap[g]?=some (.cells (clkL (clkAt l j)).toArray T (0,0))) (hn:n≤8) (hj:j≤1000000):SlI w .i64 (.slice (some ⟨g,0,none⟩) n 8) (clkI l j n):=by
 refine ⟨by rw [clkI_len]; omega,fun x hx=>?_,_,8,by rw [clkI_len],by rw [clkI_len]; exact hn,fun t ht=>⟨g,0,rfl,(Array.getElem?_eq_some_iff.1 h).1,?_⟩⟩
 ·unfold clkI at hx
  obtain ⟨t,-,rfl⟩:=List.mem_map.1 hx;have:=clkAt_ok l j t;rw [IntKind.wrap_i64];omega
 ·rw [clkI_len] at ht
  rw [clkI_get l j ht,Nat.zero_add];have h2:w.cell? ⟨g,t,none⟩=(clkL (clkAt l j)).toArray[t]?:=cell_of_row _ _ t _ _ _ h;rw [h2];have:=clkL_get (clkAt l j) (t:=t) (by omega);simpa using this
theorem makeLI (base n:Nat) (hn:n≤1000000) (w:World) (hb:base≤w.heap.size):∃w',(Instr.makeSlice 33 (.int .i64 0) (.int .i64 (n:Int))).run Try.prog w=.ok (.slice (some ⟨w.heap.size,0,none⟩) 0 n) w'∧OwnS w' base 36 1 (.slice (some ⟨w.heap.size,0,none⟩) 0 n) []∧Below w.heap.size w w':=by
 obtain ⟨i0,hi,hz0,hz1,hz2⟩:=info_parts Try.info_li;obtain ⟨w',h1,h2,h3⟩:=run_makeSlice_owned (P:=Try.prog) (w:=w) base 33 36 i0 _ 1 (by kernel_rfl) hi hz0 hz1 .i64 .i64 n (by omega) (by rw [hz2]; omega) (by unfold maxLen; omega) hb;exact ⟨w',h1,⟨fun r hr=>by simp at hr,h2⟩,⟨h3.os,h3.tape,h3.output,h3.size,fun j hj=>h3.block j hj (by simp)⟩⟩
structure ClkI (w wr:World) (l:List ItemM) (n j:Nat) (r:Value) (vs:List Value):Prop where
 bw:Below w.heap.size w wr
 len:vs.length=j
 own:OwnS wr w.heap.size 36 1 r (vs.map fun v=>[v])
 ins:∀q,q<j→OwnI wr w.heap.size 3 .i64 (vs.getD q (.slice none 0 0)) (clkI l q n)
theorem ClkI.below {w wr w2:World} {l:List ItemM} {n j:Nat} {r:Value} {vs:List Value} (h:ClkI w wr l n j r vs) (hb:Below wr.heap.size wr w2):ClkI w w2 l n j r vs:=
 ⟨below_then h.bw hb,h.len,h.own.below hb,fun q hq=>OwnI.belowK (h.ins q hq) hb⟩
theorem ClkI.push {w wr w2:World} {l:List ItemM} {n j:Nat} {r r2 v:Value} {vs:List Value} (h:ClkI w wr l n j r vs) (hv:OwnI wr w.heap.size 3 .i64 v (clkI l j n)) (ho:OwnS w2 w.heap.size 36 1 r2 (vs.map (fun v=>[v]) ++ [[v]])) (hg:wr.grownBy w2 r.ownBlock) (hs:w.heap.size≤wr.heap.size):ClkI w w2 l n (j+1) r2 (vs ++ [v]):=by
 refine ⟨h.bw.grown hg hs (fun k hk=>(h.own.lt k hk).1),by rw [List.length_append,h.len]; rfl,by rw [List.map_append]; exact ho,fun q hq=>?_⟩;rcases Nat.lt_succ_iff_lt_or_eq.1 hq with hq | rfl
 ·have e:(vs ++ [v]).getD q (.slice none 0 0)=vs.getD q (.slice none 0 0):=by
   rw [List.getD_eq_getElem?_getD,List.getElem?_append_left (by rw [h.len]; exact hq),← List.getD_eq_getElem?_getD]
  rw [e];exact World.ownsRow.kept (h.ins q hq) hg (ownI_apart (h.ins q hq) h.own (by decide))
 ·have e:(vs ++ [v]).getD q (.slice none 0 0)=v:=by
   rw [List.getD_eq_getElem?_getD,List.getElem?_append_right (by rw [h.len]; exact Nat.le_refl _),h.len];simp
  rw [e];exact World.ownsRow.kept hv hg (ownI_apart hv h.own (by decide))
set_option maxRecDepth 100000 in
set_option maxHeartbeats 16000000 in
theorem clocksL_any (l:List ItemM) (n:Nat) (v:Value) (w:World) (hv:SlT w v l) (hn:1≤n∧n≤8) (hth:∀x∈l,0≤x.thr∧x.thr<(n:Int)) (hl:l.length≤100000):Calls Try.prog 12 #[v,.int .i64 (n:Int)] w fun e w'=>∃r,e=.returned r∧∃vs,ClkI w w' l n l.length r vs:=by
 have TE:=Lib.hid (expected_any l (n:Int) v w hv ⟨by omega,by omega⟩ hth);have hth8:∀x∈l,0≤x.thr∧x.thr<8:=fun x hx=>by have:=hth x hx; omega
 have TCK:=Lib.hid fun w' (hb:Below w.heap.size w w')=>clocks_any l v w' (hv.below hb) hth8 hl;obtain ⟨va,cap,rfl,hcap⟩:=hv.len;obtain ⟨m,hm⟩:∃m,l.length=m:=⟨_,rfl⟩;have HM:=Lib.hid hm;rw [hm] at TE TCK hl ⊢;obtain ⟨hn1,hn8⟩:=hn;clear hv hth hth8 hm;go_enter Try.func12,Try.ntmps12;go_wp2_with fail;refine TE.out.mono ?_; rintro e w1 ⟨rfl,hb1⟩;have HB1:=Lib.hid hb1;obtain ⟨w2,hmk,hown,hb2⟩:=makeLI w.heap.size m (by omega) w1 hb1.size;have HO2:=Lib.hid hown;have HB2:=Lib.hid (below_then hb1 hb2);clear hb1 TE hown hb2;go_wp2_with fail;clear hmk;refine (TCK.out w2 HB2.out).mono ?_; rintro e w3 ⟨u,rfl,hu,hb3⟩;have HB3:=Lib.hid (below_then HB2.out hb3);have HU:=Lib.hid hu;obtain ⟨uu,cu,rfl⟩:=hu.len;rw [clkRows_length] at HU ⊢;have HI0:Hid (ClkI w w3 l n 0 (.slice (some ⟨w1.heap.size,0,none⟩) 0 m) []):=⟨HB3.out,rfl,HO2.out.below hb3,fun q hq=>by omega⟩;clear hu hb3 TCK HO2 HB2;go_wp2_with fail;go_loopw [5,18] (fun u5 u18 wr=>∃(j:Nat) (p:Option Addr) (q r:Nat) (vs:List Value),u18=.int .i64 (j:Int)∧j≤m∧u5=.slice p q r∧Hid (ClkI w wr l n j (.slice p q r) vs)∧Hid (OwnS wr (w2.heap.size+2) 54 8 (.slice uu m cu) (clkRows l m))∧Hid (w3.heap.size≤wr.heap.size)) (fun _ u18 _=>m - (intOf u18).toNat)
 case atStart=>exact ⟨0,_,_,_,[],rfl,by omega,rfl,HI0,HU,Nat.le_refl _⟩
 case round=>
  clear HI0 HU;obtain ⟨j,p,q,r,vs,rfl,hj,rfl,HI,HUj,HZ⟩:=hrel;obtain ⟨wo,rfl⟩:∃wo:World,wo=wr:=⟨_,rfl⟩;by_cases hlt:j<m
  ·have hltI:(j:Int)<(m:Int):=by omega
   have hus:=HUj.out.sls (by rw [clkRows_length]; omega);rw [show clkRows l m=ckR (clkAt l) m from rfl] at hus;obtain ⟨bu,ou,cu2,hve,hbu,kc⟩:=ckR_at hus (by omega);simp only [Value.slice.injEq] at hve;obtain ⟨hv1,-,hv3⟩:=hve;subst hv1;subst hv3;obtain ⟨c,hc⟩:∃c,clkAt l j=c:=⟨_,rfl⟩;have HC:=Lib.hid hc;have c0:=kc j 0 wo hlt (by decide) (Below.refl _ _);have c1:=kc j 1 wo hlt (by decide) (Below.refl _ _);have c2:=kc j 2 wo hlt (by decide) (Below.refl _ _);have c3:=kc j 3 wo hlt (by decide) (Below.refl _ _);have c4:=kc j 4 wo hlt (by decide) (Below.refl _ _);have c5:=kc j 5 wo hlt (by decide) (Below.refl _ _);have c6:=kc j 6 wo hlt (by decide) (Below.refl _ _);have c7:=kc j 7 wo hlt (by decide) (Below.refl _ _);rw [hc] at c0 c1 c2 c3 c4 c5 c6 c7;rw [Nat.add_zero] at c0;clear kc hc hus;obtain ⟨Wi,hWi⟩:∃Wi,(wo.alloc (.cells #[.int .i64 0,.int .i64 0,.int .i64 0,.int .i64 0,.int .i64 0,.int .i64 0,.int .i64 0,.int .i64 0] 54)).setRow wo.heap.size #[.int .i64 (c 0),.int .i64 (c 1),.int .i64 (c 2),.int .i64 (c 3),.int .i64 (c 4),.int .i64 (c 5),.int .i64 (c 6),.int .i64 (c 7)]=Wi:=⟨_,rfl⟩;have Ni:Hid ((wo.alloc (.cells #[.int .i64 0,.int .i64 0,.int .i64 0,.int .i64 0,.int .i64 0,.int .i64 0,.int .i64 0,.int .i64 0] 54)).heap[wo.heap.size]?=some (.cells #[.int .i64 0,.int .i64 0,.int .i64 0,.int .i64 0,.int .i64 0,.int .i64 0,.int .i64 0,.int .i64 0] 54 (0,0))):=heap_alloc_new _ _;have HBi:Hid (Below wo.heap.size wo Wi):=hWi▸row_below (below_new (Below.refl _ _) _) (Nat.le_refl _) _;have RI:Hid (Wi.heap[wo.heap.size]?=some (.cells #[.int .i64 (c 0),.int .i64 (c 1),.int .i64 (c 2),.int .i64 (c 3),.int .i64 (c 4),.int .i64 (c 5),.int .i64 (c 6),.int .i64 (c 7)] 54 (0,0))):=hWi▸setRow_heap _ _ _ _ _ (0,0) Ni.out;have HWi:=Lib.hid hWi;clear hWi;go_upto_region 7 with (refine wpList_store_row rfl 54 _ _ rfl (wo.heap.size) _ rfl rfl 54 _ Ni.out (by kernel_rfl) rfl (by simp [Value.oneCell']) ?_)
   rw [HWi.out];try simp only [Act.put]
   have HII:=Lib.hid (HI.out.below HBi.out);have HUI:=Lib.hid (HUj.out.below HBi.out);have HSI:Hid (SlI Wi .i64 (.slice (some ⟨wo.heap.size,0,none⟩) n 8) (clkI l j n)):=clk_slI (T:=54) (by rw [HC.out]; exact RI.out) hn8 (by omega);have hnI:(n:Int)≤8:=by omega
   have hn0:(0:Int)≤(n:Int):=by omega
   have hnn:¬(n:Int)<0:=by omega
   have TCL:=Lib.hid (cloneI_any _ _ Wi HSI.out (by rw [clkI_len]; omega));clear HWi Ni c0 c1 c2 c3 c4 c5 c6 c7 HI HUj;go_wp2_with fail;refine TCL.out.mono ?_; rintro e w5 ⟨v5,rfl,ho5,hb5⟩;have HI5:=Lib.hid (HII.out.below hb5);have HU5:=Lib.hid (HUI.out.below hb5);have HV5:Hid (OwnI w5 w.heap.size 3 .i64 v5 (clkI l j n)):=OwnI.baseK ho5 (by have:=HBi.out.size; have:=HII.out.bw.size; omega);have hz5:w3.heap.size≤w5.heap.size:=by have h1:=HZ.out; have h2:=HBi.out.size; have h3:=hb5.size; omega
   clear hb5 ho5 TCL HII HUI HSI RI HBi;obtain ⟨pv,cv,hv5⟩:=HV5.out.lenK;obtain ⟨Wl,hWl⟩:∃Wl,w5.alloc (.cells #[v5] 36)=Wl:=⟨_,rfl⟩;have HBl:Hid (Below w5.heap.size w5 Wl):=hWl▸below_new (Below.refl _ _) _;have Rl:Hid (Wl.heap[w5.heap.size]?=some (.cells #[v5] 36 (0,0))):=hWl▸heap_alloc_new _ _;have HWl:=Lib.hid hWl;have HIl:=Lib.hid (HI5.out.below HBl.out);have HUl:=Lib.hid (HU5.out.below HBl.out);have HVl:Hid (OwnI Wl w.heap.size 3 .i64 v5 (clkI l j n)):=OwnI.belowK HV5.out HBl.out;have hszl:w.heap.size≤Wl.heap.size:=HIl.out.bw.size;have hv1:v5.oneCell'=true:=by rw [hv5]; rfl
   clear hWl HI5 HU5 HV5;subst hv5;go_wp2_with (first | (rw [HWl.out]) | refine wp_append_ss 33 (by kernel_rfl) Try.info_li rfl (by decide) (by decide) rfl _ _ rfl (by rfl) HIl.out.own [[.slice pv (clkI l j n).length cv]] (fun r hr=>by rw [List.mem_singleton.1 hr]; exact ⟨rfl,fun u hu=>by rw [List.mem_singleton.1 hu]; rfl⟩) w5.heap.size 1 rfl (by rfl) Rl.out (by rw [List.length_map,HIl.out.len]; simp; omega) hszl ?_);intro v6 w6 ho6 hg6;obtain ⟨p6,q6,rfl⟩:=ho6.len;have HI6:=Lib.hid (HIl.out.push HVl.out ho6 hg6 hszl);have HU6:=Lib.hid (HUl.out.kept hg6 (OwnS.apart HUl.out HIl.out.own (by decide)));have hz6:Hid (w3.heap.size≤w6.heap.size):=Nat.le_trans hz5 (Nat.le_trans HBl.out.size hg6.size);obtain ⟨m6,hm6⟩:∃z,((vs.map fun v=>[v]) ++ [[Value.slice pv (clkI l j n).length cv]]).length=z:=⟨_,rfl⟩;rw [hm6] at HI6 ⊢;clear ho6 hg6 hm6 HIl HUl HVl;go_wp2_with fail;go_roundw
   case rel=>exact ⟨j+1,p6,m6,q6,_,by go_num,by omega,rfl,HI6,HU6,hz6⟩
   case measure=>simp [intOf]; omega
  ·have hge:¬(j:Int)<(m:Int):=by omega
   have hjm:j=m:=by omega
   subst hjm;go_wp2;go_ret;exact ⟨_,rfl,vs,HI.out⟩
end Go.Proofs.Ytfbdehcibgdagaa
