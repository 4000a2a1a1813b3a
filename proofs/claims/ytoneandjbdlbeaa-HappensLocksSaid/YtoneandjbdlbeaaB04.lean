import Derived.Deep.DeepCutAuto
import Derived.Deep.CutBlock
import Derived.Deep.LoopGhost
import Derived.Laws.AppendOwnNone
import Derived.Deep.RegionHeld3
import Derived.Deep.RegionLaw
import Derived.Test.YtoneandjbdlbeaaB03
import Derived.Test.YtoneandjbdlbeaaB01
import Derived.Test.YtoneandjbdlbeaaB02
set_option linter.unusedVariables false
set_option linter.unusedSimpArgs false
namespace Go.Proofs.Ytoneandjbdlbeaa
open Go.ChangeShapes Go.WideShapes Go.ChangeAt Go.RowKit Go.WideMaps
set_option maxRecDepth 100000
open Go.Maps (Keyed)
theorem Try.info_pr2:(Try.prog.info? 63).map (fun i=>(i.zero,i.size,i.bytes))=some (some (.agg #[.int .i64 0,.int .i64 0]),2,16):=by kernel_rfl
def racesP (l:List ItemM) (a:Nat):List (Nat × Nat):=(List.range a).flatMap fun x=>(tgt l x).map fun b=>(x,b)
def prL (c:Nat × Nat):List Value:=[.int .i64 (c.1:Int),.int .i64 (c.2:Int)]
def prRows (l:List (Nat × Nat)):List (List Value):=l.map prL
theorem racesP_succ (l:List ItemM) (a:Nat):racesP l (a+1)=racesP l a ++ (tgt l a).map fun b=>(a,b):=by
 unfold racesP;rw [List.range_succ,List.flatMap_append];simp
theorem prRows_length (l:List (Nat × Nat)):(prRows l).length=l.length:=by simp [prRows]
theorem tgt_len (l:List ItemM) (a:Nat):(tgt l a).length≤l.length:=by
 unfold tgt;have:=List.length_filter_le (fun b=>decide (a<b) && hitB l a b) (List.range l.length);rwa [List.length_range] at this
theorem racesP_len (l:List ItemM) (a:Nat):(racesP l a).length≤a * l.length:=by
 induction a with
 | zero=>simp [racesP]
 | succ a ih=>
  rw [racesP_succ,List.length_append,List.length_map,Nat.succ_mul];have:=tgt_len l a;omega
theorem ownI_apart {w:World} {b1 b2 s:Nat} {e1 e2:TypeId} {k:IntKind} {v v2:Value} {l:List Int} {rows:List (List Value)} (h:OwnI w b1 e1 k v l) (h2:OwnS w b2 e2 s v2 rows) (he:e1≠e2):v.ownBlock=none∨v.ownBlock≠v2.ownBlock:=by
 rcases h.2 with ⟨rfl,_⟩ | ⟨g,cap,cur,rfl,_,hg,_⟩
 ·exact .inl rfl
 ·rcases h2.2.2 with ⟨rfl,_⟩ | ⟨g',cap',cur',rfl,_,hg',_⟩
  ·exact .inr (by simp [Value.ownBlock])
  ·refine .inr ?_
   simp only [Value.ownBlock,ne_eq,Option.some.injEq];intro e;rw [e,hg'] at hg;simp at hg;exact he hg.2.symm
theorem tgtI_get {l:List ItemM} {a j:Nat} (hj:j<(tgt l a).length):(tgtI l a).getD j 0=((tgt l a).getD j 0:Nat):=by
 unfold tgtI;rw [List.getD_eq_getElem?_getD,List.getElem?_map,List.getD_eq_getElem?_getD,List.getElem?_eq_getElem hj];rfl
theorem tgtI_len (l:List ItemM) (a:Nat):(tgtI l a).length=(tgt l a).length:=by simp [tgtI]
theorem OwnS.base {w:World} {b1 b2 s:Nat} {e:TypeId} {v:Value} {rows:List (List Value)} (h:OwnS w b1 e s v rows) (hb:b2≤b1):OwnS w b2 e s v rows:=by
 refine ⟨h.1,h.2.1,?_⟩;rcases h.2.2 with h2 | ⟨g,cap,cur,h3,h4,h5⟩
 ·exact .inl h2
 ·exact .inr ⟨g,cap,cur,h3,Nat.le_trans hb h4,h5⟩
theorem tgtI_wrap {l:List ItemM} (hl:l.length≤100000) (a:Nat):∀x∈tgtI l a,x=IntKind.i64.wrap x:=fun x hx=>by
 unfold tgtI at hx;obtain ⟨b,hb,rfl⟩:=List.mem_map.1 hx;unfold tgt at hb;have:=List.mem_range.1 (List.mem_filter.1 hb).1;rw [IntKind.wrap_i64];omega
theorem SlI.cellAtK {w:World} {k:IntKind} {a:Option Addr} {n cap:Nat} {l:List Int} (h:SlI w k (.slice a n cap) l) (t:Nat) (ht:t<l.length) :
  ∃b off,a=some ⟨b,off,none⟩∧b<w.heap.size∧w.cell? ⟨b,off+t,none⟩=some (.int k (l.getD t 0)):=by
 obtain ⟨_,_,a',cap',e,_,h5⟩:=h;simp only [Value.slice.injEq] at e;obtain ⟨rfl,-,-⟩:=e;exact h5 t ht
set_option maxRecDepth 100000 in
set_option maxHeartbeats 16000000 in
theorem races_any (l:List ItemM) (n:Int) (v:Value) (w:World) (hv:SlT w v l) (hn:1≤n∧n≤8) (hth:∀x∈l,0≤x.thr∧x.thr<n) (hl:l.length≤900):Calls Try.prog 18 #[v,.int .i64 n] w fun e w'=>∃r,e=.returned r∧OwnS w' w.heap.size 63 2 r (prRows (racesP l l.length))∧Below w.heap.size w w':=by
 have TE:=Lib.hid (expected_any l n v w hv hn hth);have hth8:∀x∈l,0≤x.thr∧x.thr<8:=fun x hx=>by have:=hth x hx; omega
 have TCK:=Lib.hid fun w' (hb:Below w.heap.size w w')=>clocks_any l v w' (hv.below hb) hth8 (by omega);have TGR:=Lib.hid fun w' (hb:Below w.heap.size w w')=>groups_any l v w' (hv.below hb) (by omega);have TPA:=Lib.hid fun a u f m w0 w' (hb:Below w.heap.size w w') (hu:SlS w' 8 u (ckR (clkAt l) l.length)) (hG:GrI w0 w' m (grpN l l.length) f) (ha:a<l.length)=>part_any l a v u f m w0 w' (hv.below hb) hth8 (by omega) hu hG ha;obtain ⟨va,cap,rfl,hcap⟩:=hv.len;obtain ⟨m,hm⟩:∃m,l.length=m:=⟨_,rfl⟩;have HM:=Lib.hid hm;rw [hm] at TE TCK TGR TPA hl ⊢;clear hv hth hth8 hm hn;go_enter Try.func18,Try.ntmps18;go_wp2_with fail;refine TE.out.mono ?_; rintro e w1 ⟨rfl,hb1⟩;have HB1:=Lib.hid hb1;clear hb1 TE;go_wp2_with fail;refine (TCK.out w1 HB1.out).mono ?_; rintro e w2 ⟨u,rfl,hu,hb2⟩;have HB2:=Lib.hid (below_then HB1.out hb2);have HU:=Lib.hid (hu.sls (by rw [clkRows_length]; omega));rw [show clkRows l m=ckR (clkAt l) m from rfl] at HU;obtain ⟨uu,cu,rfl⟩:=hu.len;rw [clkRows_length] at HU ⊢;clear hb2 hu TCK;go_wp2_with fail;refine (TGR.out w2 HB2.out).mono ?_; rintro e w3 ⟨rfl,f,hG⟩;have HG:=Lib.hid hG;have HB3:=Lib.hid (below_then HB2.out hG.bw);have HU3:=Lib.hid (HU.out.below hG.bw);clear hG TGR HB1 HB2 HU;go_wp2_with fail;go_loopw [7,21] (fun u7 u21 wr=>∃(a:Nat) (p:Option Addr) (q r:Nat),u21=.int .i64 (a:Int)∧a≤m∧u7=.slice p q r∧Hid (Below w3.heap.size w3 wr)∧Hid (OwnS wr w3.heap.size 63 2 (.slice p q r) (prRows (racesP l a)))) (fun _ u21 _=>m - (intOf u21).toNat)
 case atStart=>exact ⟨0,none,0,0,rfl,by omega,rfl,Below.refl _ _,OwnS.nil _ _ _ _⟩
 case round=>
  obtain ⟨a,p,q,r,rfl,ha,rfl,HB,HO⟩:=hrel;obtain ⟨wo,rfl⟩:∃wo:World,wo=wr:=⟨_,rfl⟩;by_cases hlt:a<m
  ·have hltI:(a:Int)<(m:Int):=by omega
   have TP:=Lib.hid (TPA.out a _ f _ w2 wo (below_then HB3.out HB.out) (HU3.out.below HB.out) (HG.out.below HB.out) hlt);go_wp2_with fail;refine TP.out.mono ?_; rintro e w4 ⟨r4,rfl,ho4,hb4⟩;have HB4:=Lib.hid (below_then HB.out hb4);have HO4:=Lib.hid (HO.out.below hb4);have HT4:=Lib.hid ho4;obtain ⟨p4,c4,rfl⟩:=ho4.lenK;rw [tgtI_len] at HT4 ⊢;clear ho4 hb4 TP HO HB;obtain ⟨n4,hn4⟩:∃z,(tgt l a).length=z:=⟨_,rfl⟩;have HN4:=Lib.hid hn4;rw [hn4] at HT4 ⊢;have hn4m:n4≤900:=by have:=tgt_len l a; have:=HM.out; omega
   clear hn4;go_wp2_with fail;go_loopw [7,30] (fun u7 u30 wr=>∃(j:Nat) (p:Option Addr) (q r:Nat),u30=.int .i64 (j:Int)∧j≤n4∧u7=.slice p q r∧Hid (Below w3.heap.size w3 wr)∧Hid (OwnS wr w3.heap.size 63 2 (.slice p q r) (prRows (racesP l a ++ ((tgt l a).take j).map fun b=>(a,b))))∧Hid (OwnI wr wo.heap.size 3 .i64 (.slice p4 n4 c4) (tgtI l a))) (fun _ u30 _=>n4 - (intOf u30).toNat)
   case atStart=>exact ⟨0,p,q,r,rfl,by omega,rfl,HB4,by simpa using HO4,HT4⟩
   case round=>
    clear HB4 HO4 HT4;obtain ⟨j,p5,q5,r5,rfl,hj,rfl,HBj,HOj,HTj⟩:=hrel;obtain ⟨wj,rfl⟩:∃wj:World,wj=wr:=⟨_,rfl⟩;by_cases hjl:j<n4
    ·have hjI:(j:Int)<(n4:Int):=by omega
     have hjt:j<(tgt l a).length:=by have:=HN4.out; omega
     obtain ⟨b,hb⟩:∃b,(tgt l a).getD j 0=b:=⟨_,rfl⟩;have HBD:=Lib.hid hb;obtain ⟨RJ,hRJ⟩:∃z,prRows (racesP l a ++ ((tgt l a).take j).map fun b=>(a,b))=z:=⟨_,rfl⟩;have HRJ:=Lib.hid hRJ;have hlen:RJ.length+1≤1000001:=by
      rw [← hRJ,prRows_length,List.length_append,List.length_map,List.length_take];have h1:=racesP_len l a;rw [HM.out] at h1;have h2:a * m≤900 * 900:=Nat.mul_le_mul (by omega) (by omega);omega
     rw [hRJ] at HOj;clear hRJ;have hcl:=SlI.cellAtK (OwnI.read HTj.out (by rw [tgtI_len]; have:=HN4.out; omega) (tgtI_wrap (by have:=HM.out; omega) a)) j (by rw [tgtI_len]; exact hjt);obtain ⟨b2,o2,hv2,hlt2,c0⟩:=hcl;rw [tgtI_get hjt,hb] at c0;subst hv2;clear hb;obtain ⟨Wl,hWl⟩:∃Wl,wj.alloc (.cells #[.int .i64 (a:Int),.int .i64 (b:Int)] 63)=Wl:=⟨_,rfl⟩;have HBl:Hid (Below wj.heap.size wj Wl):=hWl▸below_new (Below.refl _ _) _;have Rl:Hid (Wl.heap[wj.heap.size]?=some (.cells #[.int .i64 (a:Int),.int .i64 (b:Int)] 63 (0,0))):=hWl▸heap_alloc_new _ _;have HWl:=Lib.hid hWl;have HOl:=Lib.hid (HOj.out.below HBl.out);have HTl:=Lib.hid (OwnI.belowK HTj.out HBl.out);have HBl2:=Lib.hid (below_then HBj.out HBl.out);have hszl:w3.heap.size≤Wl.heap.size:=HBl2.out.size;clear hWl;go_wp2_with (first | (rw [HWl.out]) | refine wp_append_ss 40 (by kernel_rfl) Try.info_pr2 rfl (by decide) (by decide) rfl _ _ rfl (by rfl) HOl.out [prL (a,b)] (fun r hr=>by rw [List.mem_singleton.1 hr]; exact ⟨rfl,by simp [prL,Value.oneCell']⟩) wj.heap.size 1 rfl (by rfl) Rl.out hlen hszl ?_);intro v6 w6 ho6 hg6;have HO6:=Lib.hid ho6;have hlt6:∀k,(Value.slice p5 q5 r5).ownBlock=some k→w3.heap.size≤k:=fun k hk=>(HOl.out.lt k hk).1;have HB6:Hid (Below w3.heap.size w3 w6):=HBl2.out.grown hg6 hszl hlt6;have HT6:Hid (OwnI w6 wo.heap.size 3 .i64 (.slice (some ⟨b2,o2,none⟩) n4 c4) (tgtI l a)):=World.ownsRow.kept HTl.out hg6 (ownI_apart HTl.out HOl.out (by decide));obtain ⟨p6,q6,rfl⟩:=ho6.len;obtain ⟨m6,hm6⟩:∃z,(RJ ++ [prL (a,b)]).length=z:=⟨_,rfl⟩;rw [hm6] at HO6 ⊢;clear ho6 hg6 HOl HTl HBl2 hlen hm6 HOj HTj HBj c0;go_wp2_with fail;go_roundw
     case rel=>
      refine ⟨j+1,p6,m6,q6,by go_num,by omega,rfl,HB6,?_,HT6⟩;rw [take_snoc hjt,HBD.out,List.map_append,← List.append_assoc];have e:prRows (racesP l a ++ ((tgt l a).take j).map (fun b=>(a,b)) ++ [b].map fun b=>(a,b))=prRows (racesP l a ++ ((tgt l a).take j).map fun b=>(a,b)) ++ [prL (a,b)]:=by simp [prRows]
      rw [e,HRJ.out];exact HO6
     case measure=>simp [intOf]; omega
    ·have hge:¬(j:Int)<(n4:Int):=by omega
     have hjd:j=n4:=by omega
     go_wp2_with fail;go_roundw
     case rel=>
      refine ⟨a+1,p5,q5,r5,by go_num,by omega,rfl,HBj,?_⟩;have h9:=HOj.out;rw [hjd,← HN4.out,List.take_length,← racesP_succ] at h9;exact h9
     case measure=>simp [intOf]; omega
  ·have hge:¬(a:Int)<(m:Int):=by omega
   have ham:a=m:=by omega
   subst ham;have hsz:=HB3.out.size;have HBF:=Lib.hid (below_then HB3.out HB.out);go_wp2;go_ret;exact ⟨_,rfl,HO.out.base (by omega),HBF.out⟩
def awL:List ItemM:=[⟨0,⟨6,0,0,0,0⟩,0,false⟩,⟨0,⟨2,1,0,1,0⟩,0,false⟩,⟨1,⟨1,1,0,0,0⟩,1,false⟩,⟨1,⟨5,0,0,0,0⟩,0,false⟩]
def awM:List ItemM:=[⟨0,⟨6,0,0,0,0⟩,0,false⟩,⟨1,⟨5,0,0,0,0⟩,0,false⟩]
theorem awL_races:(racesP awL 4).length=0:=by decide +kernel
theorem awM_races:(racesP awM 2).length=1:=by decide +kernel
theorem awL_good:∀x∈awL,x.good:=by
 intro x hx;simp only [awL,List.mem_cons,List.not_mem_nil,or_false] at hx;rcases hx with rfl | rfl | rfl | rfl <;> exact ⟨by decide,⟨by decide,by decide,by decide,by decide,by decide⟩,by decide⟩
theorem awM_good:∀x∈awM,x.good:=by
 intro x hx;simp only [awM,List.mem_cons,List.not_mem_nil,or_false] at hx;rcases hx with rfl | rfl <;> exact ⟨by decide,⟨by decide,by decide,by decide,by decide,by decide⟩,by decide⟩
theorem awL_thr:∀x∈awL,0≤x.thr∧x.thr<2:=by decide
theorem awM_thr:∀x∈awM,0≤x.thr∧x.thr<2:=by decide
theorem SlT.lit {w:World} {g:Nat} {l:List ItemM} (h:w.heap[g]?=some (.cells (l.flatMap itemCells).toArray 30 (0,0))) (hl:l.length≤1000) (hg:∀x∈l,x.good):SlT w (.slice (some ⟨g,0,none⟩) l.length l.length) l:=by
 refine OwnT.read (base:=0) ⟨by rw [flatT_length],.inr ⟨g,l.length,_,rfl,Nat.zero_le _,h,Nat.le_refl _,by unfold maxLen; omega,?_,?_⟩⟩ (by omega) hg
 ·rw [List.size_toArray,flatT_length]
 ·rw [← flatT_length,List.take_length]
set_option maxRecDepth 100000 in
set_option maxHeartbeats 16000000 in
theorem awakeH_any (w:World):Calls Try.prog 9 #[] w fun e w'=>e=.returned (.bool true)∧Below w.heap.size w w':=by
 obtain ⟨W,hW⟩:∃W,w.alloc (.cells #[.int .i64 0,.int .i64 6,.int .i64 0,.int .u64 0,.int .u64 0,.int .i64 0,.int .u64 0,.bool false,.int .i64 0,.int .i64 2,.int .i64 1,.int .u64 0,.int .u64 1,.int .i64 0,.int .u64 0,.bool false,.int .i64 1,.int .i64 1,.int .i64 1,.int .u64 0,.int .u64 0,.int .i64 0,.int .u64 1,.bool false,.int .i64 1,.int .i64 5,.int .i64 0,.int .u64 0,.int .u64 0,.int .i64 0,.int .u64 0,.bool false] 30)=W:=⟨_,rfl⟩;have HB:Hid (Below w.heap.size w W):=hW▸below_new (Below.refl _ _) _;have RL:Hid (W.heap[w.heap.size]?=some (.cells #[.int .i64 0,.int .i64 6,.int .i64 0,.int .u64 0,.int .u64 0,.int .i64 0,.int .u64 0,.bool false,.int .i64 0,.int .i64 2,.int .i64 1,.int .u64 0,.int .u64 1,.int .i64 0,.int .u64 0,.bool false,.int .i64 1,.int .i64 1,.int .i64 1,.int .u64 0,.int .u64 0,.int .i64 0,.int .u64 1,.bool false,.int .i64 1,.int .i64 5,.int .i64 0,.int .u64 0,.int .u64 0,.int .i64 0,.int .u64 0,.bool false] 30 (0,0))):=hW▸heap_alloc_new _ _;have HW:=Lib.hid hW;have KS:Hid (∀w',Below W.heap.size W w'→(fun w':World=>w'.cell? ⟨w.heap.size,0,none⟩=some (.int .i64 0)∧w'.cell? ⟨w.heap.size,1,none⟩=some (.int .i64 6)∧w'.cell? ⟨w.heap.size,2,none⟩=some (.int .i64 0)∧w'.cell? ⟨w.heap.size,3,none⟩=some (.int .u64 0)∧w'.cell? ⟨w.heap.size,4,none⟩=some (.int .u64 0)∧w'.cell? ⟨w.heap.size,5,none⟩=some (.int .i64 0)∧w'.cell? ⟨w.heap.size,6,none⟩=some (.int .u64 0)∧w'.cell? ⟨w.heap.size,7,none⟩=some (.bool false)∧w'.cell? ⟨w.heap.size,24,none⟩=some (.int .i64 1)∧w'.cell? ⟨w.heap.size,25,none⟩=some (.int .i64 5)∧w'.cell? ⟨w.heap.size,26,none⟩=some (.int .i64 0)∧w'.cell? ⟨w.heap.size,27,none⟩=some (.int .u64 0)∧w'.cell? ⟨w.heap.size,28,none⟩=some (.int .u64 0)∧w'.cell? ⟨w.heap.size,29,none⟩=some (.int .i64 0)∧w'.cell? ⟨w.heap.size,30,none⟩=some (.int .u64 0)∧w'.cell? ⟨w.heap.size,31,none⟩=some (.bool false)) w'):=fun w' hb=>by
  have h:=row_below3k hb RL.out;have hc:∀j u,(#[.int .i64 0,.int .i64 6,.int .i64 0,.int .u64 0,.int .u64 0,.int .i64 0,.int .u64 0,.bool false,.int .i64 0,.int .i64 2,.int .i64 1,.int .u64 0,.int .u64 1,.int .i64 0,.int .u64 0,.bool false,.int .i64 1,.int .i64 1,.int .i64 1,.int .u64 0,.int .u64 0,.int .i64 0,.int .u64 1,.bool false,.int .i64 1,.int .i64 5,.int .i64 0,.int .u64 0,.int .u64 0,.int .i64 0,.int .u64 0,.bool false]:Array Value)[j]?=some u→w'.cell? ⟨w.heap.size,j,none⟩=some u:=fun j u hj=>(cell_of_row _ _ j _ _ _ h).trans hj;exact ⟨hc 0 _ rfl,hc 1 _ rfl,hc 2 _ rfl,hc 3 _ rfl,hc 4 _ rfl,hc 5 _ rfl,hc 6 _ rfl,hc 7 _ rfl,hc 24 _ rfl,hc 25 _ rfl,hc 26 _ rfl,hc 27 _ rfl,hc 28 _ rfl,hc 29 _ rfl,hc 30 _ rfl,hc 31 _ rfl⟩
 clear hW;go_enter Try.func9,Try.ntmps9;go_upto_region 2 with fail
 rw [HW.out];clear HW;refine untilK KS 6 8 (by kernel_rfl) rfl ?_;obtain ⟨u0,hu0,hU0⟩:=drew_pack W;rw [hu0];clear hu0;have HU0:=Lib.hid hU0.out;clear hU0;have hSU0:=KS.out _ HU0.out;apply tkW 0 (fun _=>hSU0) rfl (by kernel_rfl) (fun _ _ _ h=>h) rfl;intro w;(go_simp<;>with_reducible rfl);simp only [J0,J1,J2,J3,J4];apply tkW 1 (fun _=>hSU0) rfl (by kernel_rfl) (fun _ _ _ h=>h) rfl;intro w;(go_simp<;>with_reducible rfl);simp only [J0,J1,J2,J3,J4];apply tkV 2 hSU0 rfl (by kernel_rfl) (fun _ _ _ h=>h) rfl;intro w hSw;(go_simp<;>with_reducible rfl);simp only [J0,J1,J2,J3,J4];apply tkW 3 (fun _=>hSU0) rfl (by kernel_rfl) (fun _ _ _ h=>h) rfl;intro w;(go_simp<;>with_reducible rfl);simp only [J0,J1,J2,J3,J4];apply tkW 4 (fun _=>hSU0) rfl (by kernel_rfl) (fun _ _ _ h=>h) rfl;intro w;(go_simp<;>with_reducible rfl);simp only [J0,J1,J2,J3,J4];apply tkV 5 hSU0 rfl (by kernel_rfl) (fun _ _ _ h=>h) rfl;intro w hSw;(go_simp<;>with_reducible rfl);simp only [J0,J1,J2,J3,J4];refine freeU 6 rfl (by kernel_rfl) rfl (by kernel_rfl) fun K hK=>?_;go_simp;refine hK.out _ _ ?_;clear hK K hSU0;(try simp only [J0,J1,J2,J3,J4]);apply tkW 7 (past_k (by kernel_rfl)) rfl (by kernel_rfl) (fun _ _ _ h=>h) rfl;intro w;(go_simp<;>with_reducible rfl);simp only [J0,J1,J2,J3,J4];refine wpAnyU_done (by kernel_rfl) ?_ _;have HW2:Hid (Below u0.heap.size u0 (u0.alloc (.cells #[.int .i64 0,.int .i64 6,.int .i64 0,.int .u64 0,.int .u64 0,.int .i64 0,.int .u64 0,.bool false,.int .i64 1,.int .i64 5,.int .i64 0,.int .u64 0,.int .u64 0,.int .i64 0,.int .u64 0,.bool false] 30))):=below_new (Below.refl _ _) _;have RM:Hid ((u0.alloc (.cells #[.int .i64 0,.int .i64 6,.int .i64 0,.int .u64 0,.int .u64 0,.int .i64 0,.int .u64 0,.bool false,.int .i64 1,.int .i64 5,.int .i64 0,.int .u64 0,.int .u64 0,.int .i64 0,.int .u64 0,.bool false] 30)).heap[u0.heap.size]?=some (.cells #[.int .i64 0,.int .i64 6,.int .i64 0,.int .u64 0,.int .u64 0,.int .i64 0,.int .u64 0,.bool false,.int .i64 1,.int .i64 5,.int .i64 0,.int .u64 0,.int .u64 0,.int .i64 0,.int .u64 0,.bool false] 30 (0,0))):=heap_alloc_new _ _
 obtain ⟨w2,hw2⟩:∃z,u0.alloc (.cells #[.int .i64 0,.int .i64 6,.int .i64 0,.int .u64 0,.int .u64 0,.int .i64 0,.int .u64 0,.bool false,.int .i64 1,.int .i64 5,.int .i64 0,.int .u64 0,.int .u64 0,.int .i64 0,.int .u64 0,.bool false] 30)=z:=⟨_,rfl⟩;rw [hw2] at HW2 RM;try rw [hw2]
 have HB2:=Lib.hid (below_then HB.out (below_then HU0.out HW2.out));have TRL:=Lib.hid (races_any awL 2 (.slice (some ⟨w.heap.size,0,none⟩) 4 4) w2 ((SlT.lit (l:=awL) RL.out (by decide) awL_good).below (below_then HU0.out HW2.out)) ⟨by decide,by decide⟩ awL_thr (by decide));have TRM:=Lib.hid fun w' (hb:Below w2.heap.size w2 w')=>races_any awM 2 (.slice (some ⟨u0.heap.size,0,none⟩) 2 2) w' ((SlT.lit (l:=awM) RM.out (by decide) awM_good).below hb) ⟨by decide,by decide⟩ awM_thr (by decide);clear hw2 HW2 RM;go_wp2_with fail;refine TRL.out.mono ?_; rintro e w3 ⟨r3,rfl,ho3,hb3⟩;obtain ⟨p3,c3,rfl⟩:=ho3.len;have e3:(prRows (racesP awL awL.length)).length=0:=by rw [prRows_length]; exact awL_races
 rw [e3];have HB3:=Lib.hid (below_then HB2.out hb3);have TM2:=Lib.hid (TRM.out w3 hb3);clear ho3 hb3 e3 TRL TRM;go_wp2_with fail;refine TM2.out.mono ?_; rintro e w4 ⟨r4,rfl,ho4,hb4⟩;obtain ⟨p4,c4,rfl⟩:=ho4.len;have e4:(prRows (racesP awM awM.length)).length=1:=by rw [prRows_length]; exact awM_races
 rw [e4];have HB4:=Lib.hid (below_then HB3.out hb4);clear ho4 hb4 e4 TM2;go_wp2;go_ret;exact ⟨rfl,HB4.out⟩
def CodesE (w:World) (g:Nat):Prop:=∃r val,CodesAt w g r val
theorem CodesE.lt {w:World} {g:Nat} (h:CodesE w g):g<w.heap.size:=by obtain ⟨r,val,h⟩:=h; exact h.lt
theorem CodesE.kept {w w':World} {g B:Nat} (h:CodesE w g) (hB:g<B) (hb:Below B w w'):CodesE w' g:=by
 obtain ⟨r,val,h⟩:=h; exact ⟨r,val,h.kept hB hb⟩
theorem nextE (g:Nat) (n:Int) (w:World) (h:CodesE w g) (h1:1≤n) (h2:n≤256) :
  Calls Try.prog 22 #[.pointer (some ⟨g,0,none⟩),.int .i64 n] w fun e w'=>∃x:Int,e=.returned (.int .i64 x)∧0≤x∧x<n∧CodesE w' g∧w.grownBy w' (some g):=by
 obtain ⟨r,val,h⟩:=h;refine (next_any g r val n w h h1 h2).mono ?_;rintro e w' ⟨rfl,hc,hg⟩;have:=nxt_bd r n h1;exact ⟨_,rfl,this.1,this.2,⟨_,_,hc⟩,hg⟩
def Off (a b:Nat) (w0:World):World→Prop:=fun w=>w0.heap.size≤w.heap.size∧∀j,j<w0.heap.size→j≠a→j≠b→w.heap[j]?=w0.heap[j]?
theorem Off.trans {a b:Nat} {w0 w1 w2:World} (h:Off a b w0 w1) (h2:Off a b w1 w2):Off a b w0 w2:=
 ⟨Nat.le_trans h.1 h2.1,fun j hj ha hb=>(h2.2 j (Nat.lt_of_lt_of_le hj h.1) ha hb).trans (h.2 j hj ha hb)⟩
theorem Off.below {a b:Nat} {w w':World} (h:Below w.heap.size w w'):Off a b w w':=⟨h.size,fun j hj _ _=>h.block j hj⟩
theorem Off.grown {a b:Nat} {w w':World} (h:w.grownBy w' (some a)):Off a b w w':=⟨h.size,fun j hj ha _=>h.block j hj (by simp; omega)⟩
theorem Off.setRow {a b:Nat} (w:World) (cs:Array Value):Off a b w (w.setRow b cs):=⟨by simp [World.setRow],fun j _ _ hb=>setRow_other w b j cs hb⟩
theorem Off.setCell {a b:Nat} (w:World) (o:Nat) (u:Value):Off a b w (w.setCell ⟨b,o,none⟩ u):=⟨by simp,fun j _ _ hb=>heap_setCell_other w ⟨b,o,none⟩ j u hb⟩
theorem CodesE.grown {w w':World} {g b:Nat} (h:CodesE w g) (hg:g<b) (ho:w.grownBy w' (some b)):CodesE w' g:=
 h.kept (B:=g+1) (Nat.lt_succ_self _) ⟨ho.os,ho.tape,ho.output,ho.size,fun j hj=>ho.block j (by have:=h.lt; omega) (by simp; omega)⟩
theorem leftE (g:Nat) (w:World) (h:CodesE w g) :
  Calls Try.prog 21 #[.pointer (some ⟨g,0,none⟩)] w fun e w'=>∃b,e=.returned (.bool b)∧Below w.heap.size w w':=by
 obtain ⟨r,val,h⟩:=h;refine (left_any g r val w h).mono ?_;rintro e w' ⟨n,rfl,rfl⟩;exact ⟨_,rfl,below_drewN (Below.refl _ _) n⟩
theorem rowsT_apart {w:World} {b1 b2 n1 n2 s1 s2:Nat} {e1 e2:TypeId} {v1 v2:Value} {l1 l2:List Value} (h1:w.ownsRow b1 e1 s1 v1 n1 l1) (h2:w.ownsRow b2 e2 s2 v2 n2 l2) (he:e1≠e2):v1.ownBlock=none∨v1.ownBlock≠v2.ownBlock:=by
 rcases h1.2 with ⟨rfl,_⟩ | ⟨g,cap,cur,rfl,_,hg,_⟩
 ·exact .inl rfl
 ·rcases h2.2 with ⟨rfl,_⟩ | ⟨g',cap',cur',rfl,_,hg',_⟩
  ·exact .inr (by simp [Value.ownBlock])
  ·refine .inr ?_
   simp only [Value.ownBlock,ne_eq,Option.some.injEq];intro e;rw [e,hg'] at hg;simp at hg;exact he hg.2.symm
structure ItInv (w0 wr:World) (g X:Nat) (v:Value) (l:List ItemM) (th:Int):Prop where
 lt:g<w0.heap.size
 xw:w0.heap.size≤X
 codes:CodesE wr g
 grown:w0.grownBy wr (some g)
 words:∃ws,OwnI wr X 26 .u64 (.slice (some ⟨X,0,none⟩) 4 4) ws∧ws.length=4∧∀x∈ws,x=IntKind.u64.wrap x
 out:OwnT wr w0.heap.size v l
 good:∀x∈l,x.good∧0≤x.thr∧x.thr<th
theorem ItInv.apart {w0 wr:World} {g X:Nat} {v:Value} {l:List ItemM} {th:Int} (h:ItInv w0 wr g X v l th):v.ownBlock=none∨v.ownBlock≠some X:=by
 obtain ⟨ws,h1,-,-⟩:=h.words;exact rowsT_apart h.out h1 (by decide)
theorem ItInv.next {w0 wr w2:World} {g X:Nat} {v:Value} {l:List ItemM} {th:Int} (h:ItInv w0 wr g X v l th) (hc:CodesE w2 g) (hg:wr.grownBy w2 (some g)):ItInv w0 w2 g X v l th:=by
 have hl:=h.lt;have hx:=h.xw;obtain ⟨ws,h1,h2,h3⟩:=h.words;exact ⟨h.lt,h.xw,hc,grownBy_trans h.grown hg,⟨ws,h1.kept hg (h1.ne (by omega)),h2,h3⟩,h.out.kept hg (h.out.ne hl),h.good⟩
theorem ItInv.more {w0 wr w2:World} {g X:Nat} {v:Value} {l:List ItemM} {th:Int} (h:ItInv w0 wr g X v l th) (hb:Below wr.heap.size wr w2):ItInv w0 w2 g X v l th:=by
 obtain ⟨ws,h1,h2,h3⟩:=h.words;exact ⟨h.lt,h.xw,h.codes.kept h.codes.lt hb,grownBy_of_new h.grown (grown_below (row:=none) hb) (fun k hk=>by cases hk),⟨ws,h1.below hb,h2,h3⟩,h.out.below hb,h.good⟩
theorem ItInv.other {w0 wr w2:World} {g X Y:Nat} {v:Value} {l:List ItemM} {th:Int} (h:ItInv w0 wr g X v l th) (hg:wr.grownBy w2 (some Y)) (hY:w0.heap.size≤Y) (hx:X≠Y) (hv:v.ownBlock=none∨v.ownBlock≠some Y):ItInv w0 w2 g X v l th:=by
 have hl:=h.lt;obtain ⟨ws,h1,h2,h3⟩:=h.words;refine ⟨h.lt,h.xw,h.codes.grown (by omega) hg,grownBy_of_new h.grown hg (fun k hk=>by cases hk; omega),⟨ws,h1.kept hg (.inr (by simpa [Value.ownBlock] using hx)),h2,h3⟩,h.out.kept hg hv,h.good⟩
theorem ItInv.word {w0 wr:World} {g X:Nat} {v:Value} {l:List ItemM} {th:Int} (h:ItInv w0 wr g X v l th) (i:Nat) (x:Int) (hx:x=IntKind.u64.wrap x):ItInv w0 (wr.setCell ⟨X,i,none⟩ (.int .u64 x)) g X v l th:=by
 have hl:=h.lt;have hxw:=h.xw;have hg:=grownBy_setCell wr ⟨X,i,none⟩ (.int .u64 x);have ha:=h.apart;obtain ⟨ws,h1,h2,h3⟩:=h.words;refine ⟨h.lt,h.xw,h.codes.grown (by show g<X; omega) hg,grownBy_of_new h.grown hg (fun k hk=>by cases hk; exact hxw),⟨ws.set i x,h1.store i x h2.symm,by rw [List.length_set,h2],fun y hy=>?_⟩,h.out.kept hg ha,h.good⟩;rcases List.mem_or_eq_of_mem_set hy with hy | rfl
 ·exact h3 y hy
 ·exact hx
theorem ItInv.cell {w0 wr:World} {g X:Nat} {v:Value} {l:List ItemM} {th:Int} (h:ItInv w0 wr g X v l th) (i:Nat) (hi:i<4):∃x,wr.cell? ⟨X,i,none⟩=some (.int .u64 x)∧x=IntKind.u64.wrap x∧wr.frozen? ⟨X,i,none⟩=false:=by
 obtain ⟨ws,h1,h2,h3⟩:=h.words;obtain ⟨c,f⟩:=h1.cell i (by omega);refine ⟨_,c,?_,f⟩;have hl:i<ws.length:=by omega
 rw [List.getD_eq_getElem?_getD,List.getElem?_eq_getElem hl];exact h3 _ (List.getElem_mem hl)
theorem ItInv.add {w0 wr w2:World} {g X:Nat} {v v':Value} {l:List ItemM} {th:Int} {x:ItemM} (h:ItInv w0 wr g X v l th) (ho:OwnT w2 w0.heap.size v' (l ++ [x])) (hg:wr.grownBy w2 v.ownBlock) (hx:x.good∧0≤x.thr∧x.thr<th):ItInv w0 w2 g X v' (l ++ [x]) th:=by
 have hl:=h.lt;have ha:=h.apart;have hge:=h.out.own_ge;obtain ⟨ws,h1,h2,h3⟩:=h.words;refine ⟨h.lt,h.xw,?_,grownBy_of_new h.grown hg hge,⟨ws,h1.kept hg ?_,h2,h3⟩,ho,fun y hy=>?_⟩
 ·cases hv:v.ownBlock with
  | none=>rw [hv] at hg; exact h.codes.kept h.codes.lt ⟨hg.os,hg.tape,hg.output,hg.size,fun j hj=>hg.block j hj (by simp)⟩
  | some b=>rw [hv] at hg; exact h.codes.grown (by have:=hge b hv; omega) hg
 ·rcases ha with ha | ha
  ·exact .inr (by rw [ha]; simp [Value.ownBlock])
  ·exact .inr fun e=>ha (by rw [← e]; rfl)
 ·rw [List.mem_append,List.mem_singleton] at hy
  rcases hy with hy | rfl
  ·exact h.good y hy
  ·exact hx
structure ItY (w0 wr:World) (g X:Nat) (v:Value) (l:List ItemM) (th:Int) (Y:Nat) (x:ItemM):Prop where
 inv:ItInv w0 wr g X v l th
 yw:w0.heap.size≤Y
 xy:X≠Y
 ne:v.ownBlock=none∨v.ownBlock≠some Y
 row:wr.heap[Y]?=some (.cells #[.int .i64 x.thr,.int .i64 x.acc.kind,.int .i64 x.acc.addr,.int .u64 x.acc.old,.int .u64 x.acc.new,.int .i64 x.acc.til,.int .u64 x.val,.bool x.ok] 30 (0,0))
theorem ItY.word {w0 wr:World} {g X Y:Nat} {v:Value} {l:List ItemM} {th:Int} {x:ItemM} (h:ItY w0 wr g X v l th Y x) (i:Nat) (z:Int) (hz:z=IntKind.u64.wrap z):ItY w0 (wr.setCell ⟨X,i,none⟩ (.int .u64 z)) g X v l th Y x:=
 ⟨h.inv.word i z hz,h.yw,h.xy,h.ne,(heap_setCell_other wr ⟨X,i,none⟩ Y _ (Ne.symm h.xy)).trans h.row⟩
theorem SlC.grown {w w':World} {v:Value} {l:List CaseM} {g:Nat} (h:SlC w v l) (hg:w.grownBy w' (some g)) (ho:offB g v):SlC w' v l:=by
 obtain ⟨h1,h2,a,cap,rfl,h4,h5⟩:=h;refine ⟨h1,h2,a,cap,rfl,h4,fun t ht=>?_⟩;obtain ⟨b,off,rfl,hlt,c0,c1,c2⟩:=h5 t ht;have hb:b≠g:=(ho _ _ _ rfl).resolve_left (by omega);have k:∀j,w'.cell? ⟨b,j,none⟩=w.cell? ⟨b,j,none⟩:=fun j=>World.cell?_of_block (a:=⟨b,j,none⟩) (hg.block b hlt (by simpa using hb));exact ⟨b,off,rfl,Nat.lt_of_lt_of_le hlt hg.size,(k _).trans c0,(k _).trans c1,(k _).trans c2⟩
def ConfX (w:World) (g:Nat) (v:Value) (c:ConfM):Prop:=
 ∃vc vs,v=.agg #[vc,vs,.int .i64 c.threads]∧SlI w .i64 vc c.caps∧SlI w .u64 vs c.starts∧offB g vc∧offB g vs
theorem ConfX.below {w w':World} {g:Nat} {v:Value} {c:ConfM} (h:ConfX w g v c) (hb:Below w.heap.size w w'):ConfX w' g v c:=by
 obtain ⟨vc,vs,e,h1,h2,h3⟩:=h; exact ⟨vc,vs,e,h1.below hb,h2.below hb,h3⟩
theorem ConfX.grown {w w':World} {g:Nat} {v:Value} {c:ConfM} (h:ConfX w g v c) (hg:w.grownBy w' (some g)):ConfX w' g v c:=by
 obtain ⟨vc,vs,e,h1,h2,h3,h4⟩:=h; exact ⟨vc,vs,e,h1.grown hg h3,h2.grown hg h4,h3,h4⟩
def OpX (w:World) (g:Nat) (v:Value) (op:OpM):Prop:=
 ∃vc vd,v=.agg #[.int .i64 op.kind,.int .i64 op.mode,.int .i64 op.chan,.int .u64 op.val,.int .i64 op.dl,vc,vd]∧SlC w vc op.cases∧SlI w .i64 vd op.draws∧offB g vc∧offB g vd
theorem OpX.below {w w':World} {g:Nat} {v:Value} {op:OpM} (h:OpX w g v op) (hb:Below w.heap.size w w'):OpX w' g v op:=by
 obtain ⟨vc,vs,e,h1,h2,h3⟩:=h; exact ⟨vc,vs,e,h1.below hb,h2.below hb,h3⟩
theorem OpX.grown {w w':World} {g:Nat} {v:Value} {op:OpM} (h:OpX w g v op) (hg:w.grownBy w' (some g)):OpX w' g v op:=by
 obtain ⟨vc,vs,e,h1,h2,h3,h4⟩:=h; exact ⟨vc,vs,e,h1.grown hg h3,h2.grown hg h4,h3,h4⟩
theorem words_step (s:HbS) (x:ItemM):(hbStep s x).words=if wrB x then updI s.words x.acc.addr (nowE s x) else s.words:=rfl
def Tot (l:List ItemM):Prop:=∀a b,a<b→b<l.length→ordB l a b=true
def CovB (l:List ItemM) (V:Clk):Prop:=∀b,b<l.length→clkAt l b (l.getD b noItem).thr.toNat≤V (l.getD b noItem).thr.toNat
theorem snoc_old (l:List ItemM) (x:ItemM) {b:Nat} (h:b<l.length):(l ++ [x]).getD b noItem=l.getD b noItem:=by
 rw [List.getD_eq_getElem?_getD,List.getElem?_append_left h,← List.getD_eq_getElem?_getD]
theorem snoc_new (l:List ItemM) (x:ItemM):(l ++ [x]).getD l.length noItem=x:=by
 rw [List.getD_eq_getElem?_getD,List.getElem?_append_right (Nat.le_refl _),Nat.sub_self];rfl
theorem clk_old (l:List ItemM) (x:ItemM) {b:Nat} (h:b<l.length):clkAt (l ++ [x]) b=clkAt l b:=by
 have h2:=clkAt_take (l ++ [x]) h;rw [List.take_left] at h2;exact h2.symm
theorem clk_new (l:List ItemM) (x:ItemM):clkAt (l ++ [x]) l.length=nowE (hbAll l) x:=by
 unfold clkAt;rw [List.take_left,snoc_new]
theorem tot_step {l:List ItemM} {x:ItemM} {V:Clk} (ht:Tot l) (hc:CovB l V) (hV:∀i,V i≤nowE (hbAll l) x i):Tot (l ++ [x])∧CovB (l ++ [x]) (nowE (hbAll l) x):=by
 constructor
 ·intro a b hab hb
  rw [List.length_append,List.length_singleton] at hb;unfold ordB;rw [snoc_old l x (by omega),clk_old l x (b:=a) (by omega)];rcases Nat.lt_succ_iff_lt_or_eq.1 hb with h | rfl
  ·rw [clk_old l x h]
   exact ht a b hab h
  ·rw [clk_new]
   exact decide_eq_true (Int.le_trans (hc a hab) (hV _))
 ·intro b hb
  rw [List.length_append,List.length_singleton] at hb;rcases Nat.lt_succ_iff_lt_or_eq.1 hb with h | rfl
  ·rw [snoc_old l x h,clk_old l x h]
   exact Int.le_trans (hc b h) (hV _)
  ·rw [snoc_new,clk_new]
   exact Int.le_refl _
def InT (l:List ItemM) (t:Int):Prop:=Tot l∧CovB l ((hbAll l).own t.toNat)
def OutT (l:List ItemM):Prop:=Tot l∧CovB l ((hbAll l).words 9)
theorem outT_nil:OutT []:=⟨fun a b _ h=>absurd h (Nat.not_lt_zero _),fun b h=>absurd h (Nat.not_lt_zero _)⟩
theorem own_snoc (l:List ItemM) (x:ItemM):(hbAll (l ++ [x])).own x.thr.toNat=nowE (hbAll l) x:=by
 rw [hbAll_snoc];show updN _ _ _ _=_;unfold updN;rw [if_pos rfl]
theorem lock_in {l:List ItemM} {x:ItemM} (h:OutT l) (hr:rdB x=true) (ha:x.acc.addr=9):InT (l ++ [x]) x.thr:=by
 have h2:=tot_step h.1 h.2 (x:=x) (fun i=>by
  unfold nowE;rw [if_pos hr,ha];unfold maxC;omega)
 exact ⟨h2.1,by rw [own_snoc]; exact h2.2⟩
theorem lock_go {l:List ItemM} {x:ItemM} (h:InT l x.thr):InT (l ++ [x]) x.thr:=by
 have h2:=tot_step h.1 h.2 (x:=x) (fun i=>nowE_own _ _ i);exact ⟨h2.1,by rw [own_snoc]; exact h2.2⟩
theorem lock_out {l:List ItemM} {x:ItemM} (h:InT l x.thr) (hw:wrB x=true) (ha:x.acc.addr=9):OutT (l ++ [x]):=by
 have h2:=tot_step h.1 h.2 (x:=x) (fun i=>nowE_own _ _ i);refine ⟨h2.1,?_⟩;have e:(hbAll (l ++ [x])).words 9=nowE (hbAll l) x:=by
  rw [hbAll_snoc,words_step,hw,if_pos rfl];unfold updI;rw [if_pos ha.symm]
 rw [e];exact h2.2
theorem tot_tgt {l:List ItemM} (h:Tot l) (a:Nat):tgt l a=[]:=by
 unfold tgt;rw [List.filter_eq_nil_iff];intro b hb;rw [List.mem_range] at hb;unfold hitB;by_cases hab:a<b
 ·rw [h a b hab hb]
  simp
 ·simp [hab]
theorem tot_races {l:List ItemM} (h:Tot l) (k:Nat):racesP l k=[]:=by
 unfold racesP;simp [tot_tgt h]
def lockI (t:Int):ItemM:=⟨t,⟨3,9,0,1,0⟩,0,true⟩
def freeI (t:Int):ItemM:=⟨t,⟨2,9,0,0,0⟩,0,false⟩
def midI (t k a:Int):ItemM:=⟨t,⟨k,a,0,0,0⟩,0,false⟩
def kOf (n:Nat):Int:=if n=0 then 5 else if n=1 then 6 else if n=2 then 8 else 7
theorem kOf_ok (n:Nat):5≤kOf n∧kOf n≤8:=by
 unfold kOf;split
 ·omega
 ·split
  ·omega
  ·split <;> omega
def OkI (x:ItemM):Prop:=x.good∧0≤x.thr∧x.thr<4
theorem lockI_ok {t:Int} (h0:0≤t) (h1:t<4):OkI (lockI t):=⟨⟨by show t=IntKind.i64.wrap t; rw [IntKind.wrap_i64]; omega,⟨by show (3:Int)=IntKind.i64.wrap 3; decide,by show (9:Int)=IntKind.i64.wrap 9; decide,by show (0:Int)=IntKind.u64.wrap 0; decide,by show (1:Int)=IntKind.u64.wrap 1; decide,by show (0:Int)=IntKind.i64.wrap 0; decide⟩,by show (0:Int)=IntKind.u64.wrap 0; decide⟩,h0,h1⟩
theorem freeI_ok {t:Int} (h0:0≤t) (h1:t<4):OkI (freeI t):=⟨⟨by show t=IntKind.i64.wrap t; rw [IntKind.wrap_i64]; omega,⟨by show (2:Int)=IntKind.i64.wrap 2; decide,by show (9:Int)=IntKind.i64.wrap 9; decide,by show (0:Int)=IntKind.u64.wrap 0; decide,by show (0:Int)=IntKind.u64.wrap 0; decide,by show (0:Int)=IntKind.i64.wrap 0; decide⟩,by show (0:Int)=IntKind.u64.wrap 0; decide⟩,h0,h1⟩
theorem midI_ok {t a:Int} (n:Nat) (h0:0≤t) (h1:t<4) (ha:0≤a∧a<3):OkI (midI t (kOf n) a):=by
 have hk:=kOf_ok n;exact ⟨⟨by show t=IntKind.i64.wrap t; rw [IntKind.wrap_i64]; omega,⟨by show kOf n=IntKind.i64.wrap (kOf n); rw [IntKind.wrap_i64]; omega,by show a=IntKind.i64.wrap a; rw [IntKind.wrap_i64]; omega,by show (0:Int)=IntKind.u64.wrap 0; decide,by show (0:Int)=IntKind.u64.wrap 0; decide,by show (0:Int)=IntKind.i64.wrap 0; decide⟩,by show (0:Int)=IntKind.u64.wrap 0; decide⟩,h0,h1⟩
structure LkI (w0 wr:World) (g:Nat) (v:Value) (l:List ItemM):Prop where
 lt:g<w0.heap.size
 codes:CodesE wr g
 grown:w0.grownBy wr (some g)
 out:OwnT wr w0.heap.size v l
 good:∀x∈l,OkI x
theorem LkI.next {w0 wr w2:World} {g:Nat} {v:Value} {l:List ItemM} (h:LkI w0 wr g v l) (hc:CodesE w2 g) (hg:wr.grownBy w2 (some g)):LkI w0 w2 g v l:=
 ⟨h.lt,hc,grownBy_trans h.grown hg,h.out.kept hg (h.out.ne h.lt),h.good⟩
theorem LkI.more {w0 wr w2:World} {g:Nat} {v:Value} {l:List ItemM} (h:LkI w0 wr g v l) (hb:Below wr.heap.size wr w2):LkI w0 w2 g v l:=
 ⟨h.lt,h.codes.kept h.codes.lt hb,grownBy_of_new h.grown (grown_below (row:=none) hb) (fun k hk=>by cases hk),h.out.below hb,h.good⟩
theorem LkI.add {w0 wr w2:World} {g:Nat} {v v':Value} {l:List ItemM} {x:ItemM} (h:LkI w0 wr g v l) (ho:OwnT w2 w0.heap.size v' (l ++ [x])) (hg:wr.grownBy w2 v.ownBlock) (hx:OkI x):LkI w0 w2 g v' (l ++ [x]):=by
 have hl:=h.lt;have hge:=h.out.own_ge;refine ⟨h.lt,?_,grownBy_of_new h.grown hg hge,ho,fun y hy=>?_⟩
 ·cases hv:v.ownBlock with
  | none=>rw [hv] at hg; exact h.codes.kept h.codes.lt ⟨hg.os,hg.tape,hg.output,hg.size,fun j hj=>hg.block j hj (by simp)⟩
  | some b=>rw [hv] at hg; exact h.codes.grown (by have:=hge b hv; omega) hg
 ·rw [List.mem_append,List.mem_singleton] at hy
  rcases hy with hy | rfl
  ·exact h.good y hy
  ·exact hx
theorem item_at0 {w:World} {g:Nat} {x:ItemM} (h:w.heap[g]?=some (.cells #[.int .i64 x.thr,.int .i64 x.acc.kind,.int .i64 x.acc.addr,.int .u64 x.acc.old,.int .u64 x.acc.new,.int .i64 x.acc.til,.int .u64 x.val,.bool x.ok] 30 (0,0))):ItemAt w g 0 x:=⟨cell_of_row _ _ 0 _ _ _ h,cell_of_row _ _ 1 _ _ _ h,cell_of_row _ _ 2 _ _ _ h,cell_of_row _ _ 3 _ _ _ h,cell_of_row _ _ 4 _ _ _ h,cell_of_row _ _ 5 _ _ _ h,cell_of_row _ _ 6 _ _ _ h,cell_of_row _ _ 7 _ _ _ h⟩
theorem row_next {w w2:World} {g b:Nat} {o:Obj} (hg:w.grownBy w2 (some g)) (hr:w.heap[b]?=some o) (hne:g≠b):w2.heap[b]?=some o:=
 (hg.block b (Array.getElem?_eq_some_iff.1 hr).1 (by intro e; cases e; exact hne rfl)).trans hr
theorem kind_at {w:World} {b n:Nat} (h:w.heap[b]?=some (.cells #[.int .i64 5,.int .i64 6,.int .i64 8,.int .i64 7] 3 (0,0))) (hn:n<4):w.cell? ⟨b,n,none⟩=some (.int .i64 (kOf n)):=by
 rcases (show n=0∨n=1∨n=2∨n=3 by omega) with rfl | rfl | rfl | rfl
 ·exact cell_of_row _ _ 0 _ _ _ h
 ·exact cell_of_row _ _ 1 _ _ _ h
 ·exact cell_of_row _ _ 2 _ _ _ h
 ·exact cell_of_row _ _ 3 _ _ _ h
end Go.Proofs.Ytoneandjbdlbeaa
