import Derived.Deep.Fields
import Derived.Deep.Slices
import Derived.Test.YtifhafjhmjkekaaB10
import Derived.Test.YtifhafjhmjkekaaB04
import Derived.Test.YtifhafjhmjkekaaB02
import Derived.Test.YtifhafjhmjkekaaB05
import Derived.Test.YtifhafjhmjkekaaB01
import Derived.Test.YtifhafjhmjkekaaB06
import Derived.Test.YtifhafjhmjkekaaB07
set_option linter.unusedVariables false
set_option linter.unusedSimpArgs false
namespace Go.Proofs.Ytifhafjhmjkekaa
open Go.ChangeShapes Go.WideShapes Go.ChangeAt Go.RowKit
set_option maxRecDepth 100000
structure AL (w0 wr:World) (E:List (Option Nat)) (B:Nat) (x:WV) (y:WM) (c:ConfM) (n q:Nat):Prop where
 wi:WI 44 w0 wr E B (B+1) x y
 fr:FrI PuR (OffS (x.S E B) wr) y
 ce:y.c=c
 ks:∀m∈y.l,clK y.c m
 len:y.l.length=n
 small:y.t.length≤q∧y.p.length≤q
 one:1≤c.caps.length
theorem al_add {w0 w:World} {E:List (Option Nat)} {B:Nat} {x:WV} {y:WM} {c:ConfM} {n q:Nat} (h:AL w0 w E B x y c n q) (hn:n≤100) (what th v:Int) (hw:7≤what∧what≤11) (hth:0≤th∧th<c.threads) (hv:U64 v) :
  Calls Try.prog 14 #[.pointer (some ⟨B,0,none⟩),.int .i64 what,.int .i64 0,.int .i64 th,.int .u64 v] w fun e w'=>∃x2 y2,e=.returned (.tuple #[])∧Hid (AL w0 w' E B x2 y2 c (n+1) q)∧y2.m=y.m∧y2.l=y.l ++ [⟨what,1,0,th,v % 4,v % 8,v,0,0,0,0⟩]∧y2.t=y.t∧y2.p=y.p∧Hid (Below B w w')∧Hid (∀w3,OffS (x2.S E B) w' w3→OffS (x.S E B) w w3):=by
 refine (wadd_own pu_sim h.wi h.fr what 0 th v (by unfold ownM; simpa using hw.1) hv.1 (pu_starts h.wi.good what hw 0 th v (by rw [h.ce]; exact hth) hv (by rw [h.ce]; exact h.one) _ _ _ _) (by have:=h.len; omega)).mono ?_;rintro e w' ⟨x2,f2,rfl,h1,h2,h4,h3⟩;refine ⟨x2,_,rfl,⟨h1.out,h2.out,h.ce,fun m hm=>?_,by show (y.l ++ [_]).length=_; rw [List.length_append,h.len]; rfl,h.small,h.one⟩,rfl,rfl,rfl,rfl,h4,h3⟩;have hm':m∈y.l ++ [⟨what,1,0,th,v % 4,v % 8,v,0,0,0,0⟩]:=hm;rw [List.mem_append,List.mem_singleton] at hm';rcases hm' with hm' | rfl
 ·exact h.ks m hm'
 ·exact clK_new what 0 th v hw (by rw [h.ce]; exact h.one) (by rw [h.ce]; exact hth) hv
theorem stepE_length (c:ConfM) (m:MemM) (l:List MachM) (i:Nat):(stepE clNE clRE c m l i).2.length=l.length:=by
 unfold stepE;split
 ·rfl
 ·split
  ·rfl
  ·split
   ·simp
   ·rfl
theorem al_stepE {w0 w:World} {E:List (Option Nat)} {B:Nat} {x:WV} {y:WM} {c:ConfM} {n q:Nat} (h:AL w0 w E B x y c n q) (hn:n≤200) (hq:q≤1000) (i:Nat) (hi:i<n) :
  Calls Try.prog 23 #[.pointer (some ⟨B,0,none⟩),.int .i64 i] w fun e w'=>∃x2 y2,e=.returned (.bool true)∧Hid (AL w0 w' E B x2 y2 c n (q+1))∧(y2.m,y2.l)=stepE clNE clRE c y.m y.l i∧Hid (OffS (x.S E B) w w'):=by
 refine (wstepL_any pu_sim cl_doc h.wi h.fr h.ks i (by rw [h.len]; omega) (by rw [h.len]; omega) (by have:=h.small; omega) (by have:=h.small; omega)).mono ?_;rintro e w' ⟨x2,y2,rfl,h1,h2,h3,h4⟩;have hm:=h3.out.m;have hL:=h3.out.l;rw [h.ce] at hm hL;have hks:∀m∈y2.l,clK y2.c m:=by
  rw [h3.out.c,h3.out.l];exact stepE_all2 y.m h.wi.fits (fun k b hb hk=>clK_RE hk) y.l i h.ks
 exact ⟨x2,y2,rfl,⟨h1.out,h2.out,h3.out.c.trans h.ce,hks,by rw [hL,stepE_length,h.len],⟨by have:=h3.out.t; have:=h.small; omega,by have:=h3.out.p; have:=h.small; omega⟩,h.one⟩,by rw [hm,hL],Lib.hid (h4.out _ (OffS.self _ _))⟩
theorem AL.next {w0 w w':World} {E:List (Option Nat)} {B:Nat} {x:WV} {y:WM} {c:ConfM} {n q:Nat} (h:AL w0 w E B x y c n q) (hb:Below w.heap.size w w'):AL w0 w' E B x y c n q:=
 ⟨h.wi.next hb,h.fr.sub pu_sim fun w3 h3=>(OffS.below hb).trans1 h3,h.ce,h.ks,h.len,h.small,h.one⟩
theorem AL.le {w0 w:World} {E:List (Option Nat)} {B:Nat} {x:WV} {y:WM} {c:ConfM} {n q q2:Nat} (h:AL w0 w E B x y c n q) (hq:q≤q2):AL w0 w E B x y c n q2:=
 ⟨h.wi,h.fr,h.ce,h.ks,h.len,⟨by have:=h.small.1; omega,by have:=h.small.2; omega⟩,h.one⟩
theorem AL.drawn {w0 w w':World} {g B:Nat} {x:WV} {y:WM} {c:ConfM} {n q:Nat} (h:AL w0 w [some g] B x y c n q) (hgB:g<B) (hg:w.grownBy w' (some g)):AL w0 w' [some g] B x y c n q:=
 ⟨h.wi.drawn (by simp) hgB hg,h.fr.sub pu_sim fun w3 h3=>(OffS.grown hg (.inr (by simp [WV.S]))).trans1 h3,h.ce,h.ks,h.len,h.small,h.one⟩
theorem AL.ends {w0 w:World} {E:List (Option Nat)} {B:Nat} {x:WV} {y:WM} {c:ConfM} {n q:Nat} (h:AL w0 w E B x y c n q) (i:Nat) (m:MachM) (hm:y.l[i]?=some m) (ho:ownM m=true) :
  ∃fl fc r0 r1 s2 k2 l2 s3 k3 l3 s4 k4 l4,i<n∧fl<w.heap.size∧B<w.heap.size∧w.cell? ⟨B,9,none⟩=some (.slice (some ⟨fl,0,none⟩) n fc)∧w.cell? ⟨fl,i * 5,none⟩=some (.int .i64 r0)∧w.cell? ⟨fl,i * 5+1,none⟩=some (.int .i64 r1)∧w.cell? ⟨fl,i * 5+2,none⟩=some (.slice s2 k2 l2)∧w.cell? ⟨fl,i * 5+3,none⟩=some (.slice s3 k3 l3)∧w.cell? ⟨fl,i * 5+4,none⟩=some (.slice s4 k4 l4)
   ∧Hid (∀w',Below w.heap.size w w'→Calls Try.prog 21 #[.agg #[.int .i64 r0,.int .i64 r1,.slice s2 k2 l2,.slice s3 k3 l3,.slice s4 k4 l4]] w' fun e w2=>e=.returned (.tuple #[.agg #[.int .i64 m.ok,.int .u64 m.ov],.bool (m.pl == 0)])∧Below w'.heap.size w' w2):=by
 obtain ⟨hi,hmi⟩:=List.getElem?_eq_some_iff.1 hm;have hif:i<y.f.length:=by rw [h.fr.1]; exact hi
 have hR:=h.fr.2 i hif hi;rw [hmi] at hR;obtain ⟨fl,fc,hvf,hfA,hfc,hfl,hfls,hfcap,FG,-⟩:=h.wi.frameAt i hif;obtain ⟨r0,r1,s2,k2,l2,s3,k3,l3,s4,k4,l4,he⟩:=pu_sim.form hR ho;rw [he] at FG hR;have row0:=h.wi.row;have hf3:y.f.length=n:=by rw [h.fr.1,h.len]
 unfold WV.row at row0;rw [hfA,hfc,hf3] at row0;obtain ⟨f0,f1,f2,f3,f4⟩:=range5 FG;exact ⟨fl,fc,r0,r1,s2,k2,l2,s3,k3,l3,s4,k4,l4,by rw [← h.len]; exact hi,hfls,h.wi.lt,(rowc10 row0).2.2.2.2.2.2.2.2.2,f0,f1,f2,f3,f4,Lib.hid fun w' hb=>pu_sim.ends w' (OffS.below hb) hR ho⟩
theorem run_next {c:ConfM} {s:MemM × List MachM} {y y2:WM} {is:List Nat} {i:Nat} (h:(y.m,y.l)=runE clNE clRE c s is) (h2:(y2.m,y2.l)=stepE clNE clRE c y.m y.l i):(y2.m,y2.l)=runE clNE clRE c s (is ++ [i]):=by
 rw [runE_snoc,← h]; exact h2
theorem WI.startP {WT:TypeId} {w0 wc wd wz:World} {E:List (Option Nat)} {B:Nat} {a a2 m1 m2:Option Addr} {cap cap2 n1 n2:Nat} {c:ConfM} {m:MemM} (hg:c.good) (hf:m.fits) (hE:∀j,some j∈E→w0.heap.size≤j∧j<wc.heap.size)
  (hc:∀w2,OffS E wc w2→SlI w2 .i64 (.slice a c.caps.length cap) c.caps∧SlI w2 .u64 (.slice a2 c.starts.length cap2) c.starts) (hcd:wc.heap.size≤wd.heap.size) (hdB:wd.heap.size≤B)
  (hrow:wz.heap[B]?=some (.cells #[.slice a c.caps.length cap,.slice a2 c.starts.length cap2,.int .i64 c.threads,.slice m1 m.words.length n1,.slice m2 m.lists.length n2,.int .i64 m.tick,.slice none 0 0,.slice none 0 0,.slice none 0 0,.slice none 0 0] WT (0,0)))
  (hbz:Below wc.heap.size wc wz) (hm:StM (PartAs wc wd.heap.size wz) (.agg #[.slice m1 m.words.length n1,.slice m2 m.lists.length n2,.int .i64 m.tick]) m) (h0:Below w0.heap.size w0 wc) :
  WI WT w0 wz E B (B+1) ⟨a,cap,a2,cap2,m1,n1,m2,n2,none,0,none,0,none,0,none,0⟩ ⟨c,m,[],[],[],[]⟩:=by
 have hB:=(Array.getElem?_eq_some_iff.1 hrow).1;have z0:=h0.size;have hin:∀w2,OffS (WV.S ⟨a,cap,a2,cap2,m1,n1,m2,n2,none,0,none,0,none,0,none,0⟩ E B) wz w2→OffS E wc w2:=fun w2 h2=>by
  refine (OffS.below (S:=E) hbz).trans h2 fun j hj hm=>?_;simp only [WV.S,List.mem_append,List.mem_cons,List.not_mem_nil,or_false,Option.some.injEq,addrB,Option.map_none] at hm;rcases hm with hm | rfl | hm | hm | hm | hm
  ·exact hm
  ·omega
  all_goals cases hm
 have hnp:∀w2,OffS (WV.S ⟨a,cap,a2,cap2,m1,n1,m2,n2,none,0,none,0,none,0,none,0⟩ E B) wz w2→PartAs wc wd.heap.size wz w2:=fun w2 h2=>by
  refine ⟨by have:=h2.1; omega,fun j hj hj2=>h2.2 j (by omega) fun hm=>?_⟩;simp only [WV.S,List.mem_append,List.mem_cons,List.not_mem_nil,or_false,Option.some.injEq,addrB,Option.map_none] at hm;rcases hm with hm | rfl | hm | hm | hm | hm
  ·have:=(hE j hm).2; omega
  ·omega
  all_goals cases hm
 refine ⟨by omega,fun j hj=>⟨(hE j hj).1,by have:=(hE j hj).2; omega⟩,Nat.lt_succ_self _,hB,hrow,fun w2 h2=>hc w2 (hin w2 h2),hg,hm.sub hnp,hf,OwnS.nil _ _ _ _,OwnS.nil _ _ _ _,OwnS.nil _ _ _ _,OwnS.nil _ _ _ _,fun z hz=>by simp at hz,below_then h0 hbz⟩
theorem thrW_lt {c:ConfM} (hg:c.good) {t:Int} (h0:0≤t) (h1:t<c.threads) {j:Int} (hj:0≤j∧j≤10):0≤c.thrW t+j∧c.thrW t+j<((newE c).words.length:Int):=by
 have h8:=hg.thr8 t h0 (by have:=hg.thr; omega);have hb:=hg.base c.caps.length (Nat.le_refl _);have ht:=hg.thr;have hl:(newE c).words.length=(c.thrW c.threads).toNat:=by
  unfold newE;rw [if_pos (checkC_good hg)];exact chansE_len c _
 have hl2:((newE c).words.length:Int)=c.base c.caps.length+c.threads * 11:=by
  rw [hl];unfold ConfM.thrW;omega
 rw [hl2];unfold ConfM.thrW at h8 ⊢;constructor
 ·omega
 ·omega
theorem PokeR.pokeN {w w' u:World} {v:Value} {m:MemM} (h:PokeR w w' v m) (hu:NewPart w w' u) (hf:m.fits) :
  ∃X vl,v=.agg #[.slice (some ⟨X,0,none⟩) m.words.length m.words.length,vl,.int .i64 m.tick]∧(w.heap.size≤X∧X<w'.heap.size)∧(∀i,i<m.words.length→u.cell? ⟨X,i,none⟩=some (.int .u64 (m.words.getD i 0))∧u.frozen? ⟨X,i,none⟩=false)∧∀i x,i<m.words.length→(0≤x∧x<18446744073709551616)→StM (PartAs w w'.heap.size (u.setCell ⟨X,i,none⟩ (.int .u64 x))) v { m with words:=m.words.set i x }:=by
 obtain ⟨D,X,t,vl,us,h1,h2,h3,h4⟩:=h;have hgx:t=m.words.length∧D≤X∧X<w'.heap.size:=by
  rcases h3.shape with ⟨e,-⟩ | ⟨g,cap,e,g1,g2,-⟩
  ·cases e
  ·simp only [Value.slice.injEq,Option.some.injEq,Addr.mk.injEq] at e
   obtain ⟨⟨e1,-⟩,e2,-⟩:=e;subst e1;exact ⟨e2,g1,g2⟩
 obtain ⟨rfl,hg1,hg2⟩:=hgx;have h5:OwnI u D 23 .u64 (.slice (some ⟨X,0,none⟩) m.words.length m.words.length) m.words:=h3.newPart h1 hu;refine ⟨X,vl,h2,⟨Nat.le_trans h1 hg1,hg2⟩,fun i hi=>h5.cell i hi,fun i x hi hx=>⟨_,vl,us,h2,fun w9 h9=>⟨?_,?_⟩⟩⟩
 ·have h8:=h5.store i x rfl
  have h6:OwnI w9 D 23 .u64 (.slice (some ⟨X,0,none⟩) m.words.length m.words.length) (m.words.set i x):=by
   refine ⟨h8.1,?_⟩;rcases h8.2 with e | ⟨g,cap,cur,e1,e2,e3,e4⟩
   ·exact .inl e
   ·have e5:g=X:=by
     simp only [Value.slice.injEq,Option.some.injEq,Addr.mk.injEq] at e1;exact e1.1.1.symm
    exact .inr ⟨g,cap,cur,e1,e2,(h9.same g (by omega) (by omega)).trans e3,e4⟩
  have h7:SlI w9 .u64 (.slice (some ⟨X,0,none⟩) m.words.length m.words.length) (m.words.set i x):=h6.read (by have:=hf.1; rw [List.length_set]; omega) (fun y hy=>by
   rcases List.mem_or_eq_of_mem_set hy with hy | rfl
   ·exact hf.wf y hy
   ·rw [IntKind.wrap_u64]; omega)
  exact h7
 ·refine h4 w9 h9.size fun j a b c=>?_
  rw [h9.same j a b,heap_setCell_other u ⟨X,i,none⟩ j _ c,hu.same j a b]
def pokeM (c:ConfM) (i:Nat) (v:Int):MemM:={ newE c with words:=(newE c).words.set i v }
theorem pokeM_fits {c:ConfM} (hg:c.good) (i:Nat) (v:Int) (hv:U64 v):(pokeM c i v).fits:=fits_put (newE_fits hg) i v hv.wrap
theorem AL.startP {w0 wa wd u:World} {E:List (Option Nat)} {B:Nat} {a a2 m1 m2:Option Addr} {cap cap2 n1 n2:Nat} {c:ConfM} (hg:c.good) (h1:1≤c.caps.length) (hE:∀j,some j∈E→w0.heap.size≤j∧j<wa.heap.size)
  (hc:∀w2,OffS E wa w2→SlI w2 .i64 (.slice a c.caps.length cap) c.caps∧SlI w2 .u64 (.slice a2 c.starts.length cap2) c.starts)
  (hp:PokeR wa wd (.agg #[.slice m1 (newE c).words.length n1,.slice m2 (newE c).lists.length n2,.int .i64 (newE c).tick]) (newE c)) (hwd:wa.heap.size≤wd.heap.size) (hn:NewPart wa wd u) (ho:OffS E wa u) (hdB:wd.heap.size≤B)
  (hrow:u.heap[B]?=some (.cells #[.slice a c.caps.length cap,.slice a2 c.starts.length cap2,.int .i64 c.threads,.slice m1 (newE c).words.length n1,.slice m2 (newE c).lists.length n2,.int .i64 (newE c).tick,.slice none 0 0,.slice none 0 0,.slice none 0 0,.slice none 0 0] 44 (0,0)))
  (h0:Below w0.heap.size w0 u) (hwa:w0.heap.size≤wa.heap.size) :
  ∃X,m1=some ⟨X,0,none⟩∧X<B∧wa.heap.size≤X∧(∀i,i<(newE c).words.length→u.cell? ⟨X,i,none⟩=some (.int .u64 ((newE c).words.getD i 0))∧u.frozen? ⟨X,i,none⟩=false)∧∀i v,i<(newE c).words.length→U64 v→
   AL w0 (u.setCell ⟨X,i,none⟩ (.int .u64 v)) E B ⟨a,cap,a2,cap2,m1,n1,m2,n2,none,0,none,0,none,0,none,0⟩ ⟨c,pokeM c i v,[],[],[],[]⟩ c 0 0:=by
 obtain ⟨X,vl,e,⟨hX1,hX2⟩,hcell,hst⟩:=hp.pokeN hn (newE_fits hg);have e':=e;simp only [Value.agg.injEq,Array.mk.injEq,List.cons.injEq,Value.slice.injEq] at e';obtain ⟨⟨rfl,-,rfl⟩,rfl,-⟩:=e';refine ⟨X,rfl,by omega,by omega,hcell,fun i v hi hv=>⟨?_,⟨rfl,fun i h1 _=>by simp at h1⟩,rfl,fun m hm=>absurd hm (by simp),rfl,⟨Nat.le_refl _,Nat.le_refl _⟩,h1⟩⟩;have hB:=(Array.getElem?_eq_some_iff.1 hrow).1;obtain ⟨wz,hwz⟩:∃wz,u.setCell ⟨X,i,none⟩ (.int .u64 v)=wz:=⟨_,rfl⟩;have hsz:wz.heap.size=u.heap.size:=by rw [← hwz]; exact World.size_setCell ..
 have hoth:∀j,j≠X→wz.heap[j]?=u.heap[j]?:=fun j hj=>by rw [← hwz]; exact heap_setCell_other u ⟨X,i,none⟩ j _ hj
 have hst':=hst i v hi hv;rw [hwz] at hst' ⊢;have hin:∀w2,OffS (WV.S ⟨a,cap,a2,cap2,some ⟨X,0,none⟩,(newE c).words.length,m2,n2,none,0,none,0,none,0,none,0⟩ E B) wz w2→OffS E wa w2:=fun w2 h2=>by
  refine ⟨by have:=h2.1; have:=ho.1; omega,fun j hj hm=>?_⟩;rw [h2.2 j (by have:=ho.1; omega) ?_,hoth j (by omega),ho.2 j hj hm];intro hm2;simp only [WV.S,List.mem_append,List.mem_cons,List.not_mem_nil,or_false,Option.some.injEq,addrB,Option.map_none] at hm2;rcases hm2 with hm2 | rfl | hm2 | hm2 | hm2 | hm2
  ·exact hm hm2
  ·omega
  all_goals cases hm2
 have hnp:∀w2,OffS (WV.S ⟨a,cap,a2,cap2,some ⟨X,0,none⟩,(newE c).words.length,m2,n2,none,0,none,0,none,0,none,0⟩ E B) wz w2→PartAs wa wd.heap.size wz w2:=fun w2 h2=>by
  refine ⟨by have:=h2.1; omega,fun j hj hj2=>h2.2 j (by omega) fun hm=>?_⟩;simp only [WV.S,List.mem_append,List.mem_cons,List.not_mem_nil,or_false,Option.some.injEq,addrB,Option.map_none] at hm;rcases hm with hm | rfl | hm | hm | hm | hm
  ·have:=(hE j hm).2; omega
  ·omega
  all_goals cases hm
 have hbz:Below w0.heap.size w0 wz:=by rw [← hwz]; exact h0.setCell (p:=⟨X,i,none⟩) (by show w0.heap.size≤X; omega) _
 refine ⟨by omega,fun j hj=>⟨(hE j hj).1,by have:=(hE j hj).2; have:=ho.1; omega⟩,Nat.lt_succ_self _,by omega,?_,fun w2 h2=>hc w2 (hin w2 h2),hg,?_,pokeM_fits hg i v hv,OwnS.nil _ _ _ _,OwnS.nil _ _ _ _,OwnS.nil _ _ _ _,OwnS.nil _ _ _ _,fun z hz=>by simp at hz,hbz⟩
 ·rw [hoth B (by omega),hrow]
  unfold WV.row pokeM;simp
 ·have h9:=hst'.sub hnp
  unfold WV.mem pokeM;simpa using h9
theorem SlI.offN {w w2:World} {k:IntKind} {v:Value} {l:List Int} (h:SlI w k v l) (h2:OffS [] w w2):SlI w2 k v l:=by
 have hb:Below w.heap.size w { w with heap:=w2.heap }:=⟨rfl,rfl,rfl,h2.1,fun j hj=>h2.2 j hj (by simp)⟩;exact (h.below hb).heapEq (w:={ w with heap:=w2.heap }) rfl
theorem one_conf {wa w:World} {a a2:Option Addr} (h:ConfV wa (.agg #[.slice a 1 1,.slice a2 1 1,.int .i64 2]) oneC) (hb:Below wa.heap.size wa w):ConfV w (.agg #[.slice a oneC.caps.length 1,.slice a2 oneC.starts.length 1,.int .i64 oneC.threads]) oneC:=h.below hb
def awA:MemM × List MachM:=runE clNE clRE oneC (pokeM oneC 9 1,[⟨7,1,0,0,0,0,0,0,0,0,0⟩]) [0]
theorem awA_0:awA.2[0]?=some ⟨7,0,0,0,0,0,0,0,0,7,0⟩:=by kernel_rfl
set_option maxRecDepth 100000 in
set_option maxHeartbeats 16000000 in
theorem awake8_any (w:World):Calls Try.prog 8 #[] w fun e w'=>e=.returned (.bool true)∧Below w.heap.size w w':=by
 go_enter Try.func8,Try.ntmps8;go_wp2_with fail;refine (one_any _).mono ?_; rintro e wa ⟨a,a2,rfl,hcv,hba⟩;have HCV:=Lib.hid hcv;have HBA:=Lib.hid hba;clear hcv hba;go_wp2_with fail;refine (begin_pk a a2 1 1 oneC _ HCV.out oneC_good).mono ?_; rintro e wd ⟨m1,n1,m2,n2,rfl,-,HBD,HPK⟩;have HSC:Hid (∀w2,OffS [] wa w2→SlI w2 .i64 (.slice a oneC.caps.length 1) oneC.caps∧SlI w2 .u64 (.slice a2 oneC.starts.length 1) oneC.starts):=fun w2 h2=>by
  obtain ⟨vc,vs,e,h3,h4⟩:=HCV.out;simp only [Value.agg.injEq,Array.mk.injEq,List.cons.injEq] at e;obtain ⟨rfl,rfl,-⟩:=e;exact ⟨h3.offN h2,h4.offN h2⟩
 have HBW:Hid (Below w.heap.size w wa):=HBA.out;have HDW:Hid (Below w.heap.size w wd):=below_then HBA.out HBD.out;obtain ⟨w1,hw1⟩:∃w1,wd.alloc (.cells #[.slice a oneC.caps.length 1,.slice a2 oneC.starts.length 1,.int .i64 oneC.threads,.slice m1 (newE oneC).words.length n1,.slice m2 (newE oneC).lists.length n2,.int .i64 (newE oneC).tick,.slice none 0 0,.slice none 0 0,.slice none 0 0,.slice none 0 0] 44)=w1:=⟨_,rfl⟩;have HRB0:Hid (w1.heap[wd.heap.size]?=some (.cells #[.slice a oneC.caps.length 1,.slice a2 oneC.starts.length 1,.int .i64 oneC.threads,.slice m1 (newE oneC).words.length n1,.slice m2 (newE oneC).lists.length n2,.int .i64 (newE oneC).tick,.slice none 0 0,.slice none 0 0,.slice none 0 0,.slice none 0 0] 44 (0,0))):=hw1▸heap_alloc_new _ _;have HB1:Hid (Below wd.heap.size wd w1):=hw1▸below_new (Below.refl _ _) _;have KEY:Hid (∃X,m1=some ⟨X,0,none⟩∧X<wd.heap.size∧wa.heap.size≤X∧∀u,Below w1.heap.size w1 u→(u.cell? ⟨X,9,none⟩=some (.int .u64 ((newE oneC).words.getD 9 0))∧u.frozen? ⟨X,9,none⟩=false)∧AL w (u.setCell ⟨X,9,none⟩ (.int .u64 1)) [] wd.heap.size ⟨a,1,a2,1,m1,n1,m2,n2,none,0,none,0,none,0,none,0⟩ ⟨oneC,pokeM oneC 9 1,[],[],[],[]⟩ oneC 0 0):=by
  have key:=fun u (hu:Below w1.heap.size w1 u)=>AL.startP (w0:=w) (E:=[]) oneC_good (by decide) (fun j hj=>by cases hj) HSC.out HPK.out HBD.out.size
   ⟨(below_then HB1.out hu).size,fun j h1 h2=>(below_then HB1.out hu).block j h2⟩ ⟨(below_then HBD.out (below_then HB1.out hu)).size,fun j h1 _=>(below_then HBD.out (below_then HB1.out hu)).block j h1⟩ (Nat.le_refl _) ((hu.block _ (ltR HRB0)).trans HRB0.out) (below_then HDW.out (below_then HB1.out hu)) HBW.out.size
  obtain ⟨X,h1,h2,h3,-⟩:=key w1 (Below.refl _ _);refine ⟨X,h1,h2,h3,fun u hu=>?_⟩;obtain ⟨X',h1',-,-,h4,h5⟩:=key u hu;rw [h1] at h1';simp only [Option.some.injEq,Addr.mk.injEq] at h1';obtain ⟨rfl,-⟩:=h1';exact ⟨h4 9 (by decide +kernel),h5 9 1 (by decide +kernel) (by unfold U64; omega)⟩
 obtain ⟨X,hm1,hXB,hwX,hstp⟩:=KEY.out;subst hm1;have HSTP0:=Lib.hid hstp;have HCVk:=Lib.hid fun w' (hb:Below w1.heap.size w1 w')=>one_conf HCV.out (below_then HBD.out (below_then HB1.out hb));have TCL:=Lib.hid fun w' (hb:Below w1.heap.size w1 w')=>rclaimW_any _ oneC 0 (by decide) (by decide) w' (HCVk.out w' hb) oneC_good;rw [show oneC.thrW 0=9 from by decide +kernel] at TCL;have hA1:(9:Int)<((newE oneC).words.length:Int):=by decide +kernel
 clear HSC HPK HBD HCV HBA KEY hstp HB1 HBW HDW;have HBX:Hid (X<wd.heap.size):=hXB;clear hXB hwX;go_upto_region 2 with fail
 obtain ⟨B,hB⟩:∃B,wd.heap.size=B:=⟨_,rfl⟩;rw [hB] at HRB0 HSTP0 HBX;have HRB:=Lib.hid HRB0.out;have HSTP:=Lib.hid HSTP0.out;clear HRB0 HSTP0;try rw [hw1]
 try rw [hB]
 clear hw1 hB;go_cut [] (fun wx=>∃(x:WV) (y:WM),Hid (AL w wx [] B x y oneC 0 0)∧Hid (y.m=pokeM oneC 9 1∧y.l=[]))
 case first=>
  have KSp:Hid (∀w',Below w1.heap.size w1 w'→(fun w':World=>w'.cell? ⟨B,0,none⟩=some (.slice a oneC.caps.length 1)∧w'.cell? ⟨B,1,none⟩=some (.slice a2 oneC.starts.length 1)∧w'.cell? ⟨B,2,none⟩=some (.int .i64 oneC.threads)∧w'.cell? ⟨B,3,none⟩=some (.slice (some ⟨X,0,none⟩) (newE oneC).words.length n1)) w'):=fun w' hb=>by
   obtain ⟨z0,z1,z2,z3,-⟩:=rowc10 ((hb.block B (ltR HRB)).trans HRB.out);exact ⟨z0,z1,z2,z3⟩
  refine untilK KSp 13 14 (by kernel_rfl) rfl ?_;obtain ⟨u0,hu0,HU0⟩:=drew_pack w1;rw [hu0];clear hu0;have hSU0:=KSp.out _ HU0.out;apply tkV 0 hSU0 rfl (by kernel_rfl) (fun _ _ _ h=>h) rfl;intro w hSw;(go_simp<;>with_reducible rfl);simp only [J0,J1,J2,J3,J4];apply tkV 1 hSU0 rfl (by kernel_rfl) (fun _ _ _ h=>h) rfl;intro w hSw;(go_simp<;>with_reducible rfl);simp only [J0,J1,J2,J3,J4];apply tkV 2 hSU0 rfl (by kernel_rfl) (fun _ _ _ h=>h) rfl;intro w hSw;(go_simp<;>with_reducible rfl);simp only [J0,J1,J2,J3,J4];apply tkV 3 hSU0 rfl (by kernel_rfl) (fun _ _ _ h=>h) rfl;intro w hSw;(go_simp<;>with_reducible rfl);simp only [J0,J1,J2,J3,J4];apply tkV 4 hSU0 rfl (by kernel_rfl) (fun _ _ _ h=>h) rfl;intro w hSw;(go_simp<;>with_reducible rfl);simp only [J0,J1,J2,J3,J4];apply tkV 5 hSU0 rfl (by kernel_rfl) (fun _ _ _ h=>h) rfl;intro w hSw;(go_simp<;>with_reducible rfl);simp only [J0,J1,J2,J3,J4];apply tkV 6 hSU0 rfl (by kernel_rfl) (fun _ _ _ h=>h) rfl;intro w hSw;(go_simp<;>with_reducible rfl);simp only [J0,J1,J2,J3,J4];apply tkV 7 hSU0 rfl (by kernel_rfl) (fun _ _ _ h=>h) rfl;intro w hSw;(go_simp<;>with_reducible rfl);simp only [J0,J1,J2,J3,J4];apply tkV 8 hSU0 rfl (by kernel_rfl) (fun _ _ _ h=>h) rfl;intro w hSw;(go_simp<;>with_reducible rfl);simp only [J0,J1,J2,J3,J4];apply tkV 9 hSU0 rfl (by kernel_rfl) (fun _ _ _ h=>h) rfl;intro w hSw;(go_simp<;>with_reducible rfl);simp only [J0,J1,J2,J3,J4];apply tkV 10 hSU0 rfl (by kernel_rfl) (fun _ _ _ h=>h) rfl;intro w hSw;(go_simp<;>with_reducible rfl);simp only [J0,J1,J2,J3,J4];refine consU 11 rfl (by kernel_rfl) rfl fun K hK=>?_;go_simp;go_at_call 13;refine (TCL.out _ HU0.out).mono ?_;rintro e u1 ⟨rfl,hb⟩;have HU1:=Lib.hid (below_then HU0.out hb);clear hb;refine hK.out _ _ ?_ fun hSU1=>?_;exact KSp.out _ HU1.out;clear hK K hSU0;(try simp only [J0,J1,J2,J3,J4]);apply tkV 12 hSU1 rfl (by kernel_rfl) (fun _ _ _ h=>h) rfl;intro w hSw;(go_simp<;>with_reducible rfl);simp only [J0,J1,J2,J3,J4];refine freeU 13 rfl (by kernel_rfl) rfl (by kernel_rfl) fun K hK=>?_
  obtain ⟨cX,fX⟩:=(HSTP.out u1 HU1.out).1;have HAL:=Lib.hid (HSTP.out u1 HU1.out).2;go_simp;clear cX fX;refine hK.out _ _ ?_;clear hK K hSU1;(try simp only [J0,J1,J2,J3,J4]);refine wpAnyU_done (by kernel_rfl) ?_ _;obtain ⟨w2,hw2⟩:∃w2,u1.setCell ⟨X,9,none⟩ (.int .u64 1)=w2:=⟨_,rfl⟩;rw [hw2] at HAL;rw [hw2];clear hw2 HSTP HCVk TCL KSp HU0 HU1 HRB;go_upto_region 3 with fail
  go_meet;exact ⟨_,_,HAL,⟨rfl,rfl⟩⟩
 case rest=>
 obtain ⟨x1,y1,HA1,E1⟩:=hcut;obtain ⟨w2,rfl⟩:∃w2:World,w2=wc:=⟨_,rfl⟩;clear HSTP HCVk TCL HRB HBX;have TA:=Lib.hid (al_add HA1.out (by omega) 7 0 0 (by omega) (by decide) U64.zero);clear HA1;go_wp2_with fail;refine TA.out.mono ?_;rintro e w3 ⟨x3,y3,rfl,HA3,hm3,hl3,-⟩;have E3:Hid ((y3.m,y3.l)=runE clNE clRE oneC (pokeM oneC 9 1,[⟨7,1,0,0,0,0,0,0,0,0,0⟩]) []):=by
  show (y3.m,y3.l)=(pokeM oneC 9 1,[⟨7,1,0,0,0,0,0,0,0,0,0⟩]);rw [hm3,hl3,E1.out.1,E1.out.2]; rfl
 clear hm3 hl3 TA E1;have TS:=Lib.hid (al_stepE HA3.out (by omega) (by omega) 0 (by omega));clear HA3;go_wp2_with fail;refine TS.out.mono ?_;rintro e w4 ⟨x4,y4,rfl,HA4,he,-⟩;have EA:Hid ((y4.m,y4.l)=awA):=run_next E3.out he;clear he TS E3;have hm0:y4.l[0]?=some ⟨7,0,0,0,0,0,0,0,0,7,0⟩:=by rw [show y4.l=awA.2 from congrArg Prod.snd EA.out]; exact awA_0
 have HM0:=Lib.hid hm0;clear hm0 EA;obtain ⟨fl,fc,r0,r1,s2,k2,l2,s3,k3,l3,s4,k4,l4,hin,hfl,hBl,c9,f0,f1,f2,f3,f4,TE⟩:=HA4.out.ends 0 _ HM0.out rfl;go_wp2_with fail;refine (TE.out _ (Below.refl _ _)).mono ?_; rintro e w4e ⟨rfl,hbe⟩;have HA4e:=Lib.hid (HA4.out.next hbe);have HBe7:=Lib.hid hbe;clear hbe c9 f0 f1 f2 f3 f4 TE hin hfl hBl;obtain ⟨W7,hW7⟩:∃W7,(w4e.alloc (.cells #[.int .i64 0,.int .u64 0] 56)).setRow w4e.heap.size #[.int .i64 7,.int .u64 0]=W7:=⟨_,rfl⟩;have N7:Hid ((w4e.alloc (.cells #[.int .i64 0,.int .u64 0] 56)).heap[w4e.heap.size]?=some (.cells #[.int .i64 0,.int .u64 0] 56 (0,0))):=heap_alloc_new _ _;have HB7:Hid (Below w4e.heap.size w4e W7):=hW7▸row_below (below_new (Below.refl _ _) _) (Nat.le_refl _) _;have R7:Hid (W7.heap[w4e.heap.size]?=some (.cells #[.int .i64 7,.int .u64 0] 56 (0,0))):=hW7▸setRow_heap _ _ _ _ _ (0,0) N7.out;have HW7:=Lib.hid hW7;clear hW7;go_upto_region 6 with (refine wpList_store_row rfl 56 _ _ rfl (w4e.heap.size) _ rfl rfl 56 _ N7.out (by kernel_rfl) rfl (by simp [Value.oneCell']) ?_)
 rw [HW7.out];try simp only [Act.put]
 clear HW7 N7;have HA4o:=Lib.hid (HA4e.out.next HB7.out);obtain ⟨O7,hO7⟩:∃b,w4e.heap.size=b:=⟨_,rfl⟩;have hBO7:Hid (O7≠B):=by have:=HA4e.out.wi.lt; show _≠_; omega
 rw [hO7] at R7;rw [hO7];clear hO7 HA4e;have HBW:=Lib.hid HA4o.out.wi.below;clear HA4o HA4 HBe7 HB7;obtain ⟨o0,o1⟩:=rowc2 R7.out;go_wp2;go_ret;exact ⟨rfl,HBW.out⟩
def ConfM.cap0 (c:ConfM) (k:Int):ConfM:=⟨c.caps.set 0 k,c.starts,c.threads⟩
theorem ConfM.good.cap0 {c:ConfM} (h:c.good) (k:Int) (hk:0≤k∧k≤16):(c.cap0 k).good:=
 ⟨by show (c.caps.set 0 k).length≤8; simpa using h.len,by show c.starts.length=(c.caps.set 0 k).length; simpa using h.same,fun x hx=>by
  rcases List.mem_or_eq_of_mem_set hx with h1 | rfl
  ·exact h.caps x h1
  ·exact hk,h.starts,h.thr⟩
open Go.RowKit
def namedB (n:Int):Bool:=decide (-1≤n) && decide (n<8)
def rangesB (op:OpM):Bool:=namedB op.chan && decide (0≤op.dl) && decide (op.dl≤1099511627776) && op.cases.all fun c=>namedB c.chan
def shapeB (op:OpM):Bool:=
 if ((op.kind == 3 || op.kind == 5 || op.kind == 6) && op.mode != 0) || (op.dl != 0 && op.mode != 2) then false
 else if op.kind != 4 then decide (op.cases.length=0) && decide (op.draws.length=0) && (op.kind == 1 || op.val == 0)
 else if op.chan != 0 || op.val != 0 || decide (op.draws.length≠op.cases.length) then false
 else op.cases.all fun c=>c.send || c.val == 0
def kindB (op:OpM):Bool:=decide (1≤op.kind) && decide (op.kind≤6) && decide (0≤op.mode) && decide (op.mode≤2)
def checkE (op:OpM):Int:=
 if kindB op=false then 2 else if rangesB op=false then 2 else if 6<op.cases.length∨6<op.draws.length then 3
 else if okD 0 op.draws=false then 2 else if shapeB op=false then 5 else 0
structure OpM.ok (op:OpM):Prop where
 kind:op.kind=IntKind.i64.wrap op.kind
 mode:op.mode=IntKind.i64.wrap op.mode
 chan:op.chan=IntKind.i64.wrap op.chan
 val:op.val=IntKind.u64.wrap op.val
 dl:op.dl=IntKind.i64.wrap op.dl
structure OpM.good (op:OpM):Prop where
 check:checkE op=0
 ok:op.ok
 cases:op.cases.length≤6
 draws:op.draws.length≤6
 cok:∀c∈op.cases,c.ok
open Go.ChangeShapes Go.WideShapes Go.ChangeAt Go.RowKit Go.Deep
section
variable {H:Type} {enc:TypeId × Value→H} {W:World}
theorem open4 {t:TypeId} {f0 f1 f2 f3:Field} {q0 q1 q2 q3:Value} {fuel:Nat} {x:DataW H × List MemPlace} (hs:Try.prog.underlying t=some (.struct #[f0,f1,f2,f3])) (hone:oneCellFields Try.prog #[f0,f1,f2,f3]=true)
  (h:DataW.trod enc Try.prog W 0 (fun _=>true) true fuel t [q0,q1,q2,q3]=some x) :
  ∃(y0 y1 y2 y3:DataW H × List MemPlace) (n:Nat),x.1=.agg [y0.1,y1.1,y2.1,y3.1]∧DataW.trod enc Try.prog W 0 (fun _=>true) true n f0.type [q0]=some y0∧DataW.trod enc Try.prog W 0 (fun _=>true) true n f1.type [q1]=some y1∧DataW.trod enc Try.prog W 0 (fun _=>true) true n f2.type [q2]=some y2∧DataW.trod enc Try.prog W 0 (fun _=>true) true n f3.type [q3]=some y3:=by
 obtain ⟨xs,n,_,hx,_,hlen,hg⟩:=DataW.trod_struct hs h;obtain ⟨o0,k0⟩:=hone_of hone 0 f0 rfl;obtain ⟨o1,k1⟩:=hone_of hone 1 f1 rfl;obtain ⟨o2,k2⟩:=hone_of hone 2 f2 rfl;obtain ⟨o3,k3⟩:=hone_of hone 3 f3 rfl;match xs,hlen with
 | [y0,y1,y2,y3],_=>
  subst hx;exact ⟨y0,y1,y2,y3,n,rfl,by simpa [o0,k0] using hg 0 f0 rfl,by simpa [o1,k1] using hg 1 f1 rfl,by simpa [o2,k2] using hg 2 f2 rfl,by simpa [o3,k3] using hg 3 f3 rfl⟩
end
open Go.ChangeShapes Go.WideShapes Go.ChangeAt Go.RowKit Go.Deep
structure AnsC where
 val:Int
 ok:Bool
 late:Bool
 a:Option Addr
 n:Nat
 c:Nat
def noAns:AnsC:=⟨0,false,false,none,0,0⟩
def AnsC.row (b:AnsC):List Value:=[.int .u64 b.val,.bool b.ok,.bool b.late,.slice b.a b.n b.c]
def SlA (w:World) (v:Value) (l:List AnsC):Prop:=
 l.length≤140737488351232∧(∀b∈l,0≤b.val∧b.val<18446744073709551616)∧∃a cap,v=.slice a l.length cap∧l.length≤cap∧
  ∀t,t<l.length→∃b off,a=some ⟨b,off,none⟩∧b<w.heap.size∧∀j,j<4→w.cell? ⟨b,off+(t * 4+j),none⟩=some ((l.getD t noAns).row.getD j (.bool false))
theorem SlA.below {w w':World} {v:Value} {l:List AnsC} (h:SlA w v l) (hb:Below w.heap.size w w'):SlA w' v l:=by
 obtain ⟨h1,h2,a,cap,h3,h4,h5⟩:=h;refine ⟨h1,h2,a,cap,h3,h4,fun t ht=>?_⟩;obtain ⟨b,off,e,hlt,hc⟩:=h5 t ht;exact ⟨b,off,e,Nat.lt_of_lt_of_le hlt hb.size,fun j hj=>(hb.cell (p:=⟨b,off+(t * 4+j),none⟩) hlt).trans (hc j hj)⟩
theorem SlA.len {w:World} {v:Value} {l:List AnsC} (h:SlA w v l):∃a cap,v=.slice a l.length cap:=by
 obtain ⟨_,_,a,cap,rfl,_⟩:=h;exact ⟨a,cap,rfl⟩
theorem SlA.nil (w:World):SlA w (.slice none 0 0) []:=⟨by simp,by simp,none,0,rfl,Nat.le_refl _,fun t ht=>by simp at ht⟩
theorem slice_cell {H:Type} {enc:TypeId × Value→H} {W:World} {t e:TypeId} {v:Value} {n:Nat} {x:DataW H × List MemPlace} (ht:Try.prog.underlying t=some (.slice e)) (hf:DataW.trod enc Try.prog W 0 (fun _=>true) true n t [v]=some x):∃a m c,v=.slice a m c:=by
 rcases open_slice ht hf with ⟨hcs,_⟩ | ⟨a,len,cap,m,n',D,Pl,hcs,_⟩
 ·simp at hcs; exact ⟨_,_,_,hcs⟩
 ·simp at hcs; exact ⟨_,_,_,hcs⟩
theorem view_answers {H:Type} {enc:TypeId × Value→H} {W:World} {v:Value} {d:DataW H} {p:List MemPlace} (hsz:∀elems sp,d=.slice elems sp→(elems.length+sp.length) * Try.prog.bytesOf 53≤reachBytes)
  (hval:Value.okWide Try.prog W .any 0 50 v) (hd:DataW.Trod enc Try.prog W 0 (fun _=>true) true 50 v d p):∃l,SlA W v l:=by
 obtain ⟨a0,len0,cap0,rfl⟩:=okWide_slice Try.underlying50 hval;obtain ⟨fuel,hf⟩:=hd;have hC:Try.prog.cellsOf 53=4:=by kernel_rfl
 rcases open_slice Try.underlying50 hf with ⟨hcs,hx⟩ | ⟨a,len,cap,m,n',D,Pl,hcs,_,hl,hm,hmm,hx,hi⟩
 ·simp [Value.cells] at hcs
  obtain ⟨rfl,rfl,rfl⟩:=hcs;exact ⟨[],SlA.nil _⟩
 ·simp [Value.cells] at hcs
  obtain ⟨rfl,rfl,rfl⟩:=hcs;simp only [Prod.mk.injEq] at hx;obtain ⟨rfl,rfl⟩:=hx;simp only [if_true] at hmm;subst hmm;have hle:len0≤140737488351232:=by
   have h1:=hsz _ _ rfl;have hb:Try.prog.bytesOf 53=40:=by kernel_rfl
   rw [hb] at h1;simp only [List.length_map,List.length_range,reachBytes] at h1;omega
  have each:∀i,i<m→∃b:AnsC,(0≤b.val∧b.val<18446744073709551616)∧∀j,j<4→W.cell? (a.add (i * 4+j))=some (b.row.getD j (.bool false)):=by
   intro i him;obtain ⟨cs',hc',ht'⟩:=hi i him;rw [hC] at hc';obtain ⟨_,hcl,hat⟩:=World.cells?_some hc';match cs',hcl with
   | [q0,q1,q2,q3],_=>
    obtain ⟨y0,y1,y2,y3,n2,-,g0,g1,g2,g3⟩:=open4 Try.underlying53 (by kernel_rfl) ht';obtain ⟨z0,hz0,-,wz0⟩:=DataW.trod_int Try.underlying23 g0;obtain ⟨b1,hb1,-⟩:=DataW.trod_bool Try.underlying4 g1;obtain ⟨b2,hb2,-⟩:=DataW.trod_bool Try.underlying4 g2;obtain ⟨sa,sn,sc,hs⟩:=slice_cell Try.underlying28 g3;simp at hz0 hb1 hb2;subst hz0 hb1 hb2 hs;have hw:=wrap_of_wf wz0;rw [IntKind.wrap_u64] at hw;have aa:∀j,(a.add (i * 4)).add j=a.add (i * 4+j):=fun j=>by
     unfold Addr.add;by_cases hi0:i * 4=0 <;> by_cases hj:j=0 <;> simp [hi0,hj,Nat.add_assoc]
    refine ⟨⟨z0,b1,b2,sa,sn,sc⟩,⟨by show 0≤z0; omega,by show z0<_; omega⟩,fun j hj=>?_⟩;have h4:=hat j (by simpa using hj);rw [aa] at h4;have hj4:j=0∨j=1∨j=2∨j=3:=by omega
    rcases hj4 with rfl | rfl | rfl | rfl <;> simpa [AnsC.row] using h4
  have each':∀i,∃b:AnsC,i<m→(0≤b.val∧b.val<18446744073709551616)∧∀j,j<4→W.cell? (a.add (i * 4+j))=some (b.row.getD j (.bool false)):=fun i=>by
   by_cases him:i<m
   ·obtain ⟨c,hc⟩:=each i him; exact ⟨c,fun _=>hc⟩
   ·exact ⟨noAns,fun h=>absurd h him⟩
  refine ⟨(List.range len0).map fun i=>(each' i).choose,by simpa using hle,?_,some a,m,by simp,by simpa using hl,fun i hi'=>?_⟩
  ·intro c hc
   obtain ⟨i,hir,rfl⟩:=List.mem_map.1 hc;exact ((each' i).choose_spec (by have:=List.mem_range.1 hir; omega)).1
  ·simp at hi'
   have hg:((List.range len0).map fun i=>(each' i).choose).getD i noAns=(each' i).choose:=by
    simp [List.getD_eq_getElem?_getD,hi']
   rw [hg];generalize hch:(each' i).choose=ch;have hsp:=(each' i).choose_spec (by omega);rw [hch] at hsp;have d0:=((each' 0).choose_spec (by omega)).2 0 (by omega);clear hg hch;obtain ⟨b,off,sp⟩:=a;have hsp2:sp=none:=by simpa [Addr.add] using World.cell?_spot d0
   subst hsp2;rw [add_plain] at d0;refine ⟨b,off,rfl,by simpa using World.block_lt_of_cell? W _ d0,fun j hj=>?_⟩;have h6:=hsp.2 j hj;rw [add_plain] at h6;exact h6
theorem WI.wordsAt {WT:TypeId} {w0 w:World} {E:List (Option Nat)} {B D:Nat} {x:WV} {y:WM} (h:WI WT w0 w E B D x y) (hn:1≤y.m.words.length):∃mb mo,x.mA=some ⟨mb,mo,none⟩∧∀w',OffS (x.S E B) w w'→∀j,j<y.m.words.length→w'.cell? ⟨mb,mo+j,none⟩=some (.int .u64 (y.m.words.getD j 0)):=by
 have key:∀w',OffS (x.S E B) w w'→∃mb mo,x.mA=some ⟨mb,mo,none⟩∧∀j,j<y.m.words.length→w'.cell? ⟨mb,mo+j,none⟩=some (.int .u64 (y.m.words.getD j 0)):=fun w' hw=>by
  obtain ⟨vw,vl,us,e,h1,-⟩:=h.mem.at hw;unfold WV.mem at e;simp only [Value.agg.injEq,Array.mk.injEq,List.cons.injEq] at e;obtain ⟨rfl,-⟩:=e;obtain ⟨b,off,cap,e2,-,-,hc⟩:=h1.open (by intro h0; rw [h0] at hn; simp at hn);simp only [Value.slice.injEq] at e2;exact ⟨b,off,e2.1,hc⟩
 obtain ⟨mb,mo,e,-⟩:=key w (OffS.self _ _);refine ⟨mb,mo,e,fun w' hw=>?_⟩;obtain ⟨mb',mo',e',hc⟩:=key w' hw;rw [e] at e';simp only [Option.some.injEq,Addr.mk.injEq] at e';obtain ⟨rfl,rfl,-⟩:=e';exact hc
theorem OffS.exempt {S:List (Option Nat)} {w w2:World} {A:Nat} (hb:Below w.heap.size w w2) (hA:w.heap.size≤A):∀w3,OffS (some A :: S) w2 w3→OffS S w w3:=fun w3 h3=>(OffS.below (S:=S) hb).trans h3 fun j hj hm=>by
 simp only [List.mem_cons,Option.some.injEq] at hm;rcases hm with rfl | hm
 ·omega
 ·exact hm
theorem WI.poke {WT AT:TypeId} {w0 wr w2:World} {E:List (Option Nat)} {B D A:Nat} {x:WV} {y:WM} {cs:Array Value} (h:WI WT w0 wr E B D x y) (hAE:some A∈E) (hA:wr.heap[A]?=some (.cells cs AT (0,0))) (hAB:A≠B) (hg:wr.grownBy w2 (some A)) (h1:AT≠58) (h2:AT≠104) (h3:AT≠34) (h4:AT≠61):WI WT w0 w2 E B D x y:=by
 have o1:OffS (x.S E B) wr w2:=OffS.grown hg (.inr (by simp [WV.S,hAE]));have hin:∀w3,OffS (x.S E B) w2 w3→OffS (x.S E B) wr w3:=fun w3 h5=>o1.trans1 h5;have k:∀{e:TypeId} {s:Nat} {v:Value} {r:List (List Value)},OwnS wr D e s v r→AT≠e→OwnS w2 D e s v r:=fun ho he=>ho.kept hg (by
  rcases ho.2.2 with ⟨rfl,_⟩ | ⟨b,cap,cur,rfl,_,hb,_⟩
  ·exact .inl rfl
  ·refine .inr ?_
   simp only [Value.ownBlock,ne_eq,Option.some.injEq];rintro rfl;rw [hA] at hb;simp at hb;exact he hb.2)
 exact ⟨h.w0B,fun j hj=>⟨(h.eW j hj).1,Nat.lt_of_lt_of_le (h.eW j hj).2 hg.size⟩,h.BD,Nat.le_trans h.Dw hg.size,(hg.block B h.lt (by simp; omega)).trans h.row,fun w3 h5=>h.conf w3 (hin w3 h5),h.good,h.mem.sub hin,h.fits,k h.ol h1,k h.ot h2,k h.op h3,k h.of h4,fun z hz=>(h.past z hz).sub hin,h.below.grown hg h.below.size (fun j hj=>by cases hj; exact (h.eW A hAE).1)⟩
theorem U64.wrapped (x:Int):U64 (IntKind.u64.wrap x):=by rw [IntKind.wrap_u64]; unfold U64; omega
theorem cell_heap {w w':World} {b:Nat} (h:w'.heap[b]?=w.heap[b]?) (o:Nat):w'.cell? ⟨b,o,none⟩=w.cell? ⟨b,o,none⟩:=by
 simp [World.cell?,h]
theorem lists_apart {WT:TypeId} {w0 w:World} {E:List (Option Nat)} {B D:Nat} {x:WV} {y:WM} (h:WI WT w0 w E B D x y) {gl fl:Nat} (hl:x.lA=some ⟨gl,0,none⟩) (hf:x.fA=some ⟨fl,0,none⟩):fl≠gl:=by
 rintro rfl;have h1:=h.ol;have h2:=h.of;unfold WV.vl at h1;unfold WV.vf at h2;rw [hl] at h1;rw [hf] at h2;rcases h1.2.2 with ⟨e,_⟩ | ⟨b,cap,cur,e,_,hb,_⟩
 ·simp at e
 ·rcases h2.2.2 with ⟨e',_⟩ | ⟨b',cap',cur',e',_,hb',_⟩
  ·simp at e'
  ·simp only [Value.slice.injEq,Option.some.injEq,Addr.mk.injEq] at e e'
   rw [← e.1.1] at hb;rw [← e'.1.1,hb] at hb';simp at hb'
theorem there_keep {w u:World} {b o n a o1:Nat} {l1:List Value} (h:w.there b o n) (hb:Below w.heap.size w u) (hl:b<w.heap.size) (hne:b≠a):(u.setCells a o1 l1).there b o n:=fun j hj=>by
 have h1:=there_below h hb hl j hj;have h2:=setCells_other a l1 o1 u b hne;have e1:(u.setCells a o1 l1).cell? ⟨b,o+j,none⟩=u.cell? ⟨b,o+j,none⟩:=cell_heap h2 _;have e2:(u.setCells a o1 l1).frozen? ⟨b,o+j,none⟩=u.frozen? ⟨b,o+j,none⟩:=by simp [World.frozen?,h2]
 rw [e1,e2];exact h1
theorem SlA.elemAt {w:World} {v:Value} {l:List AnsC} (h:SlA w v l) (i:Nat) (hi:i<l.length):∃b o c,v=.slice (some ⟨b,o,none⟩) l.length c∧b<w.heap.size∧w.cell? ⟨b,o+i * 4,none⟩=some (.int .u64 (l.getD i noAns).val)∧w.cell? ⟨b,o+i * 4+1,none⟩=some (.bool (l.getD i noAns).ok)∧w.cell? ⟨b,o+i * 4+2,none⟩=some (.bool (l.getD i noAns).late)∧w.cell? ⟨b,o+i * 4+3,none⟩=some (.slice (l.getD i noAns).a (l.getD i noAns).n (l.getD i noAns).c):=by
 obtain ⟨_,_,a,cap,rfl,_,h5⟩:=h;obtain ⟨b,off,rfl,hlt,hc⟩:=h5 i hi;exact ⟨b,off,cap,rfl,hlt,hc 0 (by omega),hc 1 (by omega),hc 2 (by omega),hc 3 (by omega)⟩
theorem SlA.valU {w:World} {v:Value} {l:List AnsC} (h:SlA w v l) (i:Nat):U64 (l.getD i noAns).val:=by
 by_cases hi:i<l.length
 ·rw [List.getD_eq_getElem?_getD,List.getElem?_eq_getElem hi]; exact h.2.1 _ (List.getElem_mem hi)
 ·rw [List.getD_eq_getElem?_getD,List.getElem?_eq_none (by omega)]; exact U64.zero
theorem applyE_cas {m:MemM} {A:Nat} (hA:A<m.words.length) (old new:Int) :
  applyE m ⟨3,A,old,new,0⟩=(if m.words.getD A 0=old then (⟨m.words.set A new,m.lists,m.tick⟩,⟨m.words.getD A 0,true,false,[]⟩,true) else (m,⟨m.words.getD A 0,false,false,[]⟩,true)):=by
 have hb:hasB m.words.length (A:Int)=true:=by unfold hasB; simp; omega
 unfold applyE grantB wordE;simp only [hb];simp;split <;> rfl
theorem applyE_store {m:MemM} {A:Nat} (hA:A<m.words.length) (kind new:Int) (hk:kind=2∨kind=6) :
  applyE m ⟨kind,A,0,new,0⟩=(⟨m.words.set A new,m.lists,m.tick⟩,ansZ,true):=by
 have hb:hasB m.words.length (A:Int)=true:=by unfold hasB; simp; omega
 unfold applyE grantB wordE;rcases hk with rfl | rfl <;> simp [hb]
def wonB (k:MachM):Bool:=k.pl == 0 && k.ok == 7
structure OnceI (c:ConfM) (A:Nat) (m:MemM) (l:List MachM) (d:Bool):Prop where
 lt:A<m.words.length
 mach:∀k∈l,(k.what=7∨k.what=10)∧c.thrW k.thr=A∧(k.pl=1∨k.pl=0)
 open_:d=false→m.words.getD A 0=1∧∀k∈l,k.pl=1
 done:d=true→m.words.getD A 0≠1∧l.countP wonB=1
theorem countP_setW {p:MachM→Bool}:∀{l:List MachM} {i:Nat} (hi:i<l.length) (a:MachM),(l.set i a).countP p+(if p l[i]=true then 1 else 0)=l.countP p+(if p a=true then 1 else 0)
 | b :: l,0,_,a=>by
  rw [List.set_cons_zero,List.countP_cons,List.countP_cons,List.getElem_cons_zero];omega
 | b :: l,i+1,hi,a=>by
  have:=countP_setW (p:=p) (l:=l) (i:=i) (by simpa using hi) a;rw [List.set_cons_succ,List.countP_cons,List.countP_cons,List.getElem_cons_succ];omega
theorem OnceI.step {c:ConfM} {A:Nat} {m:MemM} {l:List MachM} {d:Bool} (h:OnceI c A m l d) (i:Nat) (hi:i<l.length):OnceI c A (stepE clNE clRE c m l i).1 (stepE clNE clRE c m l i).2 true:=by
 have hk:=h.mach l[i] (List.getElem_mem hi);unfold stepE;rw [List.getElem?_eq_getElem hi];obtain ⟨k,hke⟩:∃k,l[i]=k:=⟨_,rfl⟩;rw [hke] at hk;obtain ⟨hw,ht,hp⟩:=hk;simp only [hke];by_cases h0:k.pl=0
 ·rw [if_pos h0]
  cases d with
  | true=>exact h
  | false=>exact absurd ((h.open_ rfl).2 k (hke▸List.getElem_mem hi)) (by omega)
 rw [if_neg h0];have hp1:k.pl=1:=by omega
 obtain ⟨nw,hne,hnw⟩:∃nw,clNE c k=⟨3,A,1,nw,0⟩∧nw≠1:=by
  rcases hw with hw | hw
  ·exact ⟨2,by rw [clNE_7_1 hw hp1,ht],by decide⟩
  ·exact ⟨4,by rw [clNE_10_1 hw hp1,ht],by decide⟩
 rw [hne,applyE_cas h.lt];have own:∀b:AnsM,(clRE c k b).what=k.what∧(clRE c k b).thr=k.thr∧((clRE c k b).pl=1∨(clRE c k b).pl=0):=fun b=>by
  unfold clRE;rw [if_neg h0];rcases hw with hw | hw
  ·rw [if_pos hw]; split
   ·exact ⟨rfl,rfl,.inr rfl⟩
   ·split
    ·exact ⟨rfl,rfl,.inl hp1⟩
    ·exact ⟨rfl,rfl,.inr rfl⟩
  ·rw [if_neg (by omega),if_pos hw]; split <;> exact ⟨rfl,rfl,.inr rfl⟩
 have mach:∀b:AnsM,∀q∈l.set i (clRE c k b),(q.what=7∨q.what=10)∧c.thrW q.thr=A∧(q.pl=1∨q.pl=0):=fun b q hq=>by
  rcases List.mem_or_eq_of_mem_set hq with h1 | rfl
  ·exact h.mach q h1
  ·obtain ⟨e1,e2,e3⟩:=own b
   rw [e1,e2]; exact ⟨hw,ht,e3⟩
 cases d with
 | false=>
  obtain ⟨hv,hall⟩:=h.open_ rfl;rw [if_pos hv,if_pos rfl];refine ⟨by simpa using h.lt,mach _,fun e=>(by cases e),fun _=>⟨?_,?_⟩⟩
  ·show (m.words.set A nw).getD A 0≠1
   rw [List.getD_eq_getElem?_getD,List.getElem?_set_self h.lt]; exact hnw
  ·have hz:l.countP wonB=0:=by
    rw [List.countP_eq_zero];intro q hq hh;unfold wonB at hh;rw [hall q hq] at hh;simp at hh
   have hs:=countP_setW (p:=wonB) hi (clRE c k ⟨m.words.getD A 0,true,false,[]⟩);have hn:wonB l[i]=false:=by unfold wonB; rw [hke,hp1]; rfl
   have hy:wonB (clRE c k ⟨m.words.getD A 0,true,false,[]⟩)=true:=by
    unfold clRE;rw [if_neg h0];rcases hw with hw | hw
    ·rw [if_pos hw,if_pos rfl]; rfl
    ·rw [if_neg (by omega),if_pos hw,if_pos rfl]; rfl
   rw [hz,hn,hy] at hs;simpa using hs
 | true=>
  obtain ⟨hv,hc⟩:=h.done rfl;rw [if_neg hv,if_pos rfl];refine ⟨h.lt,mach _,fun e=>(by cases e),fun _=>⟨hv,?_⟩⟩;have hs:=countP_setW (p:=wonB) hi (clRE c k ⟨m.words.getD A 0,false,false,[]⟩);have hn:wonB l[i]=false:=by unfold wonB; rw [hke,hp1]; rfl
  have hy:wonB (clRE c k ⟨m.words.getD A 0,false,false,[]⟩)=false:=by
   unfold clRE;rw [if_neg h0];rcases hw with hw | hw
   ·rw [if_pos hw,if_neg (by simp)]
    split
    ·unfold wonB; rw [hp1]; rfl
    ·rfl
   ·rw [if_neg (by omega),if_pos hw,if_neg (by simp)]; rfl
  rw [hc,hn,hy] at hs;simpa using hs
theorem OnceI.run {c:ConfM} {A:Nat} {d:Bool} (is:List Nat):∀{s:MemM × List MachM},OnceI c A s.1 s.2 d→(∀i∈is,i<s.2.length)→(d=true∨is≠[])→OnceI c A (runE clNE clRE c s is).1 (runE clNE clRE c s is).2 true:=by
 induction is generalizing d with
 | nil=>intro s h _ hd; rcases hd with rfl | hd; exact h; exact absurd rfl hd
 | cons i is ih=>
  intro s h hi _;have h1:=h.step i (hi i (List.mem_cons_self ..));exact ih (s:=stepE clNE clRE c s.1 s.2 i) h1 (fun j hj=>by rw [stepE_len]; exact hi j (List.mem_cons_of_mem _ hj)) (.inl rfl)
theorem pickI_lt (n:Nat) (p:Int) (hn:1≤n):pickI n p<n:=by
 unfold pickI;have:=Int.tmod_lt_of_pos p (b:=(n:Int)) (by omega);omega
theorem countP_take {p:MachM→Bool} (l:List MachM) (i:Nat) (k:MachM) (h:l[i]?=some k):(l.take (i+1)).countP p=(l.take i).countP p+(if p k=true then 1 else 0):=by
 rw [List.take_add_one,h,List.countP_append];show _+[k].countP p=_;rw [List.countP_cons,List.countP_nil,Nat.zero_add]
theorem playL_lt (l:List Int) (most turns n:Nat) (hn:1≤n):∀i∈playL l most turns n,i<n:=fun i hi=>by
 unfold playL at hi;rw [List.mem_append] at hi;rcases hi with hi | hi
 ·obtain ⟨p,-,rfl⟩:=List.mem_map.1 hi
  exact pickI_lt n p hn
 ·obtain ⟨r,hr,hi⟩:=List.mem_flatten.1 hi
  rw [List.eq_of_mem_replicate hr] at hi;exact List.mem_range.1 hi
theorem OnceI.add {c:ConfM} {A:Nat} {m:MemM} {l:List MachM} (h:OnceI c A m l false) (k:MachM) (hw:k.what=7∨k.what=10) (ht:c.thrW k.thr=A) (hp:k.pl=1):OnceI c A m (l ++ [k]) false:=
 ⟨h.lt,fun q hq=>by
  rw [List.mem_append,List.mem_singleton] at hq;rcases hq with hq | rfl
  ·exact h.mach q hq
  ·exact ⟨hw,ht,.inl hp⟩,fun e=>⟨(h.open_ rfl).1,fun q hq=>by
  rw [List.mem_append,List.mem_singleton] at hq;rcases hq with hq | rfl
  ·exact (h.open_ rfl).2 q hq
  ·exact hp⟩,fun e=>by cases e⟩
theorem stepE_casK {c:ConfM} {m:MemM} {l:List MachM} {i:Nat} {k:MachM} (hk:l[i]?=some k) (hp:¬k.pl=0) {new:Int} {A:Nat} (hA:A<m.words.length) (he:clNE c k=⟨3,A,1,new,0⟩) (hv:m.words.getD A 0=1):stepE clNE clRE c m l i=(⟨m.words.set A new,m.lists,m.tick⟩,l.set i (clRE c k ⟨1,true,false,[]⟩)):=by
 unfold stepE;rw [hk];simp only [];rw [if_neg hp,he,applyE_cas hA,if_pos hv,hv];simp
theorem stepE_casN {c:ConfM} {m:MemM} {l:List MachM} {i:Nat} {k:MachM} (hk:l[i]?=some k) (hp:¬k.pl=0) {new:Int} {A:Nat} (hA:A<m.words.length) (he:clNE c k=⟨3,A,1,new,0⟩) (hv:¬m.words.getD A 0=1):stepE clNE clRE c m l i=(m,l.set i (clRE c k ⟨m.words.getD A 0,false,false,[]⟩)):=by
 unfold stepE;rw [hk];simp only [];rw [if_neg hp,he,applyE_cas hA,if_neg hv];simp
theorem stepE_st {c:ConfM} {m:MemM} {l:List MachM} {i:Nat} {k:MachM} (hk:l[i]?=some k) (hp:¬k.pl=0) {new:Int} {A:Nat} (hA:A<m.words.length) (he:clNE c k=⟨2,A,0,new,0⟩):stepE clNE clRE c m l i=(⟨m.words.set A new,m.lists,m.tick⟩,l.set i (clRE c k ansZ)):=by
 unfold stepE;rw [hk];simp only [];rw [if_neg hp,he,applyE_store hA 2 new (.inl rfl)];simp
def nk (what:Int):MachM:=⟨what,1,0,0,0 % 4,0 % 8,0,0,0,0,0⟩
def wonK (what ok:Int):MachM:=⟨what,0,0,0,0 % 4,0 % 8,0,0,0,ok,0⟩
structure UndI (m:MemM) (v:Int):Prop where
 lt:m.words.length=31
 val:m.words.getD 9 0=v
theorem oneC_thr:oneC.thrW 0=((9:Nat):Int):=by decide +kernel
theorem und_res {m:MemM} {l:List MachM} {i:Nat} (hk:l[i]?=some (nk 7)) (h:UndI m 1):∃m2,stepE clNE clRE oneC m l i=(m2,l.set i (wonK 7 7))∧UndI m2 2:=by
 refine ⟨_,(stepE_casK hk (by decide) (A:=9) (new:=2) (by rw [h.lt]; decide) (by rw [clNE_7_1 rfl rfl]; show (⟨3,oneC.thrW 0,1,2,0⟩:AccM)=_; rw [oneC_thr]) h.val).trans rfl,by show (m.words.set 9 2).length=31; rw [List.length_set]; exact h.lt,by show (m.words.set 9 2).getD 9 0=2; rw [getD_setL,if_pos ⟨rfl,by rw [h.lt]; decide⟩]⟩
theorem und_exp {m:MemM} {l:List MachM} {i:Nat} (hk:l[i]?=some (nk 10)) (h:UndI m 2):stepE clNE clRE oneC m l i=(m,l.set i (wonK 10 8)):=
 (stepE_casN hk (by decide) (A:=9) (new:=4) (by rw [h.lt]; decide) (by rw [clNE_10_1 rfl rfl]; show (⟨3,oneC.thrW 0,1,4,0⟩:AccM)=_; rw [oneC_thr]) (by rw [h.val]; decide)).trans (by rw [h.val]; rfl)
theorem und_win {m:MemM} {l:List MachM} {i:Nat} (hk:l[i]?=some (nk 10)) (h:UndI m 1):∃m2,stepE clNE clRE oneC m l i=(m2,l.set i (wonK 10 7))∧UndI m2 4:=by
 refine ⟨_,(stepE_casK hk (by decide) (A:=9) (new:=4) (by rw [h.lt]; decide) (by rw [clNE_10_1 rfl rfl]; show (⟨3,oneC.thrW 0,1,4,0⟩:AccM)=_; rw [oneC_thr]) h.val).trans rfl,by show (m.words.set 9 4).length=31; rw [List.length_set]; exact h.lt,by show (m.words.set 9 4).getD 9 0=4; rw [getD_setL,if_pos ⟨rfl,by rw [h.lt]; decide⟩]⟩
theorem und_und {m:MemM} {l:List MachM} {i:Nat} (hk:l[i]?=some (nk 8)) {v:Int} (h:UndI m v):∃m2,stepE clNE clRE oneC m l i=(m2,l.set i (wonK 8 1))∧UndI m2 1:=by
 refine ⟨_,(stepE_st hk (by decide) (A:=9) (new:=1) (by rw [h.lt]; decide) (by rw [clNE_8_1 rfl rfl]; show (⟨2,oneC.thrW 0,0,1,0⟩:AccM)=_; rw [oneC_thr])).trans rfl,by show (m.words.set 9 1).length=31; rw [List.length_set]; exact h.lt,by show (m.words.set 9 1).getD 9 0=1; rw [getD_setL,if_pos ⟨rfl,by rw [h.lt]; decide⟩]⟩
theorem AllReadyU.freeG {P:Program} {md:Region.Mode} {Q:Exit→Act→World→Prop} {S:World→Prop} {k:Nat} {l:List Oper} {fuel:Nat} {listed:Array Bool} {a:Act} {w:World} {i:Nat} {o:Oper} {rs:List Nat} (ho:ListAt l i o)
  (hk:(listed.setIfInBounds i true).getD k true=true)
  (h:∀K':Act→World→Prop,ShutU (∀a w,wpAnyU P md l.toArray Q S k fuel (listed.setIfInBounds i true) a w→K' a w)→if Region.wanted o (yielded l.toArray a.tmps)=true then Oper.wp P o a w K' Q else K' (a.put o.dst undef) w)
  (hs:AllReadyU P md l.toArray Q S k fuel listed a w rs):AllReadyU P md l.toArray Q S k fuel listed a w (i :: rs):=fun j hj=>by
 rcases List.mem_cons.1 hj with rfl | hj
 ·exact wpOp_step ho.get (fun K' hK=>h K' (fun a w hW=>hK a w ⟨fun h0=>(by rw [hk] at h0; cases h0),hW⟩))
 ·exact hs j hj
theorem slotsE_hi {c:ConfM} (hg:c.good) {k:Nat} (hk:k<c.caps.length) {b:Nat} (hb:c.base c.caps.length≤(b:Int)) (ws:List Int) (j:Nat):(slotsE c k ws j).getD b 0=ws.getD b 0:=by
 induction j with
 | zero=>rfl
 | succ j ih=>
  show ((slotsE c k ws j).set (c.slotW k (nextI (c.st k) j)).toNat (nextI (c.st k) j)).getD b 0=_;have h1:=hg.mono k hk;have h2:=hg.base8 k (Nat.le_of_lt hk);have h3:=hg.size k hk;have h4:=slotI_lt (nextI (c.st k) j) (c.size k) (next_lt (c.st k) j).1 h3.1;have e:c.slotW k (nextI (c.st k) j)=c.base k+5+slotI (nextI (c.st k) j) (c.size k) * 2:=rfl;rw [getD_setL,if_neg (by omega),ih]
theorem newE_hi {c:ConfM} (hg:c.good) {b:Nat} (hb:c.base c.caps.length≤(b:Int)):(newE c).words.getD b 0=0:=by
 have hW:(newE c).words=chansE c c.caps.length:=by unfold newE; rw [if_pos (checkC_good hg)]
 rw [hW];have key:∀k,k≤c.caps.length→(chansE c k).getD b 0=0:=by
  intro k;induction k with
  | zero=>
   intro _;show (List.replicate _ (0:Int)).getD b 0=0;rw [List.getD_eq_getElem?_getD];by_cases h:b<(c.thrW c.threads).toNat <;> simp [h]
  | succ k ih=>
   intro hk;show (slotsE c k (headE c k (chansE c k)) (c.size k).toNat).getD b 0=0;have h1:=hg.mono k (by omega);have h2:=hg.base8 k (by omega);have h3:=hg.size k (by omega);rw [slotsE_hi hg (by omega) hb];show (((chansE c k).set (c.base k).toNat (packI (c.st k) false)).set (c.base k+1).toNat (c.st k)).getD b 0=0;rw [getD_setL,if_neg (by omega),getD_setL,if_neg (by omega)];exact ih (by omega)
 exact key _ (Nat.le_refl _)
def fireM (m:MemM) (A:Nat) (v:Int):Nat→MemM
 | 0=>m
 | 1=>⟨m.words.set (A+3) (v % 4),m.lists,m.tick⟩
 | 2=>⟨(m.words.set (A+3) (v % 4)).set (A+2) (v % 8),m.lists,m.tick⟩
 | 3=>⟨((m.words.set (A+3) (v % 4)).set (A+2) (v % 8)).set (A+4) v,m.lists,m.tick⟩
 | 4=>⟨(((m.words.set (A+3) (v % 4)).set (A+2) (v % 8)).set (A+4) v).set A 3,m.lists,m.tick⟩
 | _=>⟨((((m.words.set (A+3) (v % 4)).set (A+2) (v % 8)).set (A+4) v).set A 3).set (A+1) 1,m.lists,m.tick⟩
def fireK (th v:Int) (i:Nat):MachM:=if i<5 then ⟨9,(i:Int)+1,0,th,v % 4,v % 8,v,0,0,0,0⟩ else ⟨9,0,0,th,v % 4,v % 8,v,0,0,1,0⟩
theorem stepE_store {c:ConfM} {m:MemM} {l:List MachM} {i:Nat} {k:MachM} (hk:l[i]?=some k) (hp:¬k.pl=0) {kind new:Int} {A:Nat} (hA:A<m.words.length) (hkd:kind=2∨kind=6) (he:clNE c k=⟨kind,A,0,new,0⟩):stepE clNE clRE c m l i=(⟨m.words.set A new,m.lists,m.tick⟩,l.set i (clRE c k ansZ)):=by
 unfold stepE;rw [hk];simp only [];rw [if_neg hp,he,applyE_store hA kind new hkd];simp
theorem fire_step {c:ConfM} {m:MemM} {A:Nat} {th v:Int} (hA:c.thrW th=(A:Int)) (hl:A+4<m.words.length) {i:Nat} (hi:i<5):stepE clNE clRE c (fireM m A v i) [fireK th v i] 0=(fireM m A v (i+1),[fireK th v (i+1)]):=by
 have e3:c.thrW th+3=((A+3:Nat):Int):=by omega
 have e2:c.thrW th+2=((A+2:Nat):Int):=by omega
 have e4:c.thrW th+4=((A+4:Nat):Int):=by omega
 have e1:c.thrW th+1=((A+1:Nat):Int):=by omega
 match i,hi with
 | 0,_=>rw [stepE_store (k:=fireK th v 0) rfl (by show ¬(1:Int)=0; decide) (A:=A+3) (kind:=6) (new:=v % 4) (by show A+3<m.words.length; omega) (.inr rfl) (by rw [clNE_9_1 rfl rfl,← e3]; rfl)]; rfl
 | 1,_=>rw [stepE_store (k:=fireK th v 1) rfl (by show ¬(2:Int)=0; decide) (A:=A+2) (kind:=6) (new:=v % 8) (by simp [fireM]; omega) (.inr rfl) (by rw [clNE_9_2 rfl rfl,← e2]; rfl)]; rfl
 | 2,_=>rw [stepE_store (k:=fireK th v 2) rfl (by show ¬(3:Int)=0; decide) (A:=A+4) (kind:=6) (new:=v) (by simp [fireM]; omega) (.inr rfl) (by rw [clNE_9_3 rfl rfl,← e4]; rfl)]; rfl
 | 3,_=>rw [stepE_store (k:=fireK th v 3) rfl (by show ¬(4:Int)=0; decide) (A:=A) (kind:=2) (new:=3) (by simp [fireM]; omega) (.inl rfl) (by rw [clNE_9_4 rfl rfl,← hA]; rfl)]; rfl
 | 4,_=>rw [stepE_store (k:=fireK th v 4) rfl (by show ¬(5:Int)=0; decide) (A:=A+1) (kind:=2) (new:=1) (by simp [fireM]; omega) (.inl rfl) (by rw [clNE_9_5 rfl rfl,← e1]; rfl)]; rfl
theorem fireM_len (m:MemM) (A:Nat) (v:Int) (i:Nat):(fireM m A v i).words.length=m.words.length:=by
 unfold fireM;split <;> simp
theorem fireM_flag {m:MemM} {A:Nat} (v:Int) (h0:m.words.getD (A+1) 0=0) {i:Nat} (hi:i<5):(fireM m A v i).words.getD (A+1) 0=0:=by
 match i,hi with
 | 0,_=>exact h0
 | 1,_=>simp only [fireM,getD_setL]; rw [if_neg (by omega)]; exact h0
 | 2,_=>simp only [fireM,getD_setL]; rw [if_neg (by omega),if_neg (by omega)]; exact h0
 | 3,_=>simp only [fireM,getD_setL]; rw [if_neg (by omega),if_neg (by omega),if_neg (by omega)]; exact h0
 | 4,_=>simp only [fireM,getD_setL]; rw [if_neg (by omega),if_neg (by omega),if_neg (by omega),if_neg (by omega)]; exact h0
theorem fireM_all {m:MemM} {A:Nat} (v:Int) (hl:A+4<m.words.length):(fireM m A v 5).words.getD (A+1) 0=1∧(fireM m A v 5).words.getD A 0=3∧(fireM m A v 5).words.getD (A+4) 0=v∧(fireM m A v 5).words.getD (A+2) 0=v % 8∧(fireM m A v 5).words.getD (A+3) 0=v % 4:=by
 refine ⟨?_,?_,?_,?_,?_⟩
 ·simp only [fireM,getD_setL]; rw [if_pos ⟨trivial,by simp; omega⟩]
 ·simp only [fireM,getD_setL]; rw [if_neg (by omega),if_pos ⟨trivial,by simp; omega⟩]
 ·simp only [fireM,getD_setL]; rw [if_neg (by omega),if_neg (by omega),if_pos ⟨trivial,by simp; omega⟩]
 ·simp only [fireM,getD_setL]; rw [if_neg (by omega),if_neg (by omega),if_neg (by omega),if_pos ⟨trivial,by simp; omega⟩]
 ·simp only [fireM,getD_setL]; rw [if_neg (by omega),if_neg (by omega),if_neg (by omega),if_neg (by omega),if_pos ⟨trivial,by omega⟩]
end Go.Proofs.Ytifhafjhmjkekaa
