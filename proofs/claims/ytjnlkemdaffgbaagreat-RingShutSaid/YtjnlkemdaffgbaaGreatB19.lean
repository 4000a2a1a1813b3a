
import Derived.Test.YtjnlkemdaffgbaaGreatB18
import Derived.Test.YtjnlkemdaffgbaaGreatB16
import Derived.Test.YtjnlkemdaffgbaaGreatB17
import Derived.Test.YtjnlkemdaffgbaaGreatB08
import Derived.Test.YtjnlkemdaffgbaaGreatB12
import Derived.Test.YtjnlkemdaffgbaaGreatB13
set_option linter.unusedVariables false
set_option linter.unusedSimpArgs false
namespace Go.Proofs.YtjnlkemdaffgbaaGreat
open Go.ChangeShapes Go.WideShapes Go.ChangeAt Go.RowKit
set_option maxRecDepth 100000
def pcI (m:MachM):Int:=if m.pl=0 then 4 else m.pl
def PuR (G:World→Prop) (c:ConfM) (f:List Value) (m:MachM):Prop:=
 ownM m=true→c.good∧rgK c m∧((m.pl=0∧m.ok=9∧m.ov=restI (m.t / 2) m.h)∨(m.pl≠0∧m.ok=0∧m.ov=0))∧∃wa wn wc la ln lc,f=puL 0 (pcI m) (.slice wa wn wc) (.slice la ln lc)∧∀w,G w→PuV w c m.chan.toNat m.t m.h (.slice wa wn wc) (.slice la ln lc)
theorem own_what {m:MachM} (h:ownM m=true):m.what=6:=by unfold ownM at h; simpa using h
theorem pu_new {G:World→Prop} {w w':World} {c:ConfM} {m r:MachM} {nb nl:Nat} {t h pc:Int} (hg:c.good) (hK:rgK c r) (h0:(r.pl=0∧r.ok=9∧r.ov=restI (r.t / 2) r.h)∨(r.pl≠0∧r.ok=0∧r.ov=0)) (hpc:pcI r=pc) (h3:r.chan=m.chan) (ht:r.t=t) (hh:r.h=h)
  (hn:w'.heap[nb]?=some (.cells #[.int .u64 t,.int .u64 h] 42 (0,0))) (hl:w'.heap[nl]?=some (.cells #[.int .i64 (c.base m.chan.toNat),.int .i64 (c.base m.chan.toNat+1)] 3 (0,0))) (hb:w.heap.size≤nb) (hbl:w.heap.size≤nl):PuR (Nx G w w') c (puL 0 pc (.slice (some ⟨nb,0,none⟩) 2 2) (.slice (some ⟨nl,0,none⟩) 2 2)) r:=fun _=>
 ⟨hg,hK,h0,_,_,_,_,_,_,by rw [hpc],fun w2 h9=>by
  have hu:U64 t:=ht▸hK.t;have hv:U64 h:=hh▸hK.h;rw [h3,ht,hh];have hk:m.chan.toNat<c.caps.length:=by obtain ⟨k,hk,e⟩:=hK.chan; rw [h3] at e; omega
  have hb8:=hg.base8 m.chan.toNat (Nat.le_of_lt hk);exact ⟨sl2_at ((h9.2.same nb hb (Array.getElem?_eq_some_iff.1 hn).1).trans hn) hu.wrap hv.wrap,sl2_at ((h9.2.same nl hbl (Array.getElem?_eq_some_iff.1 hl).1).trans hl) (by rw [IntKind.wrap_i64]; omega) (by rw [IntKind.wrap_i64]; omega)⟩⟩
theorem pu_sim:Sim rgNE rgRE ownM PuR where
 sub:=fun h hw ho=>by
  obtain ⟨h1,h2,h3,wa,wn,wc,la,ln,lc,h4,h5⟩:=h ho;exact ⟨h1,h2,h3,wa,wn,wc,la,ln,lc,h4,fun w hG=>h5 w (hw w hG)⟩
 form:=fun h ho=>by
  obtain ⟨-,-,-,wa,wn,wc,la,ln,lc,rfl,_⟩:=h ho;exact ⟨_,_,_,_,_,_,_,_,_,_,_,rfl⟩
 ends:=fun {G c f m} w hG h ho=>by
  have hw:=own_what ho;obtain ⟨hg,hK,hs,wa,wn,wc,la,ln,lc,rfl,hv⟩:=h ho;rcases hs with ⟨h1,h2,h3⟩ | ⟨h1,h2,h3⟩
  ·rw [show pcI m=4 from by unfold pcI; rw [if_pos h1],h1,h2,h3]
   exact End_end c _ _ _ _ _ w (hv w hG)
  ·rw [h2,h3,show (m.pl == (0:Int))=false from by simpa using h1]
   exact End_run _ (by unfold pcI; rw [if_neg h1]; have:=hK.pl.2.2.2 hw; omega) c _ _ _ _ _ w (hv w hG)
 next:=fun {G c f m} w hG h ho=>by
  have hw:=own_what ho;obtain ⟨hg,hK,hs,wa,wn,wc,la,ln,lc,rfl,hv⟩:=h ho;unfold rgNE pcI;by_cases h1:m.pl=0
  ·rw [if_pos h1,if_pos h1]
   exact pNext4 c _ _ _ _ _ w (hv w hG)
  ·rw [if_neg h1,if_neg h1,if_neg (by omega),if_neg (by omega),if_neg (by omega)]
   have hps:m.pl=1∨m.pl=2∨m.pl=3:=by have:=hK.pl; have:=hK.pl.2.2.2 hw; omega
   unfold countNE;rcases hps with hp | hp | hp
   ·rw [if_neg (by omega),hp]; exact pNext1 c _ _ _ _ _ w (hv w hG)
   ·rw [if_pos hp,hp]; exact pNext2 c _ _ _ _ _ w (hv w hG)
   ·rw [if_neg (by omega),hp]; exact pNext3 c _ _ _ _ _ w (hv w hG)
 resume:=fun {G c f m} w b zA zn zc hbv hG h ho hp=>by
  have hw:=own_what ho;obtain ⟨hg,hK,hs,wa,wn,wc,la,ln,lc,rfl,hv⟩:=h ho;have KR:=rgK_RE hK hbv;obtain ⟨hok,hov⟩:m.ok=0∧m.ov=0:=by
   rcases hs with ⟨h1,_⟩ | ⟨_,h2⟩
   ·exact absurd h1 hp
   ·exact h2
  unfold pcI;rw [if_neg hp];by_cases h1:m.pl=1
  ·have e:rgRE c m b={ m with t:=b.val,pl:=2 }:=by unfold rgRE; rw [if_neg hp,if_neg (by omega),if_neg (by omega),if_neg (by omega)]; unfold countRE; rw [if_pos h1]
   rw [e] at KR ⊢;rw [h1];refine (pRes1 c _ _ _ _ _ w (hv w hG) _ _ _ zA zn zc).mono ?_;rintro e' w' ⟨nb,nl,rfl,hn,hl,hnb,hnl,hb'⟩;exact ⟨_,rfl,pu_new (m:=m) hg KR (.inr ⟨by show (2:Int)≠0; decide,hok,hov⟩) rfl rfl rfl rfl hn.out hl.out hnb.out hnl.out,hb'.out⟩
  by_cases h2:m.pl=2
  ·have e:rgRE c m b={ m with h:=b.val,pl:=3 }:=by unfold rgRE; rw [if_neg hp,if_neg (by omega),if_neg (by omega),if_neg (by omega)]; unfold countRE; rw [if_neg h1,if_pos h2]
   rw [e] at KR ⊢;rw [h2];refine (pRes2 c _ _ _ _ _ w (hv w hG) _ _ _ zA zn zc).mono ?_;rintro e' w' ⟨nb,nl,rfl,hn,hl,hnb,hnl,hb'⟩;exact ⟨_,rfl,pu_new (m:=m) hg KR (.inr ⟨by show (3:Int)≠0; decide,hok,hov⟩) rfl rfl rfl rfl hn.out hl.out hnb.out hnl.out,hb'.out⟩
  have h3:m.pl=3:=by have:=hK.pl; have:=hK.pl.2.2.2 hw; omega
  rw [h3];by_cases he:b.val=m.t
  ·have e:rgRE c m b={ m with pl:=0,ok:=9,ov:=restI (m.t / 2) m.h }:=by unfold rgRE; rw [if_neg hp,if_neg (by omega),if_neg (by omega),if_neg (by omega)]; unfold countRE; rw [if_neg h1,if_neg h2,if_pos he]
   rw [e] at KR ⊢;rw [he];refine (pRes3e c _ _ _ _ _ w (hv w hG) _ _ zA zn zc).mono ?_;rintro e' w' ⟨nb,nl,rfl,hn,hl,hnb,hnl,hb'⟩;exact ⟨_,rfl,pu_new (m:=m) hg KR (.inl ⟨rfl,rfl,rfl⟩) rfl rfl rfl rfl hn.out hl.out hnb.out hnl.out,hb'.out⟩
  ·have e:rgRE c m b={ m with t:=b.val,pl:=2 }:=by unfold rgRE; rw [if_neg hp,if_neg (by omega),if_neg (by omega),if_neg (by omega)]; unfold countRE; rw [if_neg h1,if_neg h2,if_neg he]
   rw [e] at KR ⊢;refine (pRes3n c _ _ _ _ _ w (hv w hG) _ _ _ zA zn zc he).mono ?_;rintro e' w' ⟨nb,nl,rfl,hn,hl,hnb,hnl,hb'⟩;exact ⟨_,rfl,pu_new (m:=m) hg KR (.inr ⟨by show (2:Int)≠0; decide,hok,hov⟩) rfl rfl rfl rfl hn.out hl.out hnb.out hnl.out,hb'.out⟩
 stays:=fun c m b=>by unfold ownM; rw [rgRE_what]
 others:=fun G c f m h ho=>by rw [h] at ho; cases ho
theorem pu_starts {c:ConfM} (hg:c.good) (k:Nat) (th v:Int) (hv:U64 v) (hk:k<c.caps.length) (a a2:Option Addr) (cap cap2:Nat):Starts PuR c ⟨6,1,k,th,v % 4,v % 8,v,0,0,0,0⟩ (.slice a c.caps.length cap) (.slice a2 c.starts.length cap2):=fun w hcv=>by
 refine (lawStart_any a a2 cap cap2 c k hk hg ⟨6,1,k,th,v % 4,v % 8,v,0,0,0,0⟩ rfl w hcv).mono ?_;rintro e w' ⟨W,L,rfl,hp,hb⟩;obtain ⟨wb,wo,wc,lb,lo,lc,rfl,rfl,-⟩:=(hp.out w' (NewPart.self _ _)).open;have hK:rgK c ⟨6,1,k,th,v % 4,v % 8,v,0,0,0,0⟩:=rgK_new c 6 k th v (by omega) hk hv;exact ⟨_,rfl,fun _=>⟨hg,hK,.inr ⟨by show (1:Int)≠0; omega,rfl,rfl⟩,_,_,_,_,_,_,rfl,fun w2 h=>hp.out w2 h⟩,hb.out⟩
def WV.rrow (x:WV) (y:WM):Array Value:=#[.slice x.cA y.c.caps.length x.cc,.slice x.sA y.c.starts.length x.sc,.int .i64 y.c.threads,.slice x.mA y.m.words.length x.mc,.slice x.nA y.m.lists.length x.nc,.int .i64 y.m.tick,.slice x.fA y.f.length x.fc,.slice x.tA y.t.length x.tc,.slice x.pA y.p.length x.pc]
def WV.RS (x:WV) (E:List (Option Nat)) (B:Nat):List (Option Nat):=E ++ [some B,addrB x.tA,addrB x.pA,addrB x.fA]
structure RI (w0 wr:World) (E:List (Option Nat)) (B D:Nat) (x:WV) (y:WM):Prop where
 w0B:w0.heap.size≤B
 eW:∀j,some j∈E→w0.heap.size≤j∧j<wr.heap.size
 BD:B<D
 Dw:D≤wr.heap.size
 row:wr.heap[B]?=some (.cells (x.rrow y) 37 (0,0))
 conf:∀w2,OffS (x.RS E B) wr w2→SlI w2 .i64 (x.vc y.c) y.c.caps∧SlI w2 .u64 (x.vs y.c) y.c.starts
 good:y.c.good
 mem:StM (OffS (x.RS E B) wr) (.agg (x.mem y)) y.m
 fits:y.m.fits
 ot:OwnS wr D 58 8 (x.vt y) (y.t.map itemCells)
 op:OwnS wr D 33 3 (x.vp y) (y.p.map Prod.fst)
 of:OwnS wr D 53 7 (x.vf y) y.f
 past:∀z∈y.p,StM (OffS (x.RS E B) wr) (.agg z.1.toArray) z.2
 below:Below w0.heap.size w0 wr
section
variable {w0 wr w2:World} {E:List (Option Nat)} {B D:Nat} {x:WV} {y:WM}
theorem RI.lt (h:RI w0 wr E B D x y):B<wr.heap.size:=(Array.getElem?_eq_some_iff.1 h.row).1
theorem RI.Slt (h:RI w0 wr E B D x y):∀j,some j∈x.RS E B→j<wr.heap.size:=by
 intro j hj;simp only [WV.RS,List.mem_append,List.mem_cons,List.not_mem_nil,or_false,Option.some.injEq] at hj;have k:∀{a:Option Addr} {n c:Nat} {e:TypeId} {s:Nat} {r:List (List Value)},OwnS wr D e s (.slice a n c) r→some j=addrB a→j<wr.heap.size:=fun ho e=>(ho.lt j (by rw [own_addr]; exact e.symm)).2;rcases hj with e | rfl | e | e | e
 ·exact (h.eW j e).2
 ·exact h.lt
 ·exact k h.ot e
 ·exact k h.op e
 ·exact k h.of e
theorem RI.next (h:RI w0 wr E B D x y) (hb:Below wr.heap.size wr w2):RI w0 w2 E B D x y:=
 ⟨h.w0B,fun j hj=>⟨(h.eW j hj).1,Nat.lt_of_lt_of_le (h.eW j hj).2 hb.size⟩,h.BD,Nat.le_trans h.Dw hb.size,(hb.block B h.lt).trans h.row,fun w3 h3=>h.conf w3 ((OffS.below hb).trans1 h3),h.good,h.mem.sub fun w3 h3=>(OffS.below hb).trans1 h3,h.fits,h.ot.below hb,h.op.below hb,h.of.below hb,fun z hz=>(h.past z hz).sub fun w3 h3=>(OffS.below hb).trans1 h3,below_then h.below hb⟩
theorem RI.drawn {g:Nat} (h:RI w0 wr E B D x y) (hgE:some g∈E) (hgB:g<B) (hg:wr.grownBy w2 (some g)):RI w0 w2 E B D x y:=by
 have h3:=h.BD;have o:OffS (x.RS E B) wr w2:=OffS.grown hg (.inr (by simp [WV.RS,hgE]));exact ⟨h.w0B,fun j hj=>⟨(h.eW j hj).1,Nat.lt_of_lt_of_le (h.eW j hj).2 hg.size⟩,h.BD,Nat.le_trans h.Dw hg.size,(hg.block B h.lt (by simp; omega)).trans h.row,fun w3 h4=>h.conf w3 (o.trans1 h4),h.good,h.mem.sub fun w3 h4=>o.trans1 h4,h.fits,h.ot.kept hg (h.ot.ne (by omega)),h.op.kept hg (h.op.ne (by omega)),h.of.kept hg (h.of.ne (by omega)),fun z hz=>(h.past z hz).sub fun w3 h4=>o.trans1 h4,h.below.grown hg h.below.size (fun k hk=>by cases hk; exact (h.eW g hgE).1)⟩
theorem RI.confV (h:RI w0 wr E B D x y):ConfV wr (.agg #[x.vc y.c,x.vs y.c,.int .i64 y.c.threads]) y.c:=⟨_,_,rfl,h.conf wr (OffS.self _ _)⟩
end
theorem RI.exempt {w0 wr w2:World} {E:List (Option Nat)} {B D:Nat} {x:WV} {y:WM} (h:RI w0 wr E B D x y) (hb:Below wr.heap.size wr w2) (A:Nat) (hA:wr.heap.size≤A) (hA2:A<w2.heap.size):RI w0 w2 (some A :: E) B D x y:=by
 have h1:=h.next hb;have hin:∀w3,OffS (x.RS (some A :: E) B) w2 w3→OffS (x.RS E B) wr w3:=fun w3 h3=>(OffS.below (S:=x.RS E B) hb).trans h3 fun j hj hm=>by
  simp only [WV.RS,List.cons_append,List.mem_cons,Option.some.injEq] at hm;rcases hm with rfl | hm
  ·omega
  ·exact hm
 exact ⟨h1.w0B,fun j hj=>by
  simp only [List.mem_cons,Option.some.injEq] at hj;rcases hj with rfl | hj
  ·exact ⟨by have:=h.below.size; omega,hA2⟩
  ·exact h1.eW j hj,h1.BD,h1.Dw,h1.row,fun w3 h3=>h.conf w3 (hin w3 h3),h1.good,h.mem.sub hin,h1.fits,h1.ot,h1.op,h1.of,fun z hz=>(h.past z hz).sub hin,h1.below⟩
theorem RI.settle {AT:TypeId} {w0 wr w2:World} {E:List (Option Nat)} {B D A:Nat} {x:WV} {y:WM} {cs:Array Value} (h:RI w0 wr (some A :: E) B D x y) (hA:wr.heap[A]?=some (.cells cs AT (0,0))) (hAB:B<A) (hg:wr.grownBy w2 (some A)) (h2:AT≠58) (h3:AT≠33) (h4:AT≠53) :
  RI w0 w2 E B D x y∧∀w3,OffS (x.RS E B) w2 w3→OffS (x.RS (some A :: E) B) wr w3:=by
 have hin:∀w3,OffS (x.RS E B) w2 w3→OffS (x.RS (some A :: E) B) wr w3:=fun w3 h5=>by
  have o1:OffS (x.RS (some A :: E) B) wr w2:=OffS.grown hg (.inr (by simp [WV.RS]));exact o1.trans1 (h5.mono fun j hj=>by simp only [WV.RS,List.cons_append,List.mem_cons] at hj ⊢; exact .inr hj)
 have k:∀{e:TypeId} {s:Nat} {v:Value} {r:List (List Value)},OwnS wr D e s v r→AT≠e→OwnS w2 D e s v r:=fun ho he=>ho.kept hg (by
  rcases ho.2.2 with ⟨rfl,_⟩ | ⟨b,cap,cur,rfl,_,hb,_⟩
  ·exact .inl rfl
  ·refine .inr ?_
   simp only [Value.ownBlock,ne_eq,Option.some.injEq];rintro rfl;rw [hA] at hb;simp at hb;exact he hb.2)
 exact ⟨⟨h.w0B,fun j hj=>⟨(h.eW j (List.mem_cons_of_mem _ hj)).1,Nat.lt_of_lt_of_le (h.eW j (List.mem_cons_of_mem _ hj)).2 hg.size⟩,h.BD,Nat.le_trans h.Dw hg.size,(hg.block B h.lt (by simp; omega)).trans h.row,fun w3 h5=>h.conf w3 (hin w3 h5),h.good,h.mem.sub hin,h.fits,k h.ot h2,k h.op h3,k h.of h4,fun z hz=>(h.past z hz).sub hin,h.below.grown hg h.below.size (fun j hj=>by cases hj; exact (h.eW A (List.mem_cons_self ..)).1)⟩,hin⟩
section
variable {w0 wr w2:World} {E:List (Option Nat)} {B D:Nat} {x:WV} {y:WM}
theorem RI.addT {a':Option Addr} {c':Nat} {z:ItemM} (h:RI w0 wr E B D x y) (ho:OwnS w2 D 58 8 (.slice a' (y.t.length+1) c') (y.t.map itemCells ++ [itemCells z])) (hg:wr.grownBy w2 (x.vt y).ownBlock) (hbk:addrB a'=addrB x.tA∨addrB a'=some wr.heap.size) :
  RI w0 (w2.setCell ⟨B,7,none⟩ (.slice a' (y.t.length+1) c')) E B D { x with tA:=a',tc:=c' } { y with t:=y.t ++ [z] }∧∀w3,OffS (WV.RS { x with tA:=a',tc:=c' } E B) (w2.setCell ⟨B,7,none⟩ (.slice a' (y.t.length+1) c')) w3→OffS (x.RS E B) wr w3:=by
 have h3:=h.BD;have hge:∀j,(x.vt y).ownBlock=some j→D≤j:=fun j hj=>(h.ot.lt j hj).1;have hgB:w2.heap[B]?=wr.heap[B]?:=hg.block B h.lt (fun e=>by have:=hge B e.symm; omega);have hin:∀w3,OffS (WV.RS { x with tA:=a',tc:=c' } E B) (w2.setCell ⟨B,7,none⟩ (.slice a' (y.t.length+1) c')) w3→OffS (x.RS E B) wr w3:=fun w3 h4=>by
  have o1:OffS (x.RS E B) wr w2:=OffS.grown hg (.inr (by rw [WV.vt,own_addr]; simp [WV.RS]));have o2:OffS (x.RS E B) w2 (w2.setCell ⟨B,7,none⟩ (.slice a' (y.t.length+1) c')):=OffS.grown (grownBy_setCell w2 ⟨B,7,none⟩ _) (.inr (by simp [WV.RS]));refine (o1.trans1 o2).trans h4 fun j hj hm=>?_;simp only [WV.RS,List.mem_append,List.mem_cons,List.not_mem_nil,or_false] at hm ⊢;rcases hm with e | e | e | e | e
  ·exact .inl e
  ·exact .inr (.inl e)
  all_goals first
   | (rcases hbk with hb | hb
      ·rw [hb] at e; simp [e]; done
      ·rw [hb] at e; simp at e; omega)
   | (simp [e]; done)
 refine ⟨⟨h.w0B,fun j hj=>⟨(h.eW j hj).1,Nat.lt_of_lt_of_le (h.eW j hj).2 (by have:=hg.size; simp; omega)⟩,h3,by have:=hg.size; have:=h.Dw; simp; omega,?_,fun w3 h4=>h.conf w3 (hin w3 h4),h.good,h.mem.sub hin,h.fits,?_,?_,?_,fun z hz=>(h.past z hz).sub hin,(h.below.grown hg h.below.size (fun j hj=>by have:=hge j hj; have:=h.w0B; omega)).setCell (p:=⟨B,7,none⟩) (by have:=h.w0B; show w0.heap.size≤B; omega) _⟩,hin⟩
 ·have:=heap_setCell_same w2 B 7 _ _ (.slice a' (y.t.length+1) c') (hgB.trans h.row)
  simpa [WV.rrow] using this
 ·have ho':OwnS w2 D 58 8 (WV.vt { x with tA:=a',tc:=c' } { y with t:=y.t ++ [z] }) (y.t.map itemCells ++ [itemCells z]):=by
   have e:(WV.vt { x with tA:=a',tc:=c' } { y with t:=y.t ++ [z] })=.slice a' (y.t.length+1) c':=by simp [WV.vt]
   rw [e]; exact ho
  have h5:=ho'.keptB (o:=7) (u:=.slice a' (y.t.length+1) c') h3;simpa [List.map_append,WV.vc,WV.vs] using h5
 ·exact (h.op.kept hg (h.op.apart h.ot (by decide))).keptB h3
 ·exact (h.of.kept hg (h.of.apart h.ot (by decide))).keptB h3
theorem RI.addP {a':Option Addr} {c':Nat} {z:List Value × MemM} (h:RI w0 wr E B D x y) (ho:OwnS w2 D 33 3 (.slice a' (y.p.length+1) c') (y.p.map Prod.fst ++ [z.1])) (hg:wr.grownBy w2 (x.vp y).ownBlock) (hbk:addrB a'=addrB x.pA∨addrB a'=some wr.heap.size) (hz:StM (OffS (x.RS E B) wr) (.agg z.1.toArray) z.2) :
  RI w0 (w2.setCell ⟨B,8,none⟩ (.slice a' (y.p.length+1) c')) E B D { x with pA:=a',pc:=c' } { y with p:=y.p ++ [z] }∧∀w3,OffS (WV.RS { x with pA:=a',pc:=c' } E B) (w2.setCell ⟨B,8,none⟩ (.slice a' (y.p.length+1) c')) w3→OffS (x.RS E B) wr w3:=by
 have h3:=h.BD;have hge:∀j,(x.vp y).ownBlock=some j→D≤j:=fun j hj=>(h.op.lt j hj).1;have hgB:w2.heap[B]?=wr.heap[B]?:=hg.block B h.lt (fun e=>by have:=hge B e.symm; omega);have hin:∀w3,OffS (WV.RS { x with pA:=a',pc:=c' } E B) (w2.setCell ⟨B,8,none⟩ (.slice a' (y.p.length+1) c')) w3→OffS (x.RS E B) wr w3:=fun w3 h4=>by
  have o1:OffS (x.RS E B) wr w2:=OffS.grown hg (.inr (by rw [WV.vp,own_addr]; simp [WV.RS]));have o2:OffS (x.RS E B) w2 (w2.setCell ⟨B,8,none⟩ (.slice a' (y.p.length+1) c')):=OffS.grown (grownBy_setCell w2 ⟨B,8,none⟩ _) (.inr (by simp [WV.RS]));refine (o1.trans1 o2).trans h4 fun j hj hm=>?_;simp only [WV.RS,List.mem_append,List.mem_cons,List.not_mem_nil,or_false] at hm ⊢;rcases hm with e | e | e | e | e
  ·exact .inl e
  ·exact .inr (.inl e)
  all_goals first
   | (rcases hbk with hb | hb
      ·rw [hb] at e; simp [e]; done
      ·rw [hb] at e; simp at e; omega)
   | (simp [e]; done)
 refine ⟨⟨h.w0B,fun j hj=>⟨(h.eW j hj).1,Nat.lt_of_lt_of_le (h.eW j hj).2 (by have:=hg.size; simp; omega)⟩,h3,by have:=hg.size; have:=h.Dw; simp; omega,?_,fun w3 h4=>h.conf w3 (hin w3 h4),h.good,h.mem.sub hin,h.fits,?_,?_,?_,fun q hq=>by
  rw [List.mem_append,List.mem_singleton] at hq;rcases hq with hq | rfl
  ·exact (h.past q hq).sub hin
  ·exact hz.sub hin,(h.below.grown hg h.below.size (fun j hj=>by have:=hge j hj; have:=h.w0B; omega)).setCell (p:=⟨B,8,none⟩) (by have:=h.w0B; show w0.heap.size≤B; omega) _⟩,hin⟩
 ·have:=heap_setCell_same w2 B 8 _ _ (.slice a' (y.p.length+1) c') (hgB.trans h.row)
  simpa [WV.rrow] using this
 ·exact (h.ot.kept hg (h.ot.apart h.op (by decide))).keptB h3
 ·have ho':OwnS w2 D 33 3 (WV.vp { x with pA:=a',pc:=c' } { y with p:=y.p ++ [z] }) (y.p.map Prod.fst ++ [z.1]):=by
   have e:(WV.vp { x with pA:=a',pc:=c' } { y with p:=y.p ++ [z] })=.slice a' (y.p.length+1) c':=by simp [WV.vp]
   rw [e]; exact ho
  have h5:=ho'.keptB (o:=8) (u:=.slice a' (y.p.length+1) c') h3;simpa [List.map_append,WV.vc,WV.vs] using h5
 ·exact (h.of.kept hg (h.of.apart h.op (by decide))).keptB h3
theorem RI.addF {a':Option Addr} {c':Nat} {z:List Value} (h:RI w0 wr E B D x y) (ho:OwnS w2 D 53 7 (.slice a' (y.f.length+1) c') (y.f ++ [z])) (hg:wr.grownBy w2 (x.vf y).ownBlock) (hbk:addrB a'=addrB x.fA∨addrB a'=some wr.heap.size) :
  RI w0 (w2.setCell ⟨B,6,none⟩ (.slice a' (y.f.length+1) c')) E B D { x with fA:=a',fc:=c' } { y with f:=y.f ++ [z] }∧∀w3,OffS (WV.RS { x with fA:=a',fc:=c' } E B) (w2.setCell ⟨B,6,none⟩ (.slice a' (y.f.length+1) c')) w3→OffS (x.RS E B) wr w3:=by
 have h3:=h.BD;have hge:∀j,(x.vf y).ownBlock=some j→D≤j:=fun j hj=>(h.of.lt j hj).1;have hgB:w2.heap[B]?=wr.heap[B]?:=hg.block B h.lt (fun e=>by have:=hge B e.symm; omega);have hin:∀w3,OffS (WV.RS { x with fA:=a',fc:=c' } E B) (w2.setCell ⟨B,6,none⟩ (.slice a' (y.f.length+1) c')) w3→OffS (x.RS E B) wr w3:=fun w3 h4=>by
  have o1:OffS (x.RS E B) wr w2:=OffS.grown hg (.inr (by rw [WV.vf,own_addr]; simp [WV.RS]));have o2:OffS (x.RS E B) w2 (w2.setCell ⟨B,6,none⟩ (.slice a' (y.f.length+1) c')):=OffS.grown (grownBy_setCell w2 ⟨B,6,none⟩ _) (.inr (by simp [WV.RS]));refine (o1.trans1 o2).trans h4 fun j hj hm=>?_;simp only [WV.RS,List.mem_append,List.mem_cons,List.not_mem_nil,or_false] at hm ⊢;rcases hm with e | e | e | e | e
  ·exact .inl e
  ·exact .inr (.inl e)
  all_goals first
   | (rcases hbk with hb | hb
      ·rw [hb] at e; simp [e]; done
      ·rw [hb] at e; simp at e; omega)
   | (simp [e]; done)
 refine ⟨⟨h.w0B,fun j hj=>⟨(h.eW j hj).1,Nat.lt_of_lt_of_le (h.eW j hj).2 (by have:=hg.size; simp; omega)⟩,h3,by have:=hg.size; have:=h.Dw; simp; omega,?_,fun w3 h4=>h.conf w3 (hin w3 h4),h.good,h.mem.sub hin,h.fits,?_,?_,?_,fun z hz=>(h.past z hz).sub hin,(h.below.grown hg h.below.size (fun j hj=>by have:=hge j hj; have:=h.w0B; omega)).setCell (p:=⟨B,6,none⟩) (by have:=h.w0B; show w0.heap.size≤B; omega) _⟩,hin⟩
 ·have:=heap_setCell_same w2 B 6 _ _ (.slice a' (y.f.length+1) c') (hgB.trans h.row)
  simpa [WV.rrow] using this
 ·exact (h.ot.kept hg (h.ot.apart h.of (by decide))).keptB h3
 ·exact (h.op.kept hg (h.op.apart h.of (by decide))).keptB h3
 ·have ho':OwnS w2 D 53 7 (WV.vf { x with fA:=a',fc:=c' } { y with f:=y.f ++ [z] }) (y.f ++ [z]):=by
   have e:(WV.vf { x with fA:=a',fc:=c' } { y with f:=y.f ++ [z] })=.slice a' (y.f.length+1) c':=by simp [WV.vf]
   rw [e]; exact ho
  exact ho'.keptB h3
theorem RI.setF {b n cap i:Nat} {z:List Value} (h:RI w0 wr E B D x y) (hv:x.vf y=.slice (some ⟨b,0,none⟩) n cap) (hi:i<y.f.length) (hz:(z).length=7) (hz1:∀u∈(z),u.oneCell'=true) :
  RI w0 (wr.setCells b (i * 7) (z)) E B D x { y with f:=y.f.set i z }∧∀w3,OffS (x.RS E B) (wr.setCells b (i * 7) (z)) w3→OffS (x.RS E B) wr w3:=by
 have h3:=h.BD;have hbo:(x.vf y).ownBlock=some b:=by rw [hv]; rfl
 have hb:=h.of.lt b hbo;have hg:wr.grownBy (wr.setCells b (i * 7) (z)) (x.vf y).ownBlock:=by rw [hbo]; exact setCells_grown b _ _ wr
 have hin:∀w3,OffS (x.RS E B) (wr.setCells b (i * 7) (z)) w3→OffS (x.RS E B) wr w3:=fun w3 h4=>
  (OffS.grown hg (.inr (by rw [WV.vf,own_addr]; simp [WV.RS]))).trans1 h4
 have ho:=h.of;rw [hv] at ho;have hs:=ho.setRow (r:=z) i (by simpa using hi) hz hz1;refine ⟨⟨h.w0B,fun j hj=>⟨(h.eW j hj).1,Nat.lt_of_lt_of_le (h.eW j hj).2 hg.size⟩,h3,by rw [setCells_size]; exact h.Dw,?_,fun w3 h4=>h.conf w3 (hin w3 h4),h.good,h.mem.sub hin,h.fits,?_,?_,?_,fun z hz=>(h.past z hz).sub hin,h.below.grown hg h.below.size (fun j hj=>by rw [hbo] at hj; cases hj; have:=h.w0B; omega)⟩,hin⟩
 ·rw [setCells_other _ _ _ _ _ (by omega),h.row]
  simp [WV.rrow]
 ·exact h.ot.kept hg (h.ot.apart h.of (by decide))
 ·exact h.op.kept hg (h.op.apart h.of (by decide))
 ·have e:WV.vf x { y with f:=y.f.set i z }=.slice (some ⟨b,0,none⟩) n cap:=by rw [← hv]; simp [WV.vf]
  rw [e];exact hs
theorem RI.setM {ma na:Option Addr} {mc nc:Nat} {m2:MemM} (h:RI w0 wr E B D x y) (hm:StM (OffS (x.RS E B) wr) (.agg #[.slice ma m2.words.length mc,.slice na m2.lists.length nc,.int .i64 m2.tick]) m2) (hf:m2.fits) :
  RI w0 (((wr.setCell ⟨B,3,none⟩ (.slice ma m2.words.length mc)).setCell ⟨B,4,none⟩ (.slice na m2.lists.length nc)).setCell ⟨B,5,none⟩ (.int .i64 m2.tick)) E B D { x with mA:=ma,mc:=mc,nA:=na,nc:=nc } { y with m:=m2 }∧∀w3,OffS (WV.RS { x with mA:=ma,mc:=mc,nA:=na,nc:=nc } E B) (((wr.setCell ⟨B,3,none⟩ (.slice ma m2.words.length mc)).setCell ⟨B,4,none⟩ (.slice na m2.lists.length nc)).setCell ⟨B,5,none⟩ (.int .i64 m2.tick)) w3→OffS (x.RS E B) wr w3:=by
 have h3:=h.BD;have hg:wr.grownBy (((wr.setCell ⟨B,3,none⟩ (.slice ma m2.words.length mc)).setCell ⟨B,4,none⟩ (.slice na m2.lists.length nc)).setCell ⟨B,5,none⟩ (.int .i64 m2.tick)) (some B):=grownBy_trans (grownBy_trans (grownBy_setCell wr ⟨B,3,none⟩ _) (grownBy_setCell _ ⟨B,4,none⟩ _)) (grownBy_setCell _ ⟨B,5,none⟩ _);have hin:∀w3,OffS (WV.RS { x with mA:=ma,mc:=mc,nA:=na,nc:=nc } E B) (((wr.setCell ⟨B,3,none⟩ (.slice ma m2.words.length mc)).setCell ⟨B,4,none⟩ (.slice na m2.lists.length nc)).setCell ⟨B,5,none⟩ (.int .i64 m2.tick)) w3→OffS (x.RS E B) wr w3:=fun w3 h4=>
  (OffS.grown (S:=x.RS E B) hg (.inr (by simp [WV.RS]))).trans1 h4
 refine ⟨⟨h.w0B,fun j hj=>⟨(h.eW j hj).1,Nat.lt_of_lt_of_le (h.eW j hj).2 hg.size⟩,h3,by have:=h.Dw; simp; omega,?_,fun w3 h4=>h.conf w3 (hin w3 h4),h.good,hm.sub hin,hf,h.ot.kept hg (h.ot.ne h3),h.op.kept hg (h.op.ne h3),h.of.kept hg (h.of.ne h3),fun z hz=>(h.past z hz).sub hin,h.below.grown hg h.below.size (fun j hj=>by cases hj; have:=h.w0B; omega)⟩,hin⟩;have r1:=heap_setCell_same wr B 3 _ _ (.slice ma m2.words.length mc) h.row;have r2:=heap_setCell_same _ B 4 _ _ (.slice na m2.lists.length nc) r1;have r3:=heap_setCell_same _ B 5 _ _ (.int .i64 m2.tick) r2;simpa [WV.rrow] using r3
end
end Go.Proofs.YtjnlkemdaffgbaaGreat
