
import Derived.Test.YtjnlkemdaffgbaaGreatB03
import Derived.Test.YtjnlkemdaffgbaaGreatB06
import Derived.Test.YtjnlkemdaffgbaaGreatB07
set_option linter.unusedVariables false
set_option linter.unusedSimpArgs false
namespace Go.Proofs.YtjnlkemdaffgbaaGreat
open Go.ChangeShapes Go.WideShapes Go.ChangeAt Go.RowKit
set_option maxRecDepth 100000
def putW (m:MemM) (a x:Int):MemM:=⟨m.words.set a.toNat x,m.lists,m.tick⟩
theorem apply_load {m:MemM} {a:Int} (h0:0≤a) (h1:a<m.words.length):applyE m ⟨1,a,0,0,0⟩=(m,⟨m.words.getD a.toNat 0,false,false,[]⟩,true):=by
 have hb:hasB m.words.length a=true:=by unfold hasB; simp [h0,h1]
 unfold applyE grantB wordE;simp [hb]
theorem apply_read {m:MemM} {a:Int} (h0:0≤a) (h1:a<m.words.length):applyE m ⟨5,a,0,0,0⟩=(m,⟨m.words.getD a.toNat 0,false,false,[]⟩,true):=by
 have hb:hasB m.words.length a=true:=by unfold hasB; simp [h0,h1]
 unfold applyE grantB wordE;simp [hb]
theorem apply_store {m:MemM} {a x:Int} (h0:0≤a) (h1:a<m.words.length):applyE m ⟨2,a,0,x,0⟩=(putW m a x,ansZ,true):=by
 have hb:hasB m.words.length a=true:=by unfold hasB; simp [h0,h1]
 unfold applyE grantB wordE putW;simp [hb]
theorem apply_write {m:MemM} {a x:Int} (h0:0≤a) (h1:a<m.words.length):applyE m ⟨6,a,0,x,0⟩=(putW m a x,ansZ,true):=by
 have hb:hasB m.words.length a=true:=by unfold hasB; simp [h0,h1]
 unfold applyE grantB wordE putW;simp [hb]
theorem apply_cas {m:MemM} {a o x:Int} (h0:0≤a) (h1:a<m.words.length) (he:m.words.getD a.toNat 0=o):applyE m ⟨3,a,o,x,0⟩=(putW m a x,⟨o,true,false,[]⟩,true):=by
 have hb:hasB m.words.length a=true:=by unfold hasB; simp [h0,h1]
 unfold applyE grantB wordE putW;rw [he];simp [hb,he]
def step1 (c:ConfM) (s:MemM × MachM):MemM × MachM:=
 if s.2.pl=0 then s else if (applyE s.1 (rgNE c s.2)).2.2=true then ((applyE s.1 (rgNE c s.2)).1,rgRE c s.2 (applyE s.1 (rgNE c s.2)).2.1) else s
theorem putW_at (m:MemM) (a x:Int) (b:Int) (h0:0≤a) (hb:0≤b) (h1:a<m.words.length):(putW m a x).words.getD b.toNat 0=if b=a then x else m.words.getD b.toNat 0:=by
 unfold putW;show (m.words.set a.toNat x).getD b.toNat 0=_;rw [getD_setL];by_cases h:b=a
 ·subst h; rw [if_pos ⟨rfl,by omega⟩,if_pos rfl]
 ·rw [if_neg (by omega),if_neg h]
theorem putW_len (m:MemM) (a x:Int):(putW m a x).words.length=m.words.length:=by unfold putW; simp
def Two (z:Int):Prop:=z=1∨z=2∨z=4∨z=8∨z=16
theorem slot_next {z:Int} (hz:Two z) (s j:Int):slotI (nextI s j) z=(s+j) % z:=by
 unfold slotI nextI;rcases hz with rfl | rfl | rfl | rfl | rfl <;> rw [if_neg (by omega)] <;> omega
theorem slot_apart {z:Int} (hz:Two z) (s i j:Int) (h:i≠j) (h1:i - j<z) (h2:j - i<z):(s+i) % z≠(s+j) % z:=by
 rcases hz with rfl | rfl | rfl | rfl | rfl <;> omega
theorem slot_range {z:Int} (hz:Two z) (x:Int):0≤x % z∧x % z<z:=by
 rcases hz with rfl | rfl | rfl | rfl | rfl <;> omega
structure RingSt (c:ConfM) (m:MemM) (s:Int) (p n:Nat) (cl:Bool) (val:Nat→Int):Prop where
 two:Two (c.size 0)
 srng:0≤s∧s<9223372036854775808
 len:5+c.size 0 * 2≤(m.words.length:Int)
 pn:p≤n∧(n:Int)≤p+c.caps.getD 0 0
 cap:c.caps.getD 0 0≤c.size 0∧0≤c.caps.getD 0 0
 tail:m.words.getD 0 0=packI (nextI s n) cl
 head:m.words.getD 1 0=nextI s p
 slot:∀j:Nat,p≤j→(j:Int)<p+c.size 0→m.words.getD (5+(s+j) % c.size 0 * 2).toNat 0=if j<n then nextI s (j+1) else nextI s j
 vals:∀j:Nat,p≤j→j<n→m.words.getD (5+(s+j) % c.size 0 * 2+1).toNat 0=val j
theorem packI_half (x:Int) (h:0≤x∧x<9223372036854775808) (b:Bool):packI x b / 2=x:=by
 unfold packI;cases b <;> simp <;> omega
theorem packI_closed (x:Int) (b:Bool):closedB (packI x b)=b:=by
 unfold packI closedB;cases b
 ·simp <;> omega
 ·simp <;> omega
theorem nextI_rng (x y:Int):0≤nextI x y∧nextI x y<9223372036854775808:=by unfold nextI; omega
theorem nextI_next (s j:Int):nextI (nextI s j) 1=nextI s (j+1):=by unfold nextI; omega
theorem slotW0 {c:ConfM} (hz:Two (c.size 0)) (s j:Int):c.slotW 0 (nextI s j)=5+(s+j) % c.size 0 * 2:=by
 show c.base 0+5+slotI (nextI s j) (c.size 0) * 2=_;rw [slot_next hz];show (0:Int)+5+_=_;omega
def pushM (c:ConfM) (m:MemM) (v T:Int):Nat→MemM
 | 0 | 1 | 2 | 3=>m
 | 4=>putW m 0 (packI (nextI (T / 2) 1) false)
 | 5=>putW (putW m 0 (packI (nextI (T / 2) 1) false)) (c.slotW 0 (T / 2)+1) v
 | _+6=>putW (putW (putW m 0 (packI (nextI (T / 2) 1) false)) (c.slotW 0 (T / 2)+1) v) (c.slotW 0 (T / 2)) (nextI (T / 2) 1)
theorem step1_of {c:ConfM} {m m2:MemM} {k:MachM} {a:AccM} {b:AnsM} (h:¬k.pl=0) (ha:rgNE c k=a) (hb:applyE m a=(m2,b,true)):step1 c (m,k)=(m2,rgRE c k b):=by
 unfold step1;simp only [ha,hb];rw [if_neg h];exact if_pos trivial
theorem RingSt.pushed {c:ConfM} {m:MemM} {s:Int} {p n:Nat} {val:Nat→Int} (h:RingSt c m s p n false val) (hn:(n:Int)<p+c.caps.getD 0 0) (v:Int) :
  RingSt c (pushM c m v (packI (nextI s n) false) 6) s p (n+1) false (fun j=>if j=n then v else val j):=by
 have hT2:=packI_half (nextI s n) (nextI_rng s n) false;have hA:=slotW0 h.two s n;have hz:=slot_range h.two (s+n);have hlen:=h.len;have hcap:=h.cap;have hpn:=h.pn;obtain ⟨T,hT⟩:∃T,packI (nextI s n) false=T:=⟨_,rfl⟩;rw [hT] at hT2 ⊢;rw [← hT2] at hA;obtain ⟨A,hAe⟩:∃A,c.slotW 0 (T / 2)=A:=⟨_,rfl⟩;rw [hAe] at hA;have hM:pushM c m v T 6=putW (putW (putW m 0 (packI (nextI (T / 2) 1) false)) (A+1) v) A (nextI (T / 2) 1):=by rw [← hAe]; rfl
 rw [hM];have hnx:nextI (T / 2) 1=nextI s ((n:Int)+1):=by rw [hT2,nextI_next]
 rw [hnx];have E:∀b:Int,0≤b→(putW (putW (putW m 0 (packI (nextI s ((n:Int)+1)) false)) (A+1) v) A (nextI s ((n:Int)+1))).words.getD b.toNat 0=if b=A then nextI s ((n:Int)+1) else if b=A+1 then v else if b=0 then packI (nextI s ((n:Int)+1)) false else m.words.getD b.toNat 0:=fun b hb=>by
  rw [putW_at _ _ _ _ (by omega) hb (by rw [putW_len,putW_len]; omega),putW_at _ _ _ _ (by omega) hb (by rw [putW_len]; omega),putW_at _ _ _ _ (by omega) hb (by omega)]
 refine ⟨h.two,h.srng,by rw [putW_len,putW_len,putW_len]; exact hlen,⟨by omega,by omega⟩,hcap,?_,?_,fun j h1 h2=>?_,fun j h1 h2=>?_⟩
 ·refine (E 0 (by omega)).trans ?_
  rw [if_neg (by omega),if_neg (by omega),if_pos rfl];rfl
 ·refine (E 1 (by omega)).trans ?_
  rw [if_neg (by omega),if_neg (by omega),if_neg (by omega)];exact h.head
 ·have hzj:=slot_range h.two (s+j)
  refine (E _ (by omega)).trans ?_;by_cases e:j=n
  ·subst e
   rw [if_pos hA.symm,if_pos (by omega)]
  ·have hap:=slot_apart h.two s j n (by omega) (by omega) (by omega)
   rw [if_neg (by omega),if_neg (by omega),if_neg (by omega)];rw [h.slot j h1 h2];by_cases e2:j<n
   ·rw [if_pos e2,if_pos (by omega)]
   ·rw [if_neg e2,if_neg (by omega)]
 ·have hzj:=slot_range h.two (s+j)
  refine (E _ (by omega)).trans ?_;by_cases e:j=n
  ·subst e
   rw [if_neg (by omega),if_pos (by omega),if_pos rfl]
  ·have hap:=slot_apart h.two s j n (by omega) (by omega) (by omega)
   rw [if_neg (by omega),if_neg (by omega),if_neg (by omega),if_neg e];exact h.vals j h1 (by omega)
def shutM (m:MemM) (T:Int):Nat→MemM
 | 0 | 1=>m
 | _+2=>putW m 0 (packI (T / 2) true)
theorem RingSt.shut {c:ConfM} {m:MemM} {s:Int} {p n:Nat} {val:Nat→Int} (h:RingSt c m s p n false val):RingSt c (shutM m (packI (nextI s n) false) 2) s p n true val:=by
 have hT2:=packI_half (nextI s n) (nextI_rng s n) false;have hlen:=h.len;have hl5:(5:Int)<m.words.length:=by rcases h.two with e | e | e | e | e <;> omega
 have hM:shutM m (packI (nextI s n) false) 2=putW m 0 (packI (nextI s n) true):=by
  show putW m 0 (packI (packI (nextI s n) false / 2) true)=_;rw [hT2]
 rw [hM];have E:∀b:Int,0≤b→(putW m 0 (packI (nextI s n) true)).words.getD b.toNat 0=if b=0 then packI (nextI s n) true else m.words.getD b.toNat 0:=fun b hb=>putW_at _ _ _ _ (by omega) hb (by omega)
 refine ⟨h.two,h.srng,by rw [putW_len]; exact hlen,h.pn,h.cap,?_,?_,fun j h1 h2=>?_,fun j h1 h2=>?_⟩
 ·exact (E 0 (by omega)).trans (if_pos rfl)
 ·exact ((E 1 (by omega)).trans (if_neg (by omega))).trans h.head
 ·have hzj:=slot_range h.two (s+j)
  exact ((E _ (by omega)).trans (if_neg (by omega))).trans (h.slot j h1 h2)
 ·have hzj:=slot_range h.two (s+j)
  exact ((E _ (by omega)).trans (if_neg (by omega))).trans (h.vals j h1 h2)
theorem slotsE_at {c:ConfM} (hz:Two (c.size 0)) (ws:List Int) (hl:5+c.size 0 * 2≤(ws.length:Int)) (j:Nat) (hj:(j:Int)≤c.size 0) :
  (∀i:Nat,i<j→(slotsE c 0 ws j).getD (5+(c.st 0+i) % c.size 0 * 2).toNat 0=nextI (c.st 0) i)∧(∀b:Int,0≤b→b<5→(slotsE c 0 ws j).getD b.toNat 0=ws.getD b.toNat 0):=by
 induction j with
 | zero=>exact ⟨fun i hi=>absurd hi (Nat.not_lt_zero _),fun _ _ _=>rfl⟩
 | succ j ih=>
  obtain ⟨i1,i2⟩:=ih (by omega);have hr:=slot_range hz (c.st 0+j);have hA:=slotW0 hz (c.st 0) j;have key:∀b:Int,0≤b→(slotsE c 0 ws (j+1)).getD b.toNat 0=if b=5+(c.st 0+j) % c.size 0 * 2 then nextI (c.st 0) j else (slotsE c 0 ws j).getD b.toNat 0:=fun b hb=>by
   show ((slotsE c 0 ws j).set (c.slotW 0 (nextI (c.st 0) j)).toNat (nextI (c.st 0) j)).getD b.toNat 0=_;rw [hA,getD_setL,slotsE_len];by_cases e:b=5+(c.st 0+j) % c.size 0 * 2
   ·subst e; rw [if_pos ⟨rfl,by omega⟩,if_pos rfl]
   ·rw [if_neg (by omega),if_neg e]
  refine ⟨fun i hi=>?_,fun b h0 h5=>?_⟩
  ·have hri:=slot_range hz (c.st 0+i)
   rw [key _ (by omega)];by_cases e:i=j
   ·subst e; rw [if_pos rfl]
   ·have hap:=slot_apart hz (c.st 0) i j (by omega) (by omega) (by omega)
    rw [if_neg (by omega)];exact i1 i (by omega)
  ·rw [key b h0,if_neg (by omega)]
   exact i2 b h0 h5
theorem slotsE_low {c:ConfM} (k:Nat) (ws:List Int) (j:Nat) (b:Int) (h0:0≤b) (hb:b<c.base k) (hz:1≤c.size k):(slotsE c k ws j).getD b.toNat 0=ws.getD b.toNat 0:=by
 induction j with
 | zero=>rfl
 | succ j ih=>
  show ((slotsE c k ws j).set (c.slotW k (nextI (c.st k) j)).toNat (nextI (c.st k) j)).getD b.toNat 0=_;have hs:0≤slotI (nextI (c.st k) j) (c.size k):=by
   unfold slotI;split
   ·omega
   ·exact Int.emod_nonneg _ (by omega)
  have:c.slotW k (nextI (c.st k) j)=c.base k+5+slotI (nextI (c.st k) j) (c.size k) * 2:=rfl;rw [getD_setL,if_neg (by omega)];exact ih
theorem chansE_low {c:ConfM} (hg:c.good) (k:Nat) (hk:k+1≤c.caps.length) (b:Int) (h0:0≤b) (hb:b<c.base 1):(chansE c (k+1)).getD b.toNat 0=(chansE c 1).getD b.toNat 0:=by
 induction k with
 | zero=>rfl
 | succ k ih=>
  have hm:∀i:Nat,i+1≤c.caps.length→c.base 1≤c.base (i+1):=fun i hi=>by
   induction i with
   | zero=>exact Int.le_refl _
   | succ i ih2=>
    have:=hg.size (i+1) (by omega);have h1:=ih2 (by omega);show c.base 1≤c.base (i+1)+(5+c.size (i+1) * 2);omega
  have hbk:=hm k (by omega);show (slotsE c (k+1) (headE c (k+1) (chansE c (k+1))) (c.size (k+1)).toNat).getD b.toNat 0=_;rw [slotsE_low (k+1) _ _ b h0 (by omega) (hg.size (k+1) (by omega)).1];unfold headE;rw [getD_setL,if_neg (by omega),getD_setL,if_neg (by omega)];exact ih (by omega)
theorem two_size {c:ConfM} (hg:c.good) (hk:1≤c.caps.length):Two (c.size 0)∧0≤c.caps.getD 0 0∧c.caps.getD 0 0≤c.size 0:=by
 have h:=hg.cap 0 (by omega);have key:∀x:Int,0≤x→x≤16→Two (sizeI x)∧0≤x∧x≤sizeI x:=fun x h0 h1=>by
  obtain ⟨n,rfl⟩:=Int.eq_ofNat_of_zero_le h0;have hn:n≤16:=by omega
  have:∀n:Nat,n<17→(sizeI n=1∨sizeI n=2∨sizeI n=4∨sizeI n=8∨sizeI n=16)∧(n:Int)≤sizeI n:=by decide +kernel
  exact ⟨(this n (by omega)).1,h0,(this n (by omega)).2⟩
 exact key _ h.1 h.2
theorem ringSt_new {c:ConfM} (hg:c.good) (hk:1≤c.caps.length) (val:Nat→Int):RingSt c (newE c) (c.st 0) 0 0 false val:=by
 obtain ⟨hz,h0,hcz⟩:=two_size hg hk;have hW:(newE c).words=chansE c c.caps.length:=by unfold newE; rw [if_pos (checkC_good hg)]
 obtain ⟨k,hke⟩:∃k,c.caps.length=k+1:=⟨c.caps.length - 1,by omega⟩;have hb1:c.base 1=5+c.size 0 * 2:=by show (0:Int)+(5+c.size 0 * 2)=_; omega
 have hL:c.base 1≤((chansE c 1).length:Int):=by
  rw [chansE_len];unfold ConfM.thrW;have hm:∀i:Nat,i+1≤c.caps.length→c.base 1≤c.base (i+1):=fun i hi=>by
   induction i with
   | zero=>exact Int.le_refl _
   | succ i ih2=>
    have:=hg.size (i+1) (by omega);have h1:=ih2 (by omega);show c.base 1≤c.base (i+1)+(5+c.size (i+1) * 2);omega
  have:=hm k (by omega);rw [← hke] at this;have:=hg.thr;omega
 have hLn:(newE c).words.length=(chansE c 1).length:=by rw [hW,chansE_len,chansE_len]
 have E:∀b:Int,0≤b→b<c.base 1→(newE c).words.getD b.toNat 0=(slotsE c 0 (headE c 0 (chansE c 0)) (c.size 0).toNat).getD b.toNat 0:=fun b h0 h1=>by
  rw [hW,hke];exact chansE_low hg k (by omega) b h0 h1
 have hl0:(headE c 0 (chansE c 0)).length=(chansE c 1).length:=by rw [headE_len,chansE_len,chansE_len]
 have hzr:1≤c.size 0:=by rcases hz with e | e | e | e | e <;> omega
 obtain ⟨s1,s2⟩:=slotsE_at hz (headE c 0 (chansE c 0)) (by rw [hl0]; omega) (c.size 0).toNat (by omega);have hst:0≤c.st 0∧c.st 0<9223372036854775808:=by
  unfold ConfM.st;have hs:0<c.starts.length:=by rw [hg.same]; omega
  rw [List.getD_eq_getElem?_getD,List.getElem?_eq_getElem hs];exact hg.starts _ (List.getElem_mem hs)
 have hn0:nextI (c.st 0) ((0:Nat):Int)=c.st 0:=by unfold nextI; omega
 have hlen0:(chansE c 0).length=(chansE c 1).length:=by rw [chansE_len,chansE_len]
 refine ⟨hz,hst,by rw [hLn]; omega,⟨Nat.le_refl _,by omega⟩,⟨hcz,h0⟩,?_,?_,fun j h1 h2=>?_,fun j h1 h2=>absurd h2 (Nat.not_lt_zero _)⟩
 ·refine (E 0 (by omega) (by omega)).trans ?_
  rw [s2 0 (by omega) (by omega),hn0];show (((chansE c 0).set (c.base 0).toNat (packI (c.st 0) false)).set (c.base 0+1).toNat (c.st 0)).getD (Int.toNat 0) 0=_;have hb0:c.base 0=0:=rfl;rw [hb0,getD_setL,if_neg (by omega),getD_setL,if_pos ⟨rfl,by show 0<_; omega⟩]
 ·refine (E 1 (by omega) (by omega)).trans ?_
  rw [s2 1 (by omega) (by omega),hn0];show (((chansE c 0).set (c.base 0).toNat (packI (c.st 0) false)).set (c.base 0+1).toNat (c.st 0)).getD (Int.toNat 1) 0=_;have hb0:c.base 0=0:=rfl;rw [hb0,getD_setL,List.length_set,if_pos ⟨rfl,by show 1<_; omega⟩]
 ·have hzj:=slot_range hz (c.st 0+j)
  rw [if_neg (Nat.not_lt_zero _)];refine (E _ (by omega) (by omega)).trans ?_;exact s1 j (by omega)
def popM (c:ConfM) (m:MemM) (H:Int):Nat→MemM
 | 0 | 1 | 2 | 3=>m
 | 4 | 5=>putW m 1 (nextI H 1)
 | _+6=>putW (putW m 1 (nextI H 1)) (c.slotW 0 H) (nextI H (c.size 0))
theorem nextI_add (s i j:Int):nextI (nextI s i) j=nextI s (i+j):=by unfold nextI; omega
theorem RingSt.popped {c:ConfM} {m:MemM} {s:Int} {p n:Nat} {cl:Bool} {val:Nat→Int} (h:RingSt c m s p n cl val) (hn:p<n):RingSt c (popM c m (nextI s p) 6) s (p+1) n cl val:=by
 have hA:=slotW0 h.two s p;have hz:=slot_range h.two (s+p);have hlen:=h.len;have hcap:=h.cap;have hpn:=h.pn;obtain ⟨A,hAe⟩:∃A,c.slotW 0 (nextI s p)=A:=⟨_,rfl⟩;rw [hAe] at hA;have hM:popM c m (nextI s p) 6=putW (putW m 1 (nextI s ((p:Int)+1))) A (nextI s ((p:Int)+c.size 0)):=by rw [← hAe,← nextI_next,← nextI_add]; rfl
 rw [hM];have E:∀b:Int,0≤b→(putW (putW m 1 (nextI s ((p:Int)+1))) A (nextI s ((p:Int)+c.size 0))).words.getD b.toNat 0=if b=A then nextI s ((p:Int)+c.size 0) else if b=1 then nextI s ((p:Int)+1) else m.words.getD b.toNat 0:=fun b hb=>by
  rw [putW_at _ _ _ _ (by omega) hb (by rw [putW_len]; omega),putW_at _ _ _ _ (by omega) hb (by omega)]
 refine ⟨h.two,h.srng,by rw [putW_len,putW_len]; exact hlen,⟨by omega,by omega⟩,hcap,?_,?_,fun j h1 h2=>?_,fun j h1 h2=>?_⟩
 ·refine (E 0 (by omega)).trans ?_
  rw [if_neg (by omega),if_neg (by omega)];exact h.tail
 ·refine (E 1 (by omega)).trans ?_
  rw [if_neg (by omega),if_pos rfl];rfl
 ·have hzj:=slot_range h.two (s+j)
  refine (E _ (by omega)).trans ?_;by_cases e:(j:Int)=p+c.size 0
  ·have e3:(s+j) % c.size 0=(s+p) % c.size 0:=by rw [e,← Int.add_assoc,Int.add_emod_right]
   rw [if_pos (by rw [e3]; exact hA.symm),if_neg (by omega),e]
  ·have hap:=slot_apart h.two s j p (by omega) (by omega) (by omega)
   rw [if_neg (by omega),if_neg (by omega)];exact h.slot j (by omega) (by omega)
 ·have hzj:=slot_range h.two (s+j)
  have hap:=slot_apart h.two s j p (by omega) (by omega) (by omega);refine (E _ (by omega)).trans ?_;rw [if_neg (by omega),if_neg (by omega)];exact h.vals j (by omega) h2
theorem RingSt.congr {c:ConfM} {m:MemM} {s:Int} {p n:Nat} {cl:Bool} {val val2:Nat→Int} (h:RingSt c m s p n cl val) (he:∀j,j<n→val j=val2 j):RingSt c m s p n cl val2:=
 ⟨h.two,h.srng,h.len,h.pn,h.cap,h.tail,h.head,h.slot,fun j h1 h2=>(h.vals j h1 h2).trans (he j h2)⟩
theorem apply_cas_no {m:MemM} {a o x:Int} (h0:0≤a) (h1:a<m.words.length) (he:¬m.words.getD a.toNat 0=o):applyE m ⟨3,a,o,x,0⟩=(m,⟨m.words.getD a.toNat 0,false,false,[]⟩,true):=by
 have hb:hasB m.words.length a=true:=by unfold hasB; simp [h0,h1]
 have he2:¬m.words[a.toNat]?.getD 0=o:=by rwa [List.getD_eq_getElem?_getD] at he
 unfold applyE grantB wordE;simp [hb,he2]
structure Rg (c:ConfM) (m:MemM) (s:Int) (P Q:Nat) (cl:Bool):Prop where
 two:Two (c.size 0)
 cap:0≤c.caps.getD 0 0∧c.caps.getD 0 0≤16
 len:5+c.size 0 * 2≤(m.words.length:Int)
 tail:m.words.getD 0 0=packI (nextI s P) cl
 head:m.words.getD 1 0=nextI s Q
 room:Q≤P∧(P:Int)≤Q+c.caps.getD 0 0
structure Mi (c:ConfM) (s:Int) (P Q:Nat) (k:MachM):Prop where
 rg:rgK c k
 chan:k.chan=0
 push:k.what=3→2≤k.pl→k.pl≤5→∃p:Nat,p≤P∧k.t=packI (nextI s p) false∧(4≤k.pl→(p:Int)<Q+c.caps.getD 0 0)
 pop:k.what=4→2≤k.pl→k.pl≤5→∃q:Nat,q≤Q∧k.h=nextI s q∧(4≤k.pl→q+1≤P)
 shut:k.what=5→k.pl=2→∃p:Nat,p≤P∧k.t=packI (nextI s p) false
theorem Mi.mono {c:ConfM} {s:Int} {P Q P2 Q2:Nat} {k:MachM} (h:Mi c s P Q k) (hP:P≤P2) (hQ:Q≤Q2):Mi c s P2 Q2 k:=
 ⟨h.rg,h.chan,fun a b d=>let ⟨p,h1,h2,h3⟩:=h.push a b d; ⟨p,by omega,h2,fun e=>by have:=h3 e; omega⟩,fun a b d=>let ⟨q,h1,h2,h3⟩:=h.pop a b d; ⟨q,by omega,h2,fun e=>by have:=h3 e; omega⟩,fun a b=>let ⟨p,h1,h2⟩:=h.shut a b; ⟨p,by omega,h2⟩⟩
def casT (c:ConfM) (m:MemM) (k:MachM):Prop:=(rgNE c k).kind=3∧(rgNE c k).addr=0∧(applyE m (rgNE c k)).2.1.ok=true
def pushDone (k:MachM):Prop:=k.what=3∧(6≤k.pl∨(k.pl=0∧k.ok=1))
def shutDone (k:MachM):Prop:=k.what=5∧k.pl=0∧k.ok=1
inductive StepR (c:ConfM) (m:MemM) (s:Int) (P Q:Nat) (cl:Bool) (k:MachM) (m2:MemM) (k2:MachM):Prop where
 | quiet (h1:Rg c m2 s P Q cl) (h2:Mi c s P Q k2) (h3:¬casT c m k) (h4:pushDone k2↔pushDone k) (h5:shutDone k2↔shutDone k) (h6:k2.what=5→k2.pl=0→cl=true∧k2.ok=4)
 | pushed (h0:cl=false) (hw:k.what=3) (h1:Rg c m2 s (P+1) Q false) (h2:Mi c s (P+1) Q k2) (h3:casT c m k) (h4:¬pushDone k) (h5:pushDone k2)
 | popped (hw:k.what=4) (h1:Rg c m2 s P (Q+1) cl) (h2:Mi c s P (Q+1) k2) (h3:¬casT c m k)
 | shut (h0:cl=false) (hw:k.what=5) (h1:Rg c m2 s P Q true) (h2:Mi c s P Q k2) (h3:casT c m k) (h4:¬shutDone k) (h5:shutDone k2)
theorem packI_inj {x y:Int} {a b:Bool} (hx:0≤x∧x<9223372036854775808) (hy:0≤y∧y<9223372036854775808) (h:packI x a=packI y b):x=y∧a=b:=
 ⟨by rw [← packI_half x hx a,h,packI_half y hy b],by rw [← packI_closed x a,h,packI_closed y b]⟩
theorem nextI_inj {s:Int} {a b:Nat} (ha:a≤2000000) (hb:b≤2000000) (h:nextI s a=nextI s b):a=b:=by unfold nextI at h; omega
theorem Rg.slotAt {c:ConfM} {m:MemM} {s:Int} {P Q:Nat} {cl:Bool} (h:Rg c m s P Q cl) (x:Int) (hx:0≤x):5≤c.slotW 0 x∧c.slotW 0 x+1<(m.words.length:Int):=by
 have h1:1≤c.size 0:=by rcases h.two with e | e | e | e | e <;> omega
 have h2:=slotI_lt x (c.size 0) hx h1;have h3:=h.len;rw [slotW_eq];have:c.base 0=0:=rfl;omega
theorem Rg.put {c:ConfM} {m:MemM} {s:Int} {P Q:Nat} {cl:Bool} (h:Rg c m s P Q cl) (a x:Int) (h0:2≤a) (h1:a<(m.words.length:Int)):Rg c (putW m a x) s P Q cl:=by
 have e0:=putW_at m a x 0 (by omega) (by omega) h1;have e1:=putW_at m a x 1 (by omega) (by omega) h1;rw [if_neg (by omega)] at e0 e1;exact ⟨h.two,h.cap,by rw [putW_len]; exact h.len,e0.trans h.tail,e1.trans h.head,h.room⟩
theorem Rg.lens {c:ConfM} {m:MemM} {s:Int} {P Q:Nat} {cl:Bool} (h:Rg c m s P Q cl):(5:Int)<m.words.length:=by
 have:=h.len;rcases h.two with e | e | e | e | e <;> omega
theorem Rg.setTail {c:ConfM} {m:MemM} {s:Int} {P Q P2:Nat} {cl cl2:Bool} (h:Rg c m s P Q cl) (h2:Q≤P2∧(P2:Int)≤Q+c.caps.getD 0 0):Rg c (putW m 0 (packI (nextI s P2) cl2)) s P2 Q cl2:=by
 have hl:=h.lens;have e0:=putW_at m 0 (packI (nextI s P2) cl2) 0 (by omega) (by omega) (by omega);have e1:=putW_at m 0 (packI (nextI s P2) cl2) 1 (by omega) (by omega) (by omega);rw [if_pos rfl] at e0;rw [if_neg (by omega)] at e1;exact ⟨h.two,h.cap,by rw [putW_len]; exact h.len,e0,e1.trans h.head,h2⟩
theorem Rg.setHead {c:ConfM} {m:MemM} {s:Int} {P Q Q2:Nat} {cl:Bool} (h:Rg c m s P Q cl) (h2:Q2≤P∧(P:Int)≤Q2+c.caps.getD 0 0):Rg c (putW m 1 (nextI s Q2)) s P Q2 cl:=by
 have hl:=h.lens;have e0:=putW_at m 1 (nextI s Q2) 0 (by omega) (by omega) (by omega);have e1:=putW_at m 1 (nextI s Q2) 1 (by omega) (by omega) (by omega);rw [if_neg (by omega)] at e0;rw [if_pos rfl] at e1;exact ⟨h.two,h.cap,by rw [putW_len]; exact h.len,e0.trans h.tail,e1,h2⟩
section
variable {c:ConfM} {m:MemM} {s:Int} {P Q:Nat} {cl:Bool} {k:MachM}
theorem Mi.of (hk:Mi c s P Q k) {b:AnsM} (hb:U64 b.val) {P2 Q2:Nat} (h1:(rgRE c k b).what=3→2≤(rgRE c k b).pl→(rgRE c k b).pl≤5→∃p:Nat,p≤P2∧(rgRE c k b).t=packI (nextI s p) false∧(4≤(rgRE c k b).pl→(p:Int)<Q2+c.caps.getD 0 0))
  (h2:(rgRE c k b).what=4→2≤(rgRE c k b).pl→(rgRE c k b).pl≤5→∃q:Nat,q≤Q2∧(rgRE c k b).h=nextI s q∧(4≤(rgRE c k b).pl→q+1≤P2)) (h3:(rgRE c k b).what=5→(rgRE c k b).pl=2→∃p:Nat,p≤P2∧(rgRE c k b).t=packI (nextI s p) false):Mi c s P2 Q2 (rgRE c k b):=by
 obtain ⟨hi,g,-⟩:=rgRE_goes c k b hk.rg.pl;exact ⟨rgK_RE hk.rg hb,g.chan.trans hk.chan,h1,h2,h3⟩
theorem step1_ans (hp:¬k.pl=0) {m2:MemM} {b:AnsM} (ha:applyE m (rgNE c k)=(m2,b,true)):step1 c (m,k)=(m2,rgRE c k b):=step1_of hp rfl ha
theorem push_stepR (h:Rg c m s P Q cl) (hf:m.fits) (hP:P≤1000000) (hk:Mi c s P Q k) (hp:¬k.pl=0) (hw:k.what=3):(applyE m (rgNE c k)).2.2=true∧StepR c m s P Q cl k (step1 c (m,k)).1 (step1 c (m,k)).2:=by
 have hl:=h.lens;have hpl:=hk.rg.pl;have hch:k.chan.toNat=0:=by rw [hk.chan]; rfl
 have hbase:c.base 0=0:=rfl;have eN:rgNE c k=pushNE c 0 k:=by unfold rgNE; rw [if_neg hp,if_pos hw,hch]
 have eR:∀b,rgRE c k b=pushRE (c.caps.getD 0 0) k b:=fun b=>by unfold rgRE; rw [if_neg hp,if_pos hw,hch]
 have hroom:=h.room;have hcap:=h.cap;have hval:=fun a=>applyE_val hf a;have ht:=hk.rg.t;have w5:∀b,(rgRE c k b).what=3:=fun b=>(rgRE_what c k b).trans hw;have key:∀{m2:MemM} {b:AnsM},applyE m (rgNE c k)=(m2,b,true)→(U64 b.val→StepR c m s P Q cl k m2 (rgRE c k b))→(applyE m (rgNE c k)).2.2=true∧StepR c m s P Q cl k (step1 c (m,k)).1 (step1 c (m,k)).2:=fun {m2 b} ha hs=>by
  have hb:U64 b.val:=by have:=hval (rgNE c k); rw [ha] at this; exact this
  rw [step1_ans hp ha,ha];exact ⟨rfl,hs hb⟩
 have quiet:∀{m2:MemM} {b:AnsM},U64 b.val→Rg c m2 s P Q cl→¬casT c m k→(2≤(rgRE c k b).pl→(rgRE c k b).pl≤5→∃p:Nat,p≤P∧(rgRE c k b).t=packI (nextI s p) false∧(4≤(rgRE c k b).pl→(p:Int)<Q+c.caps.getD 0 0))→(pushDone (rgRE c k b)↔pushDone k)→StepR c m s P Q cl k m2 (rgRE c k b):=fun {m2 b} hb h1 h3 h4 h5=>
  .quiet h1 (hk.of hb (fun _=>h4) (fun e=>by rw [w5] at e; omega) (fun e=>by rw [w5] at e; omega)) h3 h5 ⟨fun e=>by have:=e.1; rw [w5] at this; omega,fun e=>by have:=e.1; omega⟩ (fun e=>by rw [w5] at e; omega)
 have hps:k.pl=1∨k.pl=2∨k.pl=3∨k.pl=4∨k.pl=5∨k.pl=6∨k.pl=7:=by omega
 rcases hps with e | e | e | e | e | e | e
 ·have a1:rgNE c k=⟨1,0,0,0,0⟩:=by rw [eN]; unfold pushNE; rw [if_pos (.inl e)]; rfl
  refine key (a1▸apply_load (by omega) (by omega)) fun hb=>?_;have hnc:¬casT c m k:=fun hc=>by have:=hc.1; rw [a1] at this; exact absurd this (by simp)
  refine quiet hb h hnc ?_ ?_ <;> rw [eR] <;> unfold pushRE <;> rw [if_pos e] <;> split
  ·intro h1; exact absurd h1 (by simp)
  ·rename_i hcl
   intro _ _;have hcl2:cl=false:=by
    have h1:¬closedB (m.words.getD 0 0)=true:=hcl;rw [h.tail,packI_closed] at h1; simpa using h1
   subst hcl2;exact ⟨P,Nat.le_refl _,h.tail,fun h4=>absurd h4 (by simp)⟩
  ·unfold pushDone; simp [e,hw]
  ·unfold pushDone; simp [e,hw]
 ·have a1:rgNE c k=⟨1,1,0,0,0⟩:=by rw [eN]; unfold pushNE; rw [if_neg (by omega),if_pos e]; rfl
  refine key (a1▸apply_load (by omega) (by omega)) fun hb=>?_;have hnc:¬casT c m k:=fun hc=>by have:=hc.1; rw [a1] at this; exact absurd this (by simp)
  obtain ⟨p,hp1,hp2,-⟩:=hk.push hw (by omega) (by omega);have hr:=packI_half (nextI s p) (nextI_rng s p) false;refine quiet hb h hnc ?_ ?_ <;> rw [eR] <;> unfold pushRE <;> rw [if_neg (by omega),if_pos e] <;> (try split) <;> (try split)
  ·exact fun _ _=>⟨p,hp1,hp2,fun h4=>absurd h4 (by simp)⟩
  ·exact fun h1=>absurd h1 (by simp)
  ·rename_i h8 h9
   refine fun _ _=>⟨p,hp1,hp2,fun _=>?_⟩;have h8':¬restI (k.t / 2) (m.words.getD 1 0)=c.caps.getD 0 0:=h8;have h9':¬c.caps.getD 0 0<restI (k.t / 2) (m.words.getD 1 0):=h9;rw [h.head,hp2,hr] at h8' h9';unfold restI nextI at h8' h9';omega
  ·unfold pushDone; simp [e,hw]
  ·unfold pushDone; simp [e,hw]
  ·unfold pushDone; simp [e,hw]
 ·have a1:rgNE c k=⟨1,0,0,0,0⟩:=by rw [eN]; unfold pushNE; rw [if_pos (.inr e)]; rfl
  refine key (a1▸apply_load (by omega) (by omega)) fun hb=>?_;have hnc:¬casT c m k:=fun hc=>by have:=hc.1; rw [a1] at this; exact absurd this (by simp)
  refine quiet hb h hnc ?_ ?_ <;> rw [eR] <;> unfold pushRE <;> rw [if_neg (by omega),if_neg (by omega),if_pos e] <;> (try split) <;> (try split)
  ·exact fun h1=>absurd h1 (by simp)
  ·exact fun h1=>absurd h1 (by simp)
  ·rename_i h8 hcl
   intro _ _;have hcl2:cl=false:=by
    have h1:¬closedB (m.words.getD 0 0)=true:=hcl;rw [h.tail,packI_closed] at h1; simpa using h1
   subst hcl2;exact ⟨P,Nat.le_refl _,h.tail,fun h4=>absurd h4 (by simp)⟩
  ·unfold pushDone; simp [e,hw]
  ·unfold pushDone; simp [e,hw]
  ·unfold pushDone; simp [e,hw]
 ·have hsl:=h.slotAt (k.t / 2) (by have:=ht.1; omega)
  have a1:rgNE c k=⟨1,c.slotW 0 (k.t / 2),0,0,0⟩:=by rw [eN]; unfold pushNE; rw [if_neg (by omega),if_neg (by omega),if_pos e]
  refine key (a1▸apply_load (by omega) (by omega)) fun hb=>?_;have hnc:¬casT c m k:=fun hc=>by have:=hc.1; rw [a1] at this; exact absurd this (by simp)
  obtain ⟨p,hp1,hp2,hp3⟩:=hk.push hw (by omega) (by omega);refine quiet hb h hnc ?_ ?_ <;> rw [eR] <;> unfold pushRE <;> rw [if_neg (by omega),if_neg (by omega),if_neg (by omega),if_pos e] <;> (try split)
  ·exact fun _ _=>⟨p,hp1,hp2,fun _=>hp3 (by omega)⟩
  ·exact fun h1=>absurd h1 (by simp)
  ·unfold pushDone; simp [e,hw]
  ·unfold pushDone; simp [e,hw]
 ·obtain ⟨p,hp1,hp2,hp3⟩:=hk.push hw (by omega) (by omega)
  have hr:=packI_half (nextI s p) (nextI_rng s p) false;have a1:rgNE c k=⟨3,0,k.t,packI (nextI (k.t / 2) 1) false,0⟩:=by rw [eN]; unfold pushNE; rw [if_neg (by omega),if_neg (by omega),if_neg (by omega),if_pos e]; rfl
  by_cases hc:m.words.getD 0 0=k.t
  ·have ha:=apply_cas (m:=m) (a:=0) (o:=k.t) (x:=packI (nextI (k.t / 2) 1) false) (by omega) (by omega) hc
   refine key (a1▸ha) fun hb=>?_;have hc2:=hc;rw [h.tail,hp2] at hc2;obtain ⟨h1,h2⟩:=packI_inj (nextI_rng s P) (nextI_rng s p) hc2;have h3:=nextI_inj (by omega) (by omega) h1;subst h3;have hk2:rgRE c k ⟨k.t,true,false,[]⟩={ k with pl:=6 }:=by rw [eR]; unfold pushRE; rw [if_neg (by omega),if_neg (by omega),if_neg (by omega),if_neg (by omega),if_pos e]; rfl
   have h4:=hp3 (by omega);have hR:=h.setTail (P2:=P+1) (cl2:=false) ⟨by omega,by omega⟩;rw [show packI (nextI (k.t / 2) 1) false=packI (nextI s ((P+1:Nat):Int)) false by rw [hp2,hr,nextI_next]; rfl];refine .pushed h2 hw hR (hk.of hb (fun _ _ h5=>?_) (fun e2=>by rw [w5] at e2; omega) (fun e2=>by rw [w5] at e2; omega)) ⟨by rw [a1],by rw [a1],by rw [a1,ha]⟩ (fun h5=>?_) ?_
   ·rw [hk2] at h5; exact absurd h5 (by show ¬(6:Int)≤5; decide)
   ·rcases h5.2 with h6 | h6 <;> omega
   ·rw [hk2]; exact ⟨hw,.inl (by show (6:Int)≤6; decide)⟩
  ·have ha:=apply_cas_no (m:=m) (a:=0) (o:=k.t) (x:=packI (nextI (k.t / 2) 1) false) (by omega) (by omega) hc
   refine key (a1▸ha) fun hb=>?_;have hnc:¬casT c m k:=fun hc=>by have:=hc.2.2; rw [a1,ha] at this; exact absurd this (by simp)
   refine quiet hb h hnc ?_ ?_ <;> rw [eR] <;> unfold pushRE <;> rw [if_neg (by omega),if_neg (by omega),if_neg (by omega),if_neg (by omega),if_pos e,if_neg (by simp)]
   ·exact fun h1=>absurd h1 (by simp)
   ·unfold pushDone; simp [e,hw]
 ·have hsl:=h.slotAt (k.t / 2) (by have:=ht.1; omega)
  have a1:rgNE c k=⟨6,c.slotW 0 (k.t / 2)+1,0,k.val,0⟩:=by rw [eN]; unfold pushNE; rw [if_neg (by omega),if_neg (by omega),if_neg (by omega),if_neg (by omega),if_pos e]
  refine key (a1▸apply_write (by omega) (by omega)) fun hb=>?_;have hnc:¬casT c m k:=fun hc=>by have:=hc.1; rw [a1] at this; exact absurd this (by simp)
  refine quiet hb (h.put _ _ (by omega) (by omega)) hnc ?_ ?_ <;> rw [eR] <;> unfold pushRE <;> rw [if_neg (by omega),if_neg (by omega),if_neg (by omega),if_neg (by omega),if_neg (by omega),if_pos e]
  ·exact fun _ h1=>absurd h1 (by simp)
  ·unfold pushDone; simp [e,hw]
 ·have hsl:=h.slotAt (k.t / 2) (by have:=ht.1; omega)
  have a1:rgNE c k=⟨2,c.slotW 0 (k.t / 2),0,nextI (k.t / 2) 1,0⟩:=by rw [eN]; unfold pushNE; rw [if_neg (by omega),if_neg (by omega),if_neg (by omega),if_neg (by omega),if_neg (by omega)]
  refine key (a1▸apply_store (by omega) (by omega)) fun hb=>?_;have hnc:¬casT c m k:=fun hc=>by have:=hc.1; rw [a1] at this; exact absurd this (by simp)
  refine quiet hb (h.put _ _ (by omega) (by omega)) hnc ?_ ?_ <;> rw [eR] <;> unfold pushRE <;> rw [if_neg (by omega),if_neg (by omega),if_neg (by omega),if_neg (by omega),if_neg (by omega),if_neg (by omega)]
  ·exact fun h1=>absurd h1 (by simp)
  ·unfold pushDone; simp [e,hw]
theorem pop_stepR (h:Rg c m s P Q cl) (hf:m.fits) (hP:P≤1000000) (hk:Mi c s P Q k) (hp:¬k.pl=0) (hw:k.what=4):(applyE m (rgNE c k)).2.2=true∧StepR c m s P Q cl k (step1 c (m,k)).1 (step1 c (m,k)).2:=by
 have hl:=h.lens;have hpl:=hk.rg.pl;have hch:k.chan.toNat=0:=by rw [hk.chan]; rfl
 have hbase:c.base 0=0:=rfl;have eN:rgNE c k=popNE c 0 k:=by unfold rgNE; rw [if_neg hp,if_neg (by omega),if_pos hw,hch]
 have eR:∀b,rgRE c k b=popRE (c.caps.getD 0 0) k b:=fun b=>by unfold rgRE; rw [if_neg hp,if_neg (by omega),if_pos hw,hch]
 have hroom:=h.room;have hcap:=h.cap;have hval:=fun a=>applyE_val hf a;have ht:=hk.rg.t;have hh:=hk.rg.h;have w5:∀b,(rgRE c k b).what=4:=fun b=>(rgRE_what c k b).trans hw;have key:∀{m2:MemM} {b:AnsM},applyE m (rgNE c k)=(m2,b,true)→(U64 b.val→StepR c m s P Q cl k m2 (rgRE c k b))→(applyE m (rgNE c k)).2.2=true∧StepR c m s P Q cl k (step1 c (m,k)).1 (step1 c (m,k)).2:=fun {m2 b} ha hs=>by
  have hb:U64 b.val:=by have:=hval (rgNE c k); rw [ha] at this; exact this
  rw [step1_ans hp ha,ha];exact ⟨rfl,hs hb⟩
 have nP:∀b,(rgRE c k b).what=3→2≤(rgRE c k b).pl→(rgRE c k b).pl≤5→∃p:Nat,p≤P∧(rgRE c k b).t=packI (nextI s p) false∧(4≤(rgRE c k b).pl→(p:Int)<Q+c.caps.getD 0 0):=fun b e=>by rw [w5] at e; omega
 have nD:∀b,pushDone (rgRE c k b)↔pushDone k:=fun b=>⟨fun e=>by have:=e.1; rw [w5] at this; omega,fun e=>by have:=e.1; omega⟩;have quiet:∀{m2:MemM} {b:AnsM},U64 b.val→Rg c m2 s P Q cl→¬casT c m k→(2≤(rgRE c k b).pl→(rgRE c k b).pl≤5→∃q:Nat,q≤Q∧(rgRE c k b).h=nextI s q∧(4≤(rgRE c k b).pl→q+1≤P))→StepR c m s P Q cl k m2 (rgRE c k b):=fun {m2 b} hb h1 h3 h4=>
  .quiet h1 (hk.of hb (nP b) (fun _=>h4) (fun e=>by rw [w5] at e; omega)) h3 (nD b) ⟨fun e=>by have:=e.1; rw [w5] at this; omega,fun e=>by have:=e.1; omega⟩ (fun e=>by rw [w5] at e; omega)
 have hps:k.pl=1∨k.pl=2∨k.pl=3∨k.pl=4∨k.pl=5∨k.pl=6∨k.pl=7:=by omega
 rcases hps with e | e | e | e | e | e | e
 ·have a1:rgNE c k=⟨1,1,0,0,0⟩:=by rw [eN]; unfold popNE; rw [if_pos (.inl e)]; rfl
  refine key (a1▸apply_load (by omega) (by omega)) fun hb=>?_;have hnc:¬casT c m k:=fun hc=>by have:=hc.1; rw [a1] at this; exact absurd this (by simp)
  refine quiet hb h hnc ?_;rw [eR]; unfold popRE; rw [if_pos e];exact fun _ _=>⟨Q,Nat.le_refl _,h.head,fun h4=>absurd h4 (by simp)⟩
 ·have a1:rgNE c k=⟨1,0,0,0,0⟩:=by rw [eN]; unfold popNE; rw [if_neg (by omega),if_pos e]; rfl
  refine key (a1▸apply_load (by omega) (by omega)) fun hb=>?_;have hnc:¬casT c m k:=fun hc=>by have:=hc.1; rw [a1] at this; exact absurd this (by simp)
  obtain ⟨q,hq1,hq2,-⟩:=hk.pop hw (by omega) (by omega);have hr:=packI_half (nextI s P) (nextI_rng s P) cl;refine quiet hb h hnc ?_;rw [eR]; unfold popRE; rw [if_neg (by omega),if_pos e];split
  ·exact fun _ _=>⟨q,hq1,hq2,fun h4=>absurd h4 (by simp)⟩
  ·rename_i h8
   have h8':¬restI (m.words.getD 0 0 / 2) k.h=0:=h8;rw [h.tail,hq2,hr] at h8';have hlt:q+1≤P:=by unfold restI nextI at h8'; omega
   split
   ·exact fun h1=>absurd h1 (by simp)
   ·exact fun _ _=>⟨q,hq1,hq2,fun _=>hlt⟩
 ·have a1:rgNE c k=⟨1,1,0,0,0⟩:=by rw [eN]; unfold popNE; rw [if_pos (.inr e)]; rfl
  refine key (a1▸apply_load (by omega) (by omega)) fun hb=>?_;have hnc:¬casT c m k:=fun hc=>by have:=hc.1; rw [a1] at this; exact absurd this (by simp)
  refine quiet hb h hnc ?_;rw [eR]; unfold popRE; rw [if_neg (by omega),if_neg (by omega),if_pos e];split
  ·exact fun _ _=>⟨Q,Nat.le_refl _,h.head,fun h4=>absurd h4 (by simp)⟩
  ·split
   ·exact fun h1=>absurd h1 (by simp)
   ·exact fun h1=>absurd h1 (by simp)
 ·have hsl:=h.slotAt k.h hh.1
  have a1:rgNE c k=⟨1,c.slotW 0 k.h,0,0,0⟩:=by rw [eN]; unfold popNE; rw [if_neg (by omega),if_neg (by omega),if_pos e]
  refine key (a1▸apply_load (by omega) (by omega)) fun hb=>?_;have hnc:¬casT c m k:=fun hc=>by have:=hc.1; rw [a1] at this; exact absurd this (by simp)
  obtain ⟨q,hq1,hq2,hq3⟩:=hk.pop hw (by omega) (by omega);refine quiet hb h hnc ?_;rw [eR]; unfold popRE; rw [if_neg (by omega),if_neg (by omega),if_neg (by omega),if_pos e];split
  ·exact fun _ _=>⟨q,hq1,hq2,fun _=>hq3 (by omega)⟩
  ·exact fun h1=>absurd h1 (by simp)
 ·obtain ⟨q,hq1,hq2,hq3⟩:=hk.pop hw (by omega) (by omega)
  have a1:rgNE c k=⟨3,1,k.h,nextI k.h 1,0⟩:=by rw [eN]; unfold popNE; rw [if_neg (by omega),if_neg (by omega),if_neg (by omega),if_pos e]; rfl
  have hnc:¬casT c m k:=fun hc=>by have:=hc.2.1; rw [a1] at this; exact absurd this (by simp)
  by_cases hc:m.words.getD 1 0=k.h
  ·have ha:=apply_cas (m:=m) (a:=1) (o:=k.h) (x:=nextI k.h 1) (by omega) (by omega) hc
   refine key (a1▸ha) fun hb=>?_;have hc2:=hc;rw [h.head,hq2] at hc2;have h3:=nextI_inj (by omega) (by omega) hc2;subst h3;have h4:=hq3 (by omega);have hR:=h.setHead (Q2:=Q+1) ⟨by omega,by omega⟩;rw [show nextI k.h 1=nextI s ((Q+1:Nat):Int) by rw [hq2,nextI_next]; rfl];refine .popped hw hR (hk.of hb (fun e2=>by rw [w5] at e2; omega) (fun _ _ h5=>?_) (fun e2=>by rw [w5] at e2; omega)) hnc;rw [eR] at h5; unfold popRE at h5; rw [if_neg (by omega),if_neg (by omega),if_neg (by omega),if_neg (by omega),if_pos e,if_pos rfl] at h5;exact absurd h5 (by show ¬(6:Int)≤5; decide)
  ·have ha:=apply_cas_no (m:=m) (a:=1) (o:=k.h) (x:=nextI k.h 1) (by omega) (by omega) hc
   refine key (a1▸ha) fun hb=>?_;refine quiet hb h hnc ?_;rw [eR]; unfold popRE; rw [if_neg (by omega),if_neg (by omega),if_neg (by omega),if_neg (by omega),if_pos e,if_neg (by simp)];exact fun h1=>absurd h1 (by simp)
 ·have hsl:=h.slotAt k.h hh.1
  have a1:rgNE c k=⟨5,c.slotW 0 k.h+1,0,0,0⟩:=by rw [eN]; unfold popNE; rw [if_neg (by omega),if_neg (by omega),if_neg (by omega),if_neg (by omega),if_pos e]
  refine key (a1▸apply_read (by omega) (by omega)) fun hb=>?_;have hnc:¬casT c m k:=fun hc=>by have:=hc.1; rw [a1] at this; exact absurd this (by simp)
  refine quiet hb h hnc ?_;rw [eR]; unfold popRE; rw [if_neg (by omega),if_neg (by omega),if_neg (by omega),if_neg (by omega),if_neg (by omega),if_pos e];exact fun _ h1=>absurd h1 (by simp)
 ·have hsl:=h.slotAt k.h hh.1
  have a1:rgNE c k=⟨2,c.slotW 0 k.h,0,nextI k.h (c.size 0),0⟩:=by rw [eN]; unfold popNE; rw [if_neg (by omega),if_neg (by omega),if_neg (by omega),if_neg (by omega),if_neg (by omega)]
  refine key (a1▸apply_store (by omega) (by omega)) fun hb=>?_;have hnc:¬casT c m k:=fun hc=>by have:=hc.1; rw [a1] at this; exact absurd this (by simp)
  refine quiet hb (h.put _ _ (by omega) (by omega)) hnc ?_;rw [eR]; unfold popRE; rw [if_neg (by omega),if_neg (by omega),if_neg (by omega),if_neg (by omega),if_neg (by omega),if_neg (by omega)];exact fun h1=>absurd h1 (by simp)
theorem shut_stepR (h:Rg c m s P Q cl) (hf:m.fits) (hP:P≤1000000) (hk:Mi c s P Q k) (hp:¬k.pl=0) (hw:k.what=5):(applyE m (rgNE c k)).2.2=true∧StepR c m s P Q cl k (step1 c (m,k)).1 (step1 c (m,k)).2:=by
 have hl:=h.lens;have hpl:=hk.rg.pl;have hch:k.chan.toNat=0:=by rw [hk.chan]; rfl
 have hbase:c.base 0=0:=rfl;have eN:rgNE c k=shutNE c 0 k:=by unfold rgNE; rw [if_neg hp,if_neg (by omega),if_neg (by omega),if_pos hw,hch]
 have eR:∀b,rgRE c k b=shutRE k b:=fun b=>by unfold rgRE; rw [if_neg hp,if_neg (by omega),if_neg (by omega),if_pos hw]
 have hroom:=h.room;have hcap:=h.cap;have hval:=fun a=>applyE_val hf a;have ht:=hk.rg.t;have hh:=hk.rg.h;have w5:∀b,(rgRE c k b).what=5:=fun b=>(rgRE_what c k b).trans hw;have key:∀{m2:MemM} {b:AnsM},applyE m (rgNE c k)=(m2,b,true)→(U64 b.val→StepR c m s P Q cl k m2 (rgRE c k b))→(applyE m (rgNE c k)).2.2=true∧StepR c m s P Q cl k (step1 c (m,k)).1 (step1 c (m,k)).2:=fun {m2 b} ha hs=>by
  have hb:U64 b.val:=by have:=hval (rgNE c k); rw [ha] at this; exact this
  rw [step1_ans hp ha,ha];exact ⟨rfl,hs hb⟩
 have nP:∀b,(rgRE c k b).what=3→2≤(rgRE c k b).pl→(rgRE c k b).pl≤5→∃p:Nat,p≤P∧(rgRE c k b).t=packI (nextI s p) false∧(4≤(rgRE c k b).pl→(p:Int)<Q+c.caps.getD 0 0):=fun b e=>by rw [w5] at e; omega
 have nD:∀b,pushDone (rgRE c k b)↔pushDone k:=fun b=>⟨fun e=>by have:=e.1; rw [w5] at this; omega,fun e=>by have:=e.1; omega⟩;have quiet:∀{m2:MemM} {b:AnsM},U64 b.val→Rg c m2 s P Q cl→¬casT c m k→((rgRE c k b).pl=2→∃p:Nat,p≤P∧(rgRE c k b).t=packI (nextI s p) false)→(shutDone (rgRE c k b)↔shutDone k)→((rgRE c k b).pl=0→cl=true∧(rgRE c k b).ok=4)→StepR c m s P Q cl k m2 (rgRE c k b):=fun {m2 b} hb h1 h3 h4 h5 h6=>
  .quiet h1 (hk.of hb (nP b) (fun e=>by rw [w5] at e; omega) (fun _=>h4)) h3 (nD b) h5 (fun _=>h6)
 have hpl2:=hpl.2.2.1 hw;have hps:k.pl=1∨k.pl=2:=by omega
 rcases hps with e | e
 ·have a1:rgNE c k=⟨1,0,0,0,0⟩:=by rw [eN]; unfold shutNE; rw [if_pos e]; rfl
  refine key (a1▸apply_load (by omega) (by omega)) fun hb=>?_;have hnc:¬casT c m k:=fun hc=>by have:=hc.1; rw [a1] at this; exact absurd this (by simp)
  have hclw:closedB (m.words.getD 0 0)=cl:=by rw [h.tail,packI_closed]
  refine quiet hb h hnc ?_ ?_ ?_ <;> rw [eR] <;> unfold shutRE <;> rw [if_pos e] <;> split
  ·exact fun h1=>absurd h1 (by simp)
  ·rename_i hcl
   intro _;have hcl2:cl=false:=by
    have h1:¬closedB (m.words.getD 0 0)=true:=hcl;rw [h.tail,packI_closed] at h1; simpa using h1
   subst hcl2;exact ⟨P,Nat.le_refl _,h.tail⟩
  ·unfold shutDone; simp [e]
  ·unfold shutDone; simp [e]
  ·rename_i hcl
   exact fun _=>⟨hclw.symm.trans hcl,rfl⟩
  ·exact fun h1=>absurd h1 (by simp)
 ·obtain ⟨p,hp1,hp2⟩:=hk.shut hw e
  have hr:=packI_half (nextI s p) (nextI_rng s p) false;have a1:rgNE c k=⟨3,0,k.t,packI (k.t / 2) true,0⟩:=by rw [eN]; unfold shutNE; rw [if_neg (by omega)]; rfl
  by_cases hc:m.words.getD 0 0=k.t
  ·have ha:=apply_cas (m:=m) (a:=0) (o:=k.t) (x:=packI (k.t / 2) true) (by omega) (by omega) hc
   refine key (a1▸ha) fun hb=>?_;have hc2:=hc;rw [h.tail,hp2] at hc2;obtain ⟨h1,h2⟩:=packI_inj (nextI_rng s P) (nextI_rng s p) hc2;have h3:=nextI_inj (by omega) (by omega) h1;subst h3;have hk2:rgRE c k ⟨k.t,true,false,[]⟩={ k with pl:=0,ok:=1,ov:=0 }:=by rw [eR]; unfold shutRE; rw [if_neg (by omega)]; rfl
   have hR:=h.setTail (P2:=P) (cl2:=true) hroom;rw [show packI (k.t / 2) true=packI (nextI s P) true by rw [hp2,hr]];refine .shut h2 hw hR (hk.of hb (fun e2=>by rw [w5] at e2; omega) (fun e2=>by rw [w5] at e2; omega) (fun _ h5=>?_)) ⟨by rw [a1],by rw [a1],by rw [a1,ha]⟩ (fun h5=>by have:=h5.2.1; omega) ?_
   ·rw [hk2] at h5; exact absurd h5 (by show ¬(0:Int)=2; decide)
   ·rw [hk2]; exact ⟨hw,rfl,rfl⟩
  ·have ha:=apply_cas_no (m:=m) (a:=0) (o:=k.t) (x:=packI (k.t / 2) true) (by omega) (by omega) hc
   refine key (a1▸ha) fun hb=>?_;have hnc:¬casT c m k:=fun hc=>by have:=hc.2.2; rw [a1,ha] at this; exact absurd this (by simp)
   refine quiet hb h hnc ?_ ?_ ?_ <;> rw [eR] <;> unfold shutRE <;> rw [if_neg (by omega),if_neg (by simp)]
   ·exact fun h1=>absurd h1 (by simp)
   ·unfold shutDone; simp [e]
   ·exact fun h1=>absurd h1 (by simp)
theorem count_stepR (h:Rg c m s P Q cl) (hf:m.fits) (hP:P≤1000000) (hk:Mi c s P Q k) (hp:¬k.pl=0) (hw:k.what=6):(applyE m (rgNE c k)).2.2=true∧StepR c m s P Q cl k (step1 c (m,k)).1 (step1 c (m,k)).2:=by
 have hl:=h.lens;have hpl:=hk.rg.pl;have hch:k.chan.toNat=0:=by rw [hk.chan]; rfl
 have hbase:c.base 0=0:=rfl;have eN:rgNE c k=countNE c 0 k:=by unfold rgNE; rw [if_neg hp,if_neg (by omega),if_neg (by omega),if_neg (by omega),hch]
 have eR:∀b,rgRE c k b=countRE k b:=fun b=>by unfold rgRE; rw [if_neg hp,if_neg (by omega),if_neg (by omega),if_neg (by omega)]
 have hroom:=h.room;have hcap:=h.cap;have hval:=fun a=>applyE_val hf a;have ht:=hk.rg.t;have hh:=hk.rg.h;have w5:∀b,(rgRE c k b).what=6:=fun b=>(rgRE_what c k b).trans hw;have key:∀{m2:MemM} {b:AnsM},applyE m (rgNE c k)=(m2,b,true)→(U64 b.val→StepR c m s P Q cl k m2 (rgRE c k b))→(applyE m (rgNE c k)).2.2=true∧StepR c m s P Q cl k (step1 c (m,k)).1 (step1 c (m,k)).2:=fun {m2 b} ha hs=>by
  have hb:U64 b.val:=by have:=hval (rgNE c k); rw [ha] at this; exact this
  rw [step1_ans hp ha,ha];exact ⟨rfl,hs hb⟩
 have nP:∀b,(rgRE c k b).what=3→2≤(rgRE c k b).pl→(rgRE c k b).pl≤5→∃p:Nat,p≤P∧(rgRE c k b).t=packI (nextI s p) false∧(4≤(rgRE c k b).pl→(p:Int)<Q+c.caps.getD 0 0):=fun b e=>by rw [w5] at e; omega
 have nD:∀b,pushDone (rgRE c k b)↔pushDone k:=fun b=>⟨fun e=>by have:=e.1; rw [w5] at this; omega,fun e=>by have:=e.1; omega⟩;have a1:rgNE c k=⟨1,0,0,0,0⟩∨rgNE c k=⟨1,1,0,0,0⟩:=by
  rw [eN]; unfold countNE;split
  ·exact .inr rfl
  ·exact .inl rfl
 have fin:∀{b:AnsM},U64 b.val→¬casT c m k→StepR c m s P Q cl k m (rgRE c k b):=fun {b} hb hn=>
  .quiet h (hk.of hb (nP b) (fun e=>by rw [w5] at e; omega) (fun e=>by rw [w5] at e; omega)) hn (nD b) ⟨fun e=>by have:=e.1; rw [w5] at this; omega,fun e=>by have:=e.1; omega⟩ (fun e=>by rw [w5] at e; omega)
 rcases a1 with a1 | a1
 ·exact key (a1▸apply_load (by omega) (by omega)) fun hb=>fin hb fun hc=>by have:=hc.1; rw [a1] at this; exact absurd this (by simp)
 ·exact key (a1▸apply_load (by omega) (by omega)) fun hb=>fin hb fun hc=>by have:=hc.1; rw [a1] at this; exact absurd this (by simp)
theorem ring_stepR (h:Rg c m s P Q cl) (hf:m.fits) (hP:P≤1000000) (hk:Mi c s P Q k) (hp:¬k.pl=0):(applyE m (rgNE c k)).2.2=true∧StepR c m s P Q cl k (step1 c (m,k)).1 (step1 c (m,k)).2:=by
 rcases hk.rg.what with hw | hw | hw | hw
 ·exact push_stepR h hf hP hk hp hw
 ·exact pop_stepR h hf hP hk hp hw
 ·exact shut_stepR h hf hP hk hp hw
 ·exact count_stepR h hf hP hk hp hw
end
theorem rg_acc (c:ConfM) (m:MachM) (h:rgK c m) (hg:c.good):(rgNE c m).ok:=by
 obtain ⟨k,hk,hc⟩:=h.chan;have hn:=hg.base8 k (Nat.le_of_lt hk);have hl:=hg.len;have e0:c.base k=IntKind.i64.wrap (c.base k):=by rw [IntKind.wrap_i64]; omega
 have e1:c.base k+1=IntKind.i64.wrap (c.base k+1):=by rw [IntKind.wrap_i64]; omega
 have es:∀s,0≤s→c.slotW k s=IntKind.i64.wrap (c.slotW k s)∧c.slotW k s+1=IntKind.i64.wrap (c.slotW k s+1):=fun s hs=>by
  have:=hg.slot8 k s hk hs;rw [IntKind.wrap_i64,IntKind.wrap_i64]; omega
 have et:=es (m.t / 2) (by have:=h.t.1; omega);have eh:=es m.h h.h.1;have ut:=h.t.wrap;have uh:=h.h.wrap;have uv:=h.val.wrap;have z:(0:Int)=IntKind.u64.wrap 0:=by decide
 have zi:(0:Int)=IntKind.i64.wrap 0:=by decide
 have un:∀x y,nextI x y=IntKind.u64.wrap (nextI x y):=fun x y=>U64.wrap ⟨by unfold nextI; omega,by unfold nextI; omega⟩;have up:∀x b,packI x b=IntKind.u64.wrap (packI x b):=fun x b=>U64.wrap ⟨by unfold packI; split <;> omega,by unfold packI; split <;> omega⟩;unfold rgNE;rw [show m.chan.toNat=k by omega];unfold pushNE popNE shutNE countNE
 repeat' split
 all_goals refine ⟨by dsimp only [accZ]; decide,?_,?_,?_,zi⟩
 all_goals first | exact zi | exact z | exact e0 | exact e1 | exact et.1 | exact et.2 | exact eh.1 | exact eh.2 | exact ut | exact uh | exact uv | exact un _ _ | exact up _ _
def pushB (k:MachM):Bool:=k.what == 3 && (decide (6≤k.pl) || (k.pl == 0 && k.ok == 1))
def shutB (k:MachM):Bool:=k.what == 5 && (k.pl == 0 && k.ok == 1)
def isB (w:Int) (k:MachM):Bool:=k.what == w
theorem pushB_iff (k:MachM):pushB k=true↔pushDone k:=by unfold pushB pushDone; simp
theorem shutB_iff (k:MachM):shutB k=true↔shutDone k:=by unfold shutB shutDone; simp
theorem pushB_is (k:MachM) (h:pushB k=true):isB 3 k=true:=by unfold pushB at h; unfold isB; simp at h ⊢; exact h.1
theorem bool_iff {a b:Bool} (h:a=true↔b=true):a=b:=by cases a <;> cases b <;> simp_all
def stepL (c:ConfM) (st:MemM × List MachM) (i:Nat):MemM × List MachM:=
 match st.2[i]? with
 | none=>st
 | some k=>((step1 c (st.1,k)).1,st.2.set i (step1 c (st.1,k)).2)
def runL (c:ConfM) (st:MemM × List MachM) (is:List Nat):MemM × List MachM:=is.foldl (stepL c) st
theorem stepL_at {c:ConfM} {st:MemM × List MachM} {i:Nat} (hi:i<st.2.length):stepL c st i=((step1 c (st.1,st.2[i])).1,st.2.set i (step1 c (st.1,st.2[i])).2):=by
 unfold stepL; rw [List.getElem?_eq_getElem hi]
theorem stepL_len (c:ConfM) (st:MemM × List MachM) (i:Nat):(stepL c st i).2.length=st.2.length:=by
 unfold stepL;split
 ·rfl
 ·simp
theorem countP_set' {p:MachM→Bool}:∀{l:List MachM} {i:Nat} (hi:i<l.length) (a:MachM),(l.set i a).countP p+(if p l[i]=true then 1 else 0)=l.countP p+(if p a=true then 1 else 0)
 | b :: l,0,_,a=>by
  rw [List.set_cons_zero,List.countP_cons,List.countP_cons,List.getElem_cons_zero];omega
 | b :: l,i+1,hi,a=>by
  have h1:i<l.length:=by simpa using hi
  have h:=countP_set' (p:=p) h1 a;rw [List.set_cons_succ,List.countP_cons,List.countP_cons,List.getElem_cons_succ];omega
theorem step1_what (c:ConfM) (m:MemM) (k:MachM):(step1 c (m,k)).2.what=k.what:=by
 unfold step1;split
 ·rfl
 ·split
  ·exact rgRE_what c k _
  ·rfl
theorem step1_end (c:ConfM) (m:MemM) (k:MachM) (h:k.pl=0):step1 c (m,k)=(m,k):=by
 unfold step1;rw [if_pos h]
structure Li (c:ConfM) (s:Int) (st:MemM × List MachM) (P Q:Nat) (cl:Bool):Prop where
 good:c.good
 rg:Rg c st.1 s P Q cl
 fits:st.1.fits
 mi:∀k∈st.2,Mi c s P Q k
 pushes:st.2.countP pushB=P
 shuts:st.2.countP shutB=if cl=true then 1 else 0
 ends:∀k∈st.2,k.what=5→k.pl=0→cl=true∧(k.ok=1∨k.ok=4)
structure Adv (P Q:Nat) (cl:Bool) (P2 Q2:Nat) (cl2:Bool):Prop where
 push:P2=P∨(P2=P+1∧cl=false∧cl2=false)
 pop:Q2=Q∨Q2=Q+1
 shut:cl=true→cl2=true∧P2=P
 one:¬(P2=P+1∧Q2=Q+1)
theorem Adv.refl (P Q:Nat) (cl:Bool):Adv P Q cl P Q cl:=⟨.inl rfl,.inl rfl,fun h=>⟨h,rfl⟩,by omega⟩
theorem Li.step {c:ConfM} {s:Int} {st:MemM × List MachM} {P Q:Nat} {cl:Bool} (h:Li c s st P Q cl) (hn:st.2.length≤100000) (i:Nat) (hi:i<st.2.length) :
  ∃P2 Q2 cl2,Li c s (stepL c st i) P2 Q2 cl2∧Adv P Q cl P2 Q2 cl2∧((st.2[i].pl≠0∧casT c st.1 st.2[i])↔(P2=P+1∨(cl=false∧cl2=true)))∧(P2=P+1→st.2[i].what=3)∧(cl=false→cl2=true→st.2[i].what=5):=by
 obtain ⟨m,l⟩:=st;rw [stepL_at hi];have hi':i<l.length:=hi;obtain ⟨k,hk⟩:∃k,l[i]=k:=⟨_,rfl⟩;have hmem:k∈l:=hk▸List.getElem_mem hi';show ∃P2 Q2 cl2,Li c s ((step1 c (m,l[i])).1,l.set i (step1 c (m,l[i])).2) P2 Q2 cl2∧Adv P Q cl P2 Q2 cl2∧((l[i].pl≠0∧casT c m l[i])↔(P2=P+1∨(cl=false∧cl2=true)))∧(P2=P+1→l[i].what=3)∧(cl=false→cl2=true→l[i].what=5);rw [hk];by_cases hp:k.pl=0
 ·rw [step1_end c m k hp]
  have e:l.set i k=l:=by rw [← hk]; simp
  show ∃P2 Q2 cl2,Li c s (m,l.set i k) P2 Q2 cl2∧_;rw [e];refine ⟨P,Q,cl,h,Adv.refl _ _ _,⟨fun a=>absurd hp a.1,fun a=>by rcases a with a | ⟨a,b⟩; omega; rw [a] at b; cases b⟩,by omega,fun a b=>by rw [a] at b; cases b⟩
 have hPl:P≤1000000:=by have:=h.pushes; have h2:=List.countP_le_length (p:=pushB) (l:=l); have:l.countP pushB=P:=h.pushes; have:l.length≤100000:=hn; omega
 obtain ⟨-,hS⟩:=ring_stepR h.rg h.fits hPl (h.mi k hmem) hp;have hfit:(step1 c (m,k)).1.fits:=by
  unfold step1;rw [if_neg hp];split
  ·exact fits_apply h.fits (rg_acc c k (h.mi k hmem).rg h.good)
  ·exact h.fits
 obtain ⟨m2,k2,e2⟩:∃m2 k2,step1 c (m,k)=(m2,k2):=⟨_,_,rfl⟩;have hwh:k2.what=k.what:=by have:=step1_what c m k; rw [e2] at this; exact this
 rw [e2] at hS hfit ⊢;have cp:=countP_set' (p:=pushB) hi' k2;have cs:=countP_set' (p:=shutB) hi' k2;have hpu:l.countP pushB=P:=h.pushes;have hsh:l.countP shutB=if cl=true then 1 else 0:=h.shuts
 rw [hk,hpu] at cp;rw [hk,hsh] at cs;have all:∀{P2 Q2:Nat},P≤P2→Q≤Q2→Mi c s P2 Q2 k2→∀q∈l.set i k2,Mi c s P2 Q2 q:=fun h1 h2 h3 q hq=>by
  rcases List.mem_or_eq_of_mem_set hq with h4 | rfl
  ·exact (h.mi q h4).mono h1 h2
  ·exact h3
 have ends:∀{cl2:Bool},(cl=true→cl2=true)→(k2.what=5→k2.pl=0→cl2=true∧(k2.ok=1∨k2.ok=4))→∀q∈l.set i k2,q.what=5→q.pl=0→cl2=true∧(q.ok=1∨q.ok=4):=fun h1 h2 q hq h5 h6=>by
  rcases List.mem_or_eq_of_mem_set hq with h4 | rfl
  ·have:=h.ends q h4 h5 h6; exact ⟨h1 this.1,this.2⟩
  ·exact h2 h5 h6
 have pb:∀{k:MachM},¬pushDone k→¬pushB k=true:=fun h5 h6=>h5 ((pushB_iff _).1 h6);have sb:∀{k:MachM},¬shutDone k→¬shutB k=true:=fun h5 h6=>h5 ((shutB_iff _).1 h6);have noS:∀{k:MachM},k.what≠5→¬shutB k=true:=fun h5 h6=>h5 ((shutB_iff _).1 h6).1;have noP:∀{k:MachM},k.what≠3→¬pushB k=true:=fun h5 h6=>h5 ((pushB_iff _).1 h6).1;cases hS with
 | quiet h1 h2 h3 h4 h5 h6=>
  have e1:pushB k2=pushB k:=bool_iff (by rw [pushB_iff,pushB_iff]; exact h4);have e3:shutB k2=shutB k:=bool_iff (by rw [shutB_iff,shutB_iff]; exact h5);rw [e1] at cp;rw [e3] at cs;refine ⟨P,Q,cl,⟨h.good,h1,hfit,all (Nat.le_refl _) (Nat.le_refl _) h2,by show (l.set i k2).countP pushB=P; omega,by show (l.set i k2).countP shutB=_; omega,ends id fun a b=>⟨(h6 a b).1,.inr (h6 a b).2⟩⟩,Adv.refl _ _ _,⟨fun a=>absurd a.2 h3,fun a=>by rcases a with a | ⟨a,b⟩; omega; rw [a] at b; cases b⟩,by omega,fun a b=>by rw [a] at b; cases b⟩
 | pushed h0 hw h1 h2 h3 h4 h5=>
  subst h0;rw [if_neg (pb h4),if_pos ((pushB_iff _).2 h5)] at cp;rw [if_neg (noS (by omega)),if_neg (noS (k:=k2) (by rw [hwh]; omega))] at cs;refine ⟨P+1,Q,false,⟨h.good,h1,hfit,all (by omega) (Nat.le_refl _) h2,by show (l.set i k2).countP pushB=P+1; omega,by show (l.set i k2).countP shutB=_; omega,ends (by simp) (by rw [hwh]; omega)⟩,⟨.inr ⟨rfl,rfl,rfl⟩,.inl rfl,by simp,by omega⟩,⟨fun _=>.inl rfl,fun _=>⟨hp,h3⟩⟩,fun _=>hw,by simp⟩
 | popped hw h1 h2 h3=>
  rw [if_neg (noP (by omega)),if_neg (noP (k:=k2) (by rw [hwh]; omega))] at cp;rw [if_neg (noS (by omega)),if_neg (noS (k:=k2) (by rw [hwh]; omega))] at cs;refine ⟨P,Q+1,cl,⟨h.good,h1,hfit,all (Nat.le_refl _) (by omega) h2,by show (l.set i k2).countP pushB=P; omega,by show (l.set i k2).countP shutB=_; omega,ends id (by rw [hwh]; omega)⟩,⟨.inl rfl,.inr rfl,fun a=>⟨a,rfl⟩,by omega⟩,⟨fun a=>absurd a.2 h3,fun a=>by rcases a with a | ⟨a,b⟩; omega; rw [a] at b; cases b⟩,by omega,fun a b=>by rw [a] at b; cases b⟩
 | shut h0 hw h1 h2 h3 h4 h5=>
  subst h0;rw [if_neg (noP (by omega)),if_neg (noP (k:=k2) (by rw [hwh]; omega))] at cp;rw [if_neg (sb h4),if_pos ((shutB_iff _).2 h5)] at cs;refine ⟨P,Q,true,⟨h.good,h1,hfit,all (Nat.le_refl _) (Nat.le_refl _) h2,by show (l.set i k2).countP pushB=P; omega,by show (l.set i k2).countP shutB=_; simp at cs ⊢; omega,ends (by simp) fun _ _=>⟨rfl,.inl h5.2.2⟩⟩,⟨.inl rfl,.inl rfl,by simp,by omega⟩,⟨fun _=>.inr ⟨rfl,rfl⟩,fun _=>⟨hp,h3⟩⟩,by omega,fun _ _=>hw⟩
def okB (c:ConfM) (m:MachM) (b:AnsM):Bool:=if m.what=3 then (if m.pl=1 then !closedB b.val else if m.pl=2 then decide (restI (m.t / 2) b.val<c.caps.getD m.chan.toNat 0) else if m.pl=3 then false else if m.pl=4 then b.val == m.t / 2 else if m.pl=5 then b.ok else true) else if m.pl=3 then b.val == m.t else m.what == 6
structure Doc (NE:ConfM→MachM→AccM) (RE:ConfM→MachM→AnsM→MachM) (K:ConfM→MachM→Prop):Prop where
 next:∀(c:ConfM) (m:MachM) (a a2:Option Addr) (cap cap2:Nat) (w:World),K c m→c.good→ConfV w (.agg #[.slice a c.caps.length cap,.slice a2 c.starts.length cap2,.int .i64 c.threads]) c→Calls Tryz.prog 54 #[.agg (machL (.slice a c.caps.length cap) (.slice a2 c.starts.length cap2) c.threads m).toArray] w fun e w2=>e=.returned (accV (NE c m))∧Below w.heap.size w w2
 acc:∀(c:ConfM) (m:MachM),K c m→c.good→(NE c m).ok
 resume:∀(c:ConfM) (m:MachM) (b:AnsM) (a a2:Option Addr) (cap cap2:Nat) (zA:Option Addr) (zn zc:Nat) (w:World),K c m→c.good→U64 b.val→okB c m b=true→ConfV w (.agg #[.slice a c.caps.length cap,.slice a2 c.starts.length cap2,.int .i64 c.threads]) c→Calls Tryz.prog 55 #[.agg (machL (.slice a c.caps.length cap) (.slice a2 c.starts.length cap2) c.threads m).toArray,.agg #[.int .u64 b.val,.bool b.ok,.bool b.late,.slice zA zn zc]] w fun e w2=>e=.returned (.agg (machL (.slice a c.caps.length cap) (.slice a2 c.starts.length cap2) c.threads (RE c m b)).toArray)∧Below w.heap.size w w2
 stays:∀(c:ConfM) (m:MachM) (b:AnsM),K c m→U64 b.val→okB c m b=true→K c (RE c m b)
theorem pushA_any (a a2:Option Addr) (cap cap2:Nat) (c:ConfM) (m:MachM) (k:Nat) (hk:k<c.caps.length) (hg:c.good) (hw:m.what=3) (hc:m.chan=k) (hp:1≤m.pl∧m.pl≤7) (ht:U64 m.t) (b:AnsM) (hA:okB c m b=true) (hb:U64 b.val) (aa:Option Addr) (n ac:Nat) (w:World) (hv:ConfV w (.agg #[.slice a c.caps.length cap,.slice a2 c.starts.length cap2,.int .i64 c.threads]) c):Calls Tryz.prog 88 #[(.agg (machL (.slice a c.caps.length cap) (.slice a2 c.starts.length cap2) c.threads m).toArray),.agg #[.int .u64 b.val,.bool b.ok,.bool b.late,.slice aa n ac]] w fun e w'=>e=.returned (.agg (machL (.slice a c.caps.length cap) (.slice a2 c.starts.length cap2) c.threads (pushRE (c.caps.getD k 0) m b)).toArray)∧Below w.heap.size w w':=by
 have hch:m.chan.toNat=k:=by omega
 unfold okB at hA;rw [if_pos hw,hch] at hA;unfold pushRE;by_cases h1:m.pl=1
 ·rw [if_pos h1] at hA ⊢
  cases hcl:closedB b.val with
  | true=>rw [hcl] at hA; cases hA
  | false=>rw [if_neg (by simp)]; exact machPush_1o a a2 cap cap2 c m _ _ _ aa n ac hw h1 w hb.1 hb.2 hcl
 rw [if_neg h1] at hA ⊢;by_cases h2:m.pl=2
 ·rw [if_pos h2] at hA ⊢
  have hl:=of_decide_eq_true hA;rw [if_neg (by omega),if_neg (by omega)]; exact machPush_2l a a2 cap cap2 c m _ _ _ aa n ac hw h2 w k hk hg hc hv hl
 rw [if_neg h2] at hA ⊢;by_cases h3:m.pl=3
 ·rw [if_pos h3] at hA; cases hA
 rw [if_neg h3] at hA ⊢;by_cases h4:m.pl=4
 ·rw [if_pos h4] at hA ⊢
  have he:b.val=m.t / 2:=by simpa using hA
  rw [if_pos he]; exact machPush_4e a a2 cap cap2 c m _ _ _ aa n ac hw h4 w he.symm
 rw [if_neg h4] at hA ⊢;by_cases h5:m.pl=5
 ·rw [if_pos h5] at hA ⊢
  rw [if_pos hA,hA]; exact machPush_5k a a2 cap cap2 c m _ _ aa n ac hw h5 w
 rw [if_neg h5];by_cases h6:m.pl=6
 ·rw [if_pos h6]; exact machPush_6 a a2 cap cap2 c m _ _ _ aa n ac hw h6 w
 ·rw [if_neg h6]; exact machPush_7 a a2 cap cap2 c m _ _ _ aa n ac hw (by omega) w
theorem countA_any (a a2:Option Addr) (cap cap2:Nat) (c:ConfM) (m:MachM) (k:Nat) (hk:k<c.caps.length) (hg:c.good) (hw:m.what=6) (hc:m.chan=k) (hp:1≤m.pl∧m.pl≤3) (ht:U64 m.t) (b:AnsM) (hA:okB c m b=true) (hb:U64 b.val) (aa:Option Addr) (n ac:Nat) (w:World) (hv:ConfV w (.agg #[.slice a c.caps.length cap,.slice a2 c.starts.length cap2,.int .i64 c.threads]) c):Calls Tryz.prog 91 #[(.agg (machL (.slice a c.caps.length cap) (.slice a2 c.starts.length cap2) c.threads m).toArray),.agg #[.int .u64 b.val,.bool b.ok,.bool b.late,.slice aa n ac]] w fun e w'=>e=.returned (.agg (machL (.slice a c.caps.length cap) (.slice a2 c.starts.length cap2) c.threads (countRE m b)).toArray)∧Below w.heap.size w w':=by
 unfold okB at hA;rw [if_neg (by omega)] at hA;unfold countRE;by_cases h1:m.pl=1
 ·rw [if_pos h1]; exact machCount_1 a a2 cap cap2 c m _ _ _ aa n ac hw h1 w
 rw [if_neg h1];by_cases h2:m.pl=2
 ·rw [if_pos h2]; exact machCount_2 a a2 cap cap2 c m _ _ _ aa n ac hw h2 w
 rw [if_neg h2];rw [if_pos (by omega)] at hA;have he:b.val=m.t:=by simpa using hA
 have T:=machCount_3e a a2 cap cap2 c m b.val b.ok b.late aa n ac hw (by omega) he.symm w;rw [he] at T;rw [if_pos he,he]; exact T
theorem rg_doc:Doc rgNE rgRE (fun c m=>rgK c m∧aK m) where
 next:=fun c m a a2 cap cap2 w h hg hv=>by
  obtain ⟨k,hk,hc⟩:=h.1.chan;by_cases h0:m.pl=0
  ·unfold rgNE; rw [if_pos h0]; exact machNext_end a a2 cap cap2 c m h0 w
  ·exact machNext_aw a a2 cap cap2 c m k _ _ hk hg rfl hc rfl h0 h.1 h.2 w hv
 acc:=fun c m h hg=>rg_acc c m h.1 hg
 resume:=fun c m b a a2 cap cap2 zA zn zc w h hg hb hA hv=>by
  obtain ⟨k,hk,hc⟩:=h.1.chan;have hpl:=h.1.pl;have hak:=h.2;unfold aK at hak;have HV:=hv;unfold rgRE;by_cases h0:m.pl=0
  ·rw [if_pos h0]; exact machRes_end a a2 cap cap2 c m _ _ _ zA zn zc h0 w
  rw [if_neg h0,show m.chan.toNat=k by omega];by_cases hw:m.what=3
  ·rw [if_pos hw]; exact machRes_push a a2 cap cap2 c m _ _ _ _ zA zn zc hw h0 w fun w' hb'=>pushA_any a a2 cap cap2 c m k hk hg hw hc (by omega) h.1.t b hA hb zA zn zc w' (HV.below hb')
  have hw:m.what=6:=by omega
  rw [if_neg (by omega),if_neg (by omega),if_neg (by omega)];exact machRes_count a a2 cap cap2 c m _ _ _ _ zA zn zc hw h0 w fun w' hb'=>countA_any a a2 cap cap2 c m k hk hg hw hc (by have:=hpl.2.2.2 hw; omega) h.1.t b hA hb zA zn zc w' (HV.below hb')
 stays:=fun c m b h hb hA=>by
  refine ⟨rgK_RE h.1 hb,?_⟩;have hak:=h.2;unfold aK at hak;unfold okB at hA;unfold rgRE;by_cases h0:m.pl=0
  ·rw [if_pos h0]; exact .inl h0
  rw [if_neg h0];by_cases hw:m.what=3
  ·rw [if_pos hw] at hA ⊢
   unfold pushRE;by_cases h2:m.pl=2
   ·rw [if_neg (by omega),if_pos h2] at hA ⊢
    have hl:=of_decide_eq_true hA;rw [if_neg (by omega),if_neg (by omega)];exact .inr (.inl ⟨hw,.inr (.inr (.inl rfl))⟩)
   ·repeat' split
    all_goals first | exact absurd ‹m.pl=2› h2 | exact .inl rfl | exact .inr (.inl ⟨hw,by simp⟩)
  ·have hw:m.what=6:=by omega
   rw [if_neg (by omega),if_neg (by omega),if_neg (by omega)];unfold countRE
   repeat' split
   all_goals first | exact .inl rfl | exact .inr (.inr ⟨hw,by simp⟩)
end Go.Proofs.YtjnlkemdaffgbaaGreat
