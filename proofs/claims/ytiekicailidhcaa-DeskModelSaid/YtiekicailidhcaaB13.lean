import Derived.Deep.DeepCutAuto
import Derived.Deep.CutBlock
import Derived.Lib.Overlaps
import Derived.Lib.AppendZerosOnto
import Derived.Shelf.Spec.SlicesInsert
import Derived.Test.YtiekicailidhcaaB12
import Derived.Test.YtiekicailidhcaaB05
import Derived.Test.YtiekicailidhcaaB07
import Derived.Test.YtiekicailidhcaaB08
import Derived.Test.YtiekicailidhcaaB06
import Derived.Test.YtiekicailidhcaaB03
import Derived.Test.YtiekicailidhcaaB01
import Derived.Test.YtiekicailidhcaaB02
import Derived.Test.YtiekicailidhcaaB11
set_option linter.unusedVariables false
set_option linter.unusedSimpArgs false
namespace Go.Proofs.Ytiekicailidhcaa
open Go.ChangeShapes Go.WideShapes Go.ChangeAt Go.RowKit
set_option maxRecDepth 100000
def BsQ (l:List DoneM) (t:Int) (w:World) (e:Ending) (w':World):Prop:=∃(i:Nat) (f:Bool),e=.returned (.tuple #[.int .i64 (i:Int),.bool f])∧i≤l.length∧(∀j,j<i→(l.getD j doneZ).thr<t)∧(∀j,i≤j→j<l.length→t≤(l.getD j doneZ).thr)∧Below w.heap.size w w'
set_option maxRecDepth 100000 in
set_option maxHeartbeats 16000000 in
theorem bsF_any (v:Value) (l:List DoneM) (t:Int) (w:World) (hv:SlS w 6 v (doneRows l)) (hl:l.length≤1000000) (hs:∀i j,i≤j→j<l.length→(l.getD i doneZ).thr≤(l.getD j doneZ).thr):Calls Try.prog 76 #[v,.int .i64 t,.func (.func 77) #[] #[]] w (BsQ l t w):=by
 have HV:=Lib.hid hv;have HS:=Lib.hid hs;have hll:=doneRows_length l;obtain ⟨a,cap,rfl,-⟩:=hv.len;rw [hll];rw [hll] at HV;obtain ⟨TQ,hTQ⟩:∃z,BsQ l t w=z:=⟨_,rfl⟩;have HT:Hid (∀(i:Nat) (f:Bool) w',i≤l.length→(∀j,j<i→(l.getD j doneZ).thr<t)→(∀j,i≤j→j<l.length→t≤(l.getD j doneZ).thr)→Below w.heap.size w w'→TQ (.returned (.tuple #[.int .i64 (i:Int),.bool f])) w'):=fun i f w' h1 h2 h3 h4=>by rw [← hTQ]; exact ⟨i,f,rfl,h1,h2,h3,h4⟩
 rw [hTQ];obtain ⟨n,hn⟩:∃z,l.length=z:=⟨_,rfl⟩;have HN:=Lib.hid hn;rw [hn] at HT HV hl ⊢;clear hv hs hll hTQ hn;go_enter Try.func76,Try.ntmps76;go_wp2_with fail;go_loopw [9,10] (fun u9 u10 wr=>∃i j:Nat,u9=.int .i64 i∧u10=.int .i64 j∧i≤j∧j≤n∧Hid (∀q,q<i→(l.getD q doneZ).thr<t)∧Hid (∀q,j≤q→q<n→t≤(l.getD q doneZ).thr)∧Hid (Below w.heap.size w wr)) (fun u9 u10 _=>(intOf u10).toNat - (intOf u9).toNat)
 case atStart=>exact ⟨0,n,rfl,rfl,by omega,Nat.le_refl _,fun q hq=>by omega,fun q h1 h2=>by omega,Below.refl _ _⟩
 case round=>
  obtain ⟨i,j,rfl,rfl,hij,hj,HA,HZ,HB⟩:=hrel;obtain ⟨wo,rfl⟩:∃wo:World,wo=wr:=⟨_,rfl⟩;by_cases hlt:i<j
  ·have hltI:(i:Int)<(j:Int):=by omega
   have hw1:IntKind.i64.wrap ((i:Int)+j)=(i:Int)+j:=by rw [IntKind.wrap_i64]; omega
   have hw2:IntKind.u64.wrap ((i:Int)+j)=(i:Int)+j:=by rw [IntKind.wrap_u64]; omega
   have hp1:((i:Int)+j) / 2<1000001:=by omega
   go_upto_region 5 with fail
   obtain ⟨h,hh⟩:∃h:Nat,((i:Int)+j) / 2=h:=⟨(i+j) / 2,by omega⟩;rw [hh];have hih:i≤h∧h<j:=by omega
   obtain ⟨hih1,hhj⟩:=hih;clear hh hp1 hw1 hw2;have hhn:h<n:=by omega
   have hhI:(h:Int)<(n:Int):=by omega
   have hw3:IntKind.i64.wrap ((h:Int)+1)=(h:Int)+1:=(i64_small _ (by omega) (by omega)).symm;obtain ⟨⟨x,⟨k1,k2,k3,k4,k5⟩⟩,hx0⟩:∃z,l.getD h doneZ=z:=⟨_,rfl⟩;have HX:Hid ((l.getD h doneZ).thr=x):=by show _=_; rw [hx0]
   obtain ⟨b,off,cp,hve,hb0,c0,c1,c2,c3,c4,c5⟩:=SlS.done (HV.out.below HB.out) h (by rw [HN.out]; exact hhn) hx0;rw [HN.out] at hve;simp only [Value.slice.injEq] at hve;obtain ⟨rfl,-,rfl⟩:=hve;dsimp only at c0 c1 c2 c3 c4 c5;clear hx0;obtain ⟨q,hq⟩:∃z,cmpE x t=z:=⟨_,rfl⟩;have HQ:=Lib.hid hq;clear hq;go_wp2_with fail;refine (with1_any x t k1 k2 k3 k5 k4 _).mono ?_; rintro e w2 ⟨rfl,hb2⟩;have HB2:=Lib.hid (below_then HB.out hb2);rw [HQ.out];clear hb2 c0 c1 c2 c3 c4 c5;cases hb:decide (x<t) with
   | true=>
    have hx:x<t:=of_decide_eq_true hb;have hq0:q<0:=by rw [← HQ.out]; unfold cmpE; rw [if_pos hx]; decide
    clear hb;go_wp2_with fail;go_roundw
    case rel=>exact ⟨h+1,j,by go_num,rfl,by omega,hj,fun k hk=>Int.lt_of_le_of_lt (HS.out k h (by omega) (by rw [HN.out]; exact hhn)) (by rw [HX.out]; exact hx),HZ,HB2⟩
    case measure=>simp [intOf]; omega
   | false=>
    have hx:t≤x:=by have:=of_decide_eq_false hb; omega
    have hq0:¬q<0:=by rw [← HQ.out]; unfold cmpE; rw [if_neg (by omega)]; split <;> decide
    clear hb;go_wp2_with fail;go_roundw
    case rel=>exact ⟨i,h,rfl,rfl,by omega,by omega,HA,fun k hk1 hk2=>by have:=HS.out h k hk1 (by rw [HN.out]; exact hk2); rw [HX.out] at this; exact Int.le_trans hx this,HB2⟩
    case measure=>simp [intOf]; omega
  ·have hge:¬(i:Int)<(j:Int):=by omega
   have hji:j=i:=by omega
   subst hji;by_cases hin:j<n
   ·have hinI:(j:Int)<(n:Int):=by omega
    have hhn:=hin;obtain ⟨⟨x,⟨k1,k2,k3,k4,k5⟩⟩,hx0⟩:∃z,l.getD j doneZ=z:=⟨_,rfl⟩;have HX:Hid ((l.getD j doneZ).thr=x):=by show _=_; rw [hx0]
    obtain ⟨b,off,cp,hve,hb0,c0,c1,c2,c3,c4,c5⟩:=SlS.done (HV.out.below HB.out) j (by rw [HN.out]; exact hhn) hx0;rw [HN.out] at hve;simp only [Value.slice.injEq] at hve;obtain ⟨rfl,-,rfl⟩:=hve;dsimp only at c0 c1 c2 c3 c4 c5;clear hx0;obtain ⟨q,hq⟩:∃z,cmpE x t=z:=⟨_,rfl⟩;have HQ:=Lib.hid hq;clear hq;go_wp2_with fail;refine (with1_any x t k1 k2 k3 k5 k4 _).mono ?_; rintro e w2 ⟨rfl,hb2⟩;have HB2:=Lib.hid (below_then HB.out hb2);rw [HQ.out];clear hb2 c0 c1 c2 c3 c4 c5;have HF:=Lib.hid (HT.out j (q == 0) w2 hj HA.out HZ.out HB2.out);clear HT;go_wp2_with fail;exact HF.out
   ·have hnI:¬(j:Int)<(n:Int):=by omega
    have HF:=Lib.hid (HT.out j false _ hj HA.out HZ.out HB.out);clear HT;go_wp2_with fail;exact HF.out
set_option maxRecDepth 100000 in
set_option maxHeartbeats 16000000 in
theorem insEnd_any (base:Nat) (v vx:Value) (rows rows2:List (List Value)) (w:World) (ho:OwnS w base 75 6 v rows) (hx:SlS w 6 vx rows2) (h1:rows.length≤100000) (h2:0<rows2.length) (h3:rows2.length≤100000) (hb:base≤w.heap.size):Calls Try.prog 79 #[v,.int .i64 (rows.length:Int),vx] w fun e w'=>∃v',e=.returned v'∧OwnS w' base 75 6 v' (rows ++ rows2)∧w.grownBy w' v.ownBlock:=by
 have HO:=Lib.hid ho;obtain ⟨v',w',hrun,ho2,hg2,-⟩:=run_app_ss w 37 37 (by kernel_rfl) Try.info_done rfl (by decide) (by decide) ho hx (by omega) hb;have hsh:∃a c,v=.slice a rows.length c∧rows.length≤c:=by
  rcases ho.shape with ⟨rfl,rfl⟩ | ⟨g,c,e,-,-,hc⟩
  ·exact ⟨none,0,rfl,Nat.le_refl _⟩
  ·exact ⟨_,c,e,hc⟩
 obtain ⟨a,c,rfl,hc⟩:=hsh;obtain ⟨b,d,rfl,-⟩:=hx.len;obtain ⟨n,hn⟩:∃z,rows.length=z:=⟨_,rfl⟩;obtain ⟨m,hm⟩:∃z,rows2.length=z:=⟨_,rfl⟩;obtain ⟨TQ,hTQ⟩:∃z:Ending→World→Prop,(fun e w'=>∃v',e=.returned v'∧OwnS w' base 75 6 v' (rows ++ rows2)∧w.grownBy w' (Value.slice a rows.length c).ownBlock)=z:=⟨_,rfl⟩;have HT:Hid (TQ (.returned v') w'):=by rw [← hTQ]; exact ⟨_,rfl,ho2,hg2⟩
 rw [hTQ];rw [hn,hm] at hrun;rw [hn] at hc ⊢;rw [hm] at h2 ⊢;have hHR:=Lib.hid hrun;have hnc:(n:Int)≤(c:Int):=by omega
 have hm0:¬(m:Int)=0:=by omega
 clear ho hx hrun ho2 hg2 hn hm hTQ HO;go_enter Try.func79,Try.ntmps79;go_wp2_with (at_builtin; refine Lib.wpList_append_run _ rfl _ _ _ _ rfl _ _ rfl rfl _ _ hHR.out ?_)
 all_goals exact HT.out
theorem Try.info_dn2:(Try.prog.info? 75).map (fun i=>(i.zero,i.size,i.bytes))=some (some (.agg #[.int .i64 0,.int .i64 0,.int .i64 0,.int .u64 0,.bool false,.int .i64 0]),6,48):=by kernel_rfl
theorem run_copy_wide (w:World) (dT sT ty elem:TypeId) (g o dLen dCap s:Nat) (a:Addr) (sLen sCap:Nat) (cur:Array Value) (t:TypeId) (cs:List Value)
  (hu:Try.prog.underlying dT=some (.slice elem)) (hs:(Try.prog.info? elem).map (·.size)=some s)
  (hg:w.heap[g]?=some (.cells cur t (0,0))) (hn:cs.length=Nat.min sLen dLen * s)
  (hsrc:∀j v,cs[j]?=some v→w.cell? (a.add j)=some v) (hfit:o+cs.length≤cur.size) (h1:∀v∈cs,v.oneCell'=true) :
  (Builtin.copy_ #[dT,sT] ty #[.slice (some ⟨g,o,none⟩) dLen dCap,.slice (some a) sLen sCap]).run Try.prog w =
   .ok (goInt (Nat.min sLen dLen)) (w.setRow g (cur.toList.take o ++ cs ++ cur.toList.drop (o+cs.length)).toArray):=by
 have hl:=run_loadCells_list (P:=Try.prog) w a cs hsrc;have hst:=run_storeCells_at Try.prog g o t cs 0 cur w hg (by simpa using hfit) h1;cases hq:Try.prog.info? elem with
 | none=>simp [hq] at hs
 | some i=>
  have hi:i.size=s:=by simpa [hq] using hs
  simp [Builtin.copy_,run_underlying hu,Builtin.lenOf,Builtin.firstCells,sizeOf,typeInfo,hq,hi,← hn,hl,hst]
theorem take_mid {α:Type} (xs r:List α) (cur:List α) (p q s:Nat) (hs:r.length=s) (hp:p≤xs.length) (hq:xs.length+s≤q) (hc:cur.take xs.length=xs) (hl:q≤cur.length) :
  ((((cur.take (p+s) ++ xs.drop p ++ cur.drop (p+s+(xs.drop p).length)).take p) ++ r ++ ((cur.take (p+s) ++ xs.drop p ++ cur.drop (p+s+(xs.drop p).length)).drop (p+r.length))).take (xs.length+s))=xs.take p ++ r ++ xs.drop p:=by
 have h1:cur.take p=xs.take p:=by rw [← hc,List.take_take,Nat.min_eq_left hp]
 have hlt:(cur.take (p+s)).length=p+s:=by rw [List.length_take]; omega
 have e1:(cur.take (p+s) ++ xs.drop p ++ cur.drop (p+s+(xs.drop p).length)).take p=xs.take p:=by
  rw [List.append_assoc,List.take_append_of_le_length (by omega),List.take_take,Nat.min_eq_left (by omega),h1]
 have e2:(cur.take (p+s) ++ xs.drop p ++ cur.drop (p+s+(xs.drop p).length)).drop (p+r.length)=xs.drop p ++ cur.drop (p+s+(xs.drop p).length):=by
  rw [hs,List.append_assoc,List.drop_left' hlt]
 rw [e1,e2,← List.append_assoc,List.take_left'];rw [List.length_append,List.length_append,List.length_take,List.length_drop,hs];omega
theorem take_grow {α:Type} (xs r z:List α) (p s:Nat) (hs:r.length=s) (hp:p≤xs.length) (hz:xs.length - p+s≤z.length) :
  (((((xs.take p ++ z).take p) ++ r ++ ((xs.take p ++ z).drop (p+r.length))).take (p+s)) ++ xs.drop p ++ ((((xs.take p ++ z).take p) ++ r ++ ((xs.take p ++ z).drop (p+r.length))).drop (p+s+(xs.drop p).length))).take (xs.length+s)=xs.take p ++ r ++ xs.drop p:=by
 have hlt:(xs.take p).length=p:=by rw [List.length_take]; omega
 have e1:(xs.take p ++ z).take p=xs.take p:=List.take_left' hlt;rw [e1];have e2:(xs.take p ++ r ++ ((xs.take p ++ z).drop (p+r.length))).take (p+s)=xs.take p ++ r:=List.take_left' (by rw [List.length_append,hlt,hs]);rw [e2,List.take_left'];rw [List.length_append,List.length_append,hlt,List.length_drop,hs];omega
set_option maxRecDepth 100000 in
set_option maxHeartbeats 16000000 in
theorem insRoom_any (base g vb c i:Nat) (rows:List (List Value)) (r:List Value) (w:World) (ho:OwnS w base 75 6 (.slice (some ⟨g,0,none⟩) rows.length c) rows) (hi:i<rows.length) (hr:r.length=6) (hr1:∀u∈r,u.oneCell'=true) (hvb:w.heap[vb]?=some (.cells r.toArray 75 (0,0))) (hne:vb≠g) (hroom:rows.length+1≤c) :
  Calls Try.prog 79 #[.slice (some ⟨g,0,none⟩) rows.length c,.int .i64 (i:Int),.slice (some ⟨vb,0,none⟩) 1 1] w fun e w'=>∃v',e=.returned v'∧OwnS w' base 75 6 v' (rows.take i ++ [r] ++ rows.drop i)∧w.grownBy w' (some g):=by
 obtain ⟨hrw,hxl,hor⟩:=ho;rcases hor with ⟨h,-⟩ | ⟨g',c',cur,he,hbg,hg,hnc,hcm,hcs,hct⟩
 ·simp at h
 simp only [Value.slice.injEq,Option.some.injEq,Addr.mk.injEq] at he;obtain ⟨⟨rfl,-,-⟩,-,rfl⟩:=he;obtain ⟨n,hn⟩:∃n,rows.length=n:=⟨_,rfl⟩;obtain ⟨xs,hxs⟩:∃xs,rows.flatten=xs:=⟨_,rfl⟩;rw [hn,hxs] at hxl hct;rw [hn] at hi hnc hroom ⊢;have hx1:∀u∈xs,u.oneCell'=true:=fun u hu=>by
  rw [← hxs] at hu;obtain ⟨r2,h2,h3⟩:=List.mem_flatten.1 hu;exact (hrw r2 h2).2 u h3
 have hsz:(Try.prog.info? 75).map (·.size)=some 6:=by
  obtain ⟨i0,hi0,h0,h1,h2⟩:=info_parts Try.info_dn2;rw [hi0]; simp [h1]
 have hzz:∀w,(Go.sizeOf 75).run Try.prog w=.ok 6 w:=fun w=>by
  obtain ⟨i0,hi0,h0,h1,h2⟩:=info_parts Try.info_dn2;simp [Go.sizeOf,typeInfo,hi0,h1]
 have hu:Try.prog.underlying 37=some (.slice 75):=by kernel_rfl
 have hcell:∀j v,xs[j]?=some v→w.cell? ⟨g,j,none⟩=some v:=fun j v h=>by
  have hj:=(List.getElem?_eq_some_iff.1 h).1;rw [← hct,List.getElem?_take] at h;split at h
  ·rw [cell_of_row _ _ j _ _ _ hg]; simpa using h
  ·cases h
 have hrc:∀j v,r[j]?=some v→w.cell? ⟨vb,j,none⟩=some v:=fun j v h=>by rw [cell_of_row _ _ j _ _ _ hvb]; simpa using h
 have hdl:(xs.drop (i * 6)).length=(n - i) * 6:=by rw [List.length_drop,hxl,Nat.sub_mul]
 have hcl:cur.toList.length=c * 6:=by simpa using hcs
 obtain ⟨cur1,hcur1⟩:∃z:List Value,cur.toList.take ((i+1) * 6) ++ xs.drop (i * 6) ++ cur.toList.drop ((i+1) * 6+(xs.drop (i * 6)).length)=z:=⟨_,rfl⟩;have hc1l:cur1.length=c * 6:=by
  rw [← hcur1,List.length_append,List.length_append,List.length_take,hdl,List.length_drop,hcl];omega
 have hcp1:∀ty dc sc,(Builtin.copy_ #[37,37] ty #[.slice (some ⟨g,(i+1) * 6,none⟩) (n - i) dc,.slice (some ⟨g,i * 6,none⟩) (n+1 - i) sc]).run Try.prog w.drew=.ok (goInt ((n - i:Nat):Int)) (w.drew.setRow g cur1.toArray):=fun ty dc sc=>by
  have hm:Nat.min (n+1 - i) (n - i)=n - i:=by simp only [Nat.min_def]; split <;> omega
  have h:=run_copy_wide w.drew 37 37 ty 75 g ((i+1) * 6) (n - i) dc 6 ⟨g,i * 6,none⟩ (n+1 - i) sc cur _ (xs.drop (i * 6)) hu hsz hg (by rw [hdl,hm])
   (fun j v hj=>by rw [Addr.add_lit]; exact hcell (i * 6+j) v (by rwa [List.getElem?_drop] at hj)) (by rw [hdl,hcs]; omega) (fun v hv=>hx1 v (List.mem_of_mem_drop hv))
  rw [hm,hcur1] at h;exact h
 have hg1:(w.drew.setRow g cur1.toArray).heap[g]?=some (.cells cur1.toArray 75 (0,0)):=setRow_heap _ _ _ _ _ (0,0) hg;obtain ⟨W1,hW1⟩:∃W1,w.drew.setRow g cur1.toArray=W1:=⟨_,rfl⟩;have hvb1:W1.heap[vb]?=some (.cells r.toArray 75 (0,0)):=by rw [← hW1]; exact (setRow_other _ _ _ _ hne).trans hvb
 have hgr1:w.grownBy W1 (some g):=by rw [← hW1]; exact ⟨rfl,rfl,rfl,(row_grown w.drew g cur1.toArray).size,(row_grown w.drew g cur1.toArray).block⟩
 rw [hW1] at hcp1 hg1;have hcp2:∀(W:World),W.heap=W1.heap→∀ty dc,(Builtin.copy_ #[37,37] ty #[.slice (some ⟨g,i * 6,none⟩) (n+1 - i) dc,.slice (some ⟨vb,0,none⟩) 1 1]).run Try.prog W=.ok (goInt 1) (W.setRow g (cur1.take (i * 6) ++ r ++ cur1.drop (i * 6+r.length)).toArray):=fun W hWh ty dc=>by
  have hm:Nat.min 1 (n+1 - i)=1:=by simp only [Nat.min_def]; split <;> omega
  have h:=run_copy_wide W 37 37 ty 75 g (i * 6) (n+1 - i) dc 6 ⟨vb,0,none⟩ 1 1 cur1.toArray _ r hu hsz (by rw [hWh]; exact hg1) (by rw [hr,hm])
   (fun j v hj=>by rw [Addr.add_lit,cell_of_row _ _ (0+j) _ _ _ (by rw [hWh]; exact hvb1)]; simpa using hj) (by rw [hr]; simp; omega) hr1
  rw [hm] at h;exact h
 have hov:∀lb cb,(callFunc 99 #[.slice (some ⟨vb,0,none⟩) 1 1,.slice (some ⟨g,(i+1) * 6,none⟩) lb cb]).run Try.prog w=.ok (.value (.bool false)) w:=fun lb cb=>by
  rw [run_callFunc_extern Try.func99 (by kernel_rfl) (by kernel_rfl) (by kernel_rfl) (e:=Extern.SlicesOverlaps.overlaps #[37,37] #[4]) (by kernel_rfl),
   Lib.run_overlaps_apart w 37 4 75 hu 6 hzz ⟨vb,0,none⟩ ⟨g,(i+1) * 6,none⟩ 1 1 lb cb hne 75 75 6 (c * 6) (by simp [World.shape?,hvb,hr]) (by simp [World.shape?,hg,hcs]) (by omega) (by simp [World.frozen?,hvb]) (by simp [World.frozen?,hvb])]
  rfl
 obtain ⟨W2,hW2⟩:∃W2,W1.setRow g (cur1.take (i * 6) ++ r ++ cur1.drop (i * 6+r.length)).toArray=W2:=⟨_,rfl⟩;have hg2:W2.heap[g]?=some (.cells (cur1.take (i * 6) ++ r ++ cur1.drop (i * 6+r.length)).toArray 75 (0,0)):=by rw [← hW2]; exact setRow_heap _ _ _ _ _ (0,0) hg1
 have hgr2:w.grownBy W2 (some g):=by rw [← hW2]; exact grownBy_trans hgr1 (row_grown W1 g _)
 have hfl:(rows.take i ++ [r] ++ rows.drop i).flatten=xs.take (i * 6) ++ r ++ xs.drop (i * 6):=by
  have h1:(rows.take i).flatten.length=i * 6:=by rw [flatS_length (s:=6) _ (fun q hq=>hrw q (List.mem_of_mem_take hq)),List.length_take]; congr 1; omega
  have h2:xs=(rows.take i).flatten ++ (rows.drop i).flatten:=by rw [← hxs,← List.flatten_append,List.take_append_drop]
  rw [h2,List.take_left' h1,List.drop_left' h1];simp
 have hown:OwnS W2 base 75 6 (.slice (some ⟨g,0,none⟩) (n+1) c) (rows.take i ++ [r] ++ rows.drop i):=by
  have hlen:(rows.take i ++ [r] ++ rows.drop i).length=n+1:=by simp; omega
  refine ⟨fun q hq=>?_,?_⟩
  ·rcases List.mem_append.1 hq with h | h
   ·rcases List.mem_append.1 h with h | h
    ·exact hrw q (List.mem_of_mem_take h)
    ·rw [List.mem_singleton.1 h]; exact ⟨hr,hr1⟩
   ·exact hrw q (List.mem_of_mem_drop h)
  ·rw [hlen,hfl]
   refine ⟨by simp [hr]; omega,.inr ⟨g,c,_,rfl,hbg,hg2,hroom,hcm,?_,?_⟩⟩
   ·simp [hr,hc1l]; omega
   ·have h:=take_mid xs r cur.toList (i * 6) (c * 6) 6 hr (by omega) (by omega) (by rw [hxl]; exact hct) (by omega)
    rw [show i * 6+6=(i+1) * 6 by omega,hcur1,hxl,show n * 6+6=(n+1) * 6 by omega] at h;simpa using h
 obtain ⟨TQ,hTQ⟩:∃z:Ending→World→Prop,(fun e w'=>∃v',e=.returned v'∧OwnS w' base 75 6 v' (rows.take i ++ [r] ++ rows.drop i)∧w.grownBy w' (some g))=z:=⟨_,rfl⟩;have HT:Hid (TQ (.returned (.slice (some ⟨g,0,none⟩) (n+1) c)) W2):=by rw [← hTQ]; exact ⟨_,rfl,hown,hgr2⟩
 have HC2:=Lib.hid hcp2;have HW2:=Lib.hid hW2;rw [hTQ];have hw1:IntKind.i64.wrap ((i:Int)+1)=(i:Int)+1:=by rw [IntKind.wrap_i64]; unfold maxLen at hcm; omega
 have hw2:IntKind.i64.wrap ((n:Int)+1)=(n:Int)+1:=by rw [IntKind.wrap_i64]; unfold maxLen at hcm; omega
 have hz2:¬((i:Int)=(n:Int)):=by omega
 have hin:i≤n:=by omega
 have mixed:Try.prog.follows .mixedOrders=true:=by kernel_rfl
 have hb1:(0:Int)≤(i:Int)+1:=by omega
 have htn:((i:Int)+1).toNat=i+1:=by omega
 have hb2:¬(c=i+1):=by omega
 have hb3:(i:Int)≤(n:Int)+1:=by omega
 have hb4:¬(c=i):=by omega
 have HW1:=Lib.hid hW1;have HCP1:=Lib.hid hcp1;clear hown hgr2 hfl hg2 hgr1 hvb1 hg1 hcp1 hcp2 hc1l hcur1 hcl hdl hrc hcell hu hzz hsz hx1 hct hxl hxs hrw hg hcs hcm hTQ hW2 hW1 hvb hr1 hn hbg;go_enter Try.func79,Try.ntmps79;go_wp2_with (simp only [hov]);have hcp1:=HCP1.out;go_region_law_o (refine step_copy_runI rfl _ _ 37 37 rfl _ _ (by simp [Act.eval,Act.put]) (by simp [Act.eval,Act.put]) (hcp1 _ _ _) ?_);clear hcp1;have hc2:=HC2.out _ rfl;rw [HW2.out] at hc2;go_wp2_with fail;exact HT.out
set_option maxRecDepth 100000 in
set_option maxHeartbeats 16000000 in
theorem insGrow_any (base g vb c i:Nat) (rows:List (List Value)) (r:List Value) (w:World) (ho:OwnS w base 75 6 (.slice (some ⟨g,0,none⟩) rows.length c) rows) (hi:i<rows.length) (hr:r.length=6) (hr1:∀u∈r,u.oneCell'=true) (hvb:w.heap[vb]?=some (.cells r.toArray 75 (0,0))) (hroom:¬rows.length+1≤c) (hbw:base≤w.heap.size) (hsm:rows.length≤100000) :
  Calls Try.prog 79 #[.slice (some ⟨g,0,none⟩) rows.length c,.int .i64 (i:Int),.slice (some ⟨vb,0,none⟩) 1 1] w fun e w'=>∃v',e=.returned v'∧OwnS w' base 75 6 v' (rows.take i ++ [r] ++ rows.drop i)∧w.grownBy w' (some g):=by
 obtain ⟨hrw,hxl,hor⟩:=ho;rcases hor with ⟨h,-⟩ | ⟨g',c',cur,he,hbg,hg,hnc,hcm,hcs,hct⟩
 ·simp at h
 simp only [Value.slice.injEq,Option.some.injEq,Addr.mk.injEq] at he;obtain ⟨⟨rfl,-,-⟩,-,rfl⟩:=he;obtain ⟨n,hn⟩:∃n,rows.length=n:=⟨_,rfl⟩;obtain ⟨xs,hxs⟩:∃xs,rows.flatten=xs:=⟨_,rfl⟩;rw [hn,hxs] at hxl hct;rw [hn] at hi hnc hroom hsm ⊢;have hcn:c=n:=by omega
 subst hcn;have hx1:∀u∈xs,u.oneCell'=true:=fun u hu=>by
  rw [← hxs] at hu;obtain ⟨r2,h2,h3⟩:=List.mem_flatten.1 hu;exact (hrw r2 h2).2 u h3
 obtain ⟨i0,hi0,hz0,hz1,hz2⟩:=info_parts Try.info_dn2;have hsz:(Try.prog.info? 75).map (·.size)=some 6:=by rw [hi0]; simp [hz1]
 have hu:Try.prog.underlying 37=some (.slice 75):=by kernel_rfl
 have hui:Try.prog.underlying 3=some (.int .i64):=by kernel_rfl
 have hcell:∀j v,xs[j]?=some v→w.cell? ⟨g,j,none⟩=some v:=fun j v h=>by
  have hj:=(List.getElem?_eq_some_iff.1 h).1;rw [← hct,List.getElem?_take] at h;split at h
  ·rw [cell_of_row _ _ j _ _ _ hg]; simpa using h
  ·cases h
 have hgw:g<w.heap.size:=(Array.getElem?_eq_some_iff.1 hg).1;have hvw:vb<w.heap.size:=(Array.getElem?_eq_some_iff.1 hvb).1;have hdl:(xs.drop (i * 6)).length=(c - i) * 6:=by rw [List.length_drop,hxl,Nat.sub_mul]
 have hold:(Builtin.firstCells i0.size i (.slice (some ⟨g,0,none⟩) i c)).run Try.prog w.drew=.ok (xs.take (i * 6)).toArray w.drew:=by
  rw [hz1];exact run_firstCells_some w.drew 6 i ⟨g,0,none⟩ i c (xs.take (i * 6)) (by rw [List.length_take]; omega) (fun j v hj=>by
   rw [Addr.add_lit];rw [List.getElem?_take] at hj;split at hj
   ·rw [Nat.zero_add]; exact hcell j v hj
   ·cases hj)
 obtain ⟨G,hG⟩:∃G,G=grownCap w (c+1) c 75:=⟨_,rfl⟩;obtain ⟨Z,hZ⟩:∃Z:Array Value,Z=Builtin.zeroCells (Value.agg #[.int .i64 0,.int .i64 0,.int .i64 0,.int .u64 0,.bool false,.int .i64 0]).cells (c+1 - i) ++ Builtin.zeroCells (Value.agg #[.int .i64 0,.int .i64 0,.int .i64 0,.int .u64 0,.bool false,.int .i64 0]).cells (G - (c+1)):=⟨_,rfl⟩;have hGn:c+1≤G:=by rw [hG]; exact grownCap_ge w _ _ _
 have hGm:G≤maxLen:=by rw [hG]; exact grownCap_le_maxLen w _ _ _ (by unfold maxLen; omega)
 have hZl:Z.size=(G - i) * 6:=by
  rw [hZ];simp [Builtin.zeroCells,Value.cells];omega
 obtain ⟨N,hN⟩:∃N,w.heap.size=N:=⟨_,rfl⟩;have hrz:∀ty,(Builtin.append_ #[37,3] ty #[.slice (some ⟨g,0,none⟩) i c,.int .i64 ((c:Int)+1 - (i:Int))]).run Try.prog w =
   .ok (.slice (some ⟨N,0,none⟩) (c+1) G) (w.drew.alloc (.cells ((xs.take (i * 6)) ++ Z.toList).toArray 75)):=fun ty=>by
  have h:=Lib.run_append_grow_zeros w 37 3 ty 75 i0 _ .i64 .i64 hu hui hi0 hz0 (some ⟨g,0,none⟩) i c (xs.take (i * 6)) hold (c+1 - i) (by omega) (by omega) (by omega) (by omega) (by rw [hz2]; omega) (by rw [hz2,show i+(c+1 - i)=c+1 by omega]; exact growslice_fits (by omega) (by omega));rw [show i+(c+1 - i)=c+1 by omega,← hG,hN] at h;rw [show (c:Int)+1 - (i:Int)=((c+1 - i:Nat):Int) by omega,h,hZ,← hN];congr 3;simp [Array.append_assoc]
 obtain ⟨W0,hW0⟩:∃W0,w.drew.alloc (.cells ((xs.take (i * 6)) ++ Z.toList).toArray 75)=W0:=⟨_,rfl⟩;have hb0:Below w.heap.size w W0:=by rw [← hW0]; exact ⟨rfl,rfl,rfl,(below_new (Below.refl w.drew.heap.size w.drew) _).size,(below_new (Below.refl w.drew.heap.size w.drew) _).block⟩
 have h0:W0.heap[N]?=some (.cells ((xs.take (i * 6)) ++ Z.toList).toArray 75 (0,0)):=by rw [← hW0,← hN]; exact heap_alloc_new w.drew _
 rw [hW0] at hrz;have hvb0:W0.heap[vb]?=some (.cells r.toArray 75 (0,0)):=(hb0.block _ hvw).trans hvb;have hg0:W0.heap[g]?=some (.cells cur 75 (0,0)):=(hb0.block _ hgw).trans hg;have htl:(xs.take (i * 6)).length=i * 6:=by rw [List.length_take]; omega
 obtain ⟨cur1,hcur1⟩:∃z:List Value,((xs.take (i * 6)) ++ Z.toList).take (i * 6) ++ r ++ ((xs.take (i * 6)) ++ Z.toList).drop (i * 6+r.length)=z:=⟨_,rfl⟩;have hc1l:cur1.length=G * 6:=by
  rw [← hcur1];simp [htl,hr,hZl];omega
 have hcpA:∀(W:World),W.heap=W0.heap→∀ty dc,(Builtin.copy_ #[37,37] ty #[.slice (some ⟨N,i * 6,none⟩) (c+1 - i) dc,.slice (some ⟨vb,0,none⟩) 1 1]).run Try.prog W=.ok (goInt 1) (W.setRow N cur1.toArray):=fun W hWh ty dc=>by
  have hm:Nat.min 1 (c+1 - i)=1:=by simp only [Nat.min_def]; split <;> omega
  have h:=run_copy_wide W 37 37 ty 75 N (i * 6) (c+1 - i) dc 6 ⟨vb,0,none⟩ 1 1 _ _ r hu hsz (by rw [hWh]; exact h0) (by rw [hr,hm])
   (fun j v hj=>by rw [Addr.add_lit,cell_of_row _ _ (0+j) _ _ _ (by rw [hWh]; exact hvb0)]; simpa using hj) (by rw [hr]; simp [htl,hZl]; omega) hr1
  rw [hm,hcur1] at h;exact h
 obtain ⟨cur2,hcur2⟩:∃z:List Value,cur1.take ((i+1) * 6) ++ xs.drop (i * 6) ++ cur1.drop ((i+1) * 6+(xs.drop (i * 6)).length)=z:=⟨_,rfl⟩;have hc2l:cur2.length=G * 6:=by
  rw [← hcur2,List.length_append,List.length_append,List.length_take,hdl,List.length_drop,hc1l];omega
 have hcpB:∀(W:World),W.heap=(W0.setRow N cur1.toArray).heap→∀ty dc sc,(Builtin.copy_ #[37,37] ty #[.slice (some ⟨N,(i+1) * 6,none⟩) (c - i) dc,.slice (some ⟨g,i * 6,none⟩) (c - i) sc]).run Try.prog W=.ok (goInt ((c - i:Nat):Int)) (W.setRow N cur2.toArray):=fun W hWh ty dc sc=>by
  have hm:Nat.min (c - i) (c - i)=c - i:=Nat.min_self _;have hgW:W.heap[g]?=some (.cells cur 75 (0,0)):=by rw [hWh]; exact (setRow_other _ _ _ _ (by omega)).trans hg0
  have h:=run_copy_wide W 37 37 ty 75 N ((i+1) * 6) (c - i) dc 6 ⟨g,i * 6,none⟩ (c - i) sc _ _ (xs.drop (i * 6)) hu hsz (by rw [hWh]; exact setRow_heap _ _ _ _ _ (0,0) h0) (by rw [hdl,hm])
   (fun j v hj=>by
    rw [List.getElem?_drop,← hct,List.getElem?_take] at hj;split at hj
    ·rw [Addr.add_lit,cell_of_row _ _ (i * 6+j) _ _ _ hgW]; simpa using hj
    ·cases hj) (by rw [hdl]; simp [hc1l]; omega) (fun v hv=>hx1 v (List.mem_of_mem_drop hv))
  rw [hm,List.toList_toArray,hcur2] at h;exact h
 have hfl:(rows.take i ++ [r] ++ rows.drop i).flatten=xs.take (i * 6) ++ r ++ xs.drop (i * 6):=by
  have h1:(rows.take i).flatten.length=i * 6:=by rw [flatS_length (s:=6) _ (fun q hq=>hrw q (List.mem_of_mem_take hq)),List.length_take]; congr 1; omega
  have h2:xs=(rows.take i).flatten ++ (rows.drop i).flatten:=by rw [← hxs,← List.flatten_append,List.take_append_drop]
  rw [h2,List.take_left' h1,List.drop_left' h1];simp
 have hown:∀W:World,W.heap[N]?=some (.cells cur2.toArray 75 (0,0))→OwnS W base 75 6 (.slice (some ⟨N,0,none⟩) (c+1) G) (rows.take i ++ [r] ++ rows.drop i):=fun W hWN=>by
  have hlen:(rows.take i ++ [r] ++ rows.drop i).length=c+1:=by simp; omega
  refine ⟨fun q hq=>?_,?_⟩
  ·rcases List.mem_append.1 hq with h | h
   ·rcases List.mem_append.1 h with h | h
    ·exact hrw q (List.mem_of_mem_take h)
    ·rw [List.mem_singleton.1 h]; exact ⟨hr,hr1⟩
   ·exact hrw q (List.mem_of_mem_drop h)
  ·rw [hlen,hfl]
   refine ⟨by simp [hr]; omega,.inr ⟨N,G,_,rfl,by omega,hWN,hGn,hGm,by simp [hc2l],?_⟩⟩;have h:=take_grow xs r Z.toList (i * 6) 6 hr (by omega) (by simp [hZl]; omega);rw [hcur1,show i * 6+6=(i+1) * 6 by omega,hcur2,hxl,show c * 6+6=(c+1) * 6 by omega] at h;simpa using h
 obtain ⟨TQ,hTQ⟩:∃z:Ending→World→Prop,(fun e w'=>∃v',e=.returned v'∧OwnS w' base 75 6 v' (rows.take i ++ [r] ++ rows.drop i)∧w.grownBy w' (some g))=z:=⟨_,rfl⟩;have HT:Hid (∀W:World,W.os=w.os→W.tape=w.tape→W.output=w.output→W.heap=((W0.setRow N cur1.toArray).setRow N cur2.toArray).heap→TQ (.returned (.slice (some ⟨N,0,none⟩) (c+1) G)) W):=fun W ha hb hc hd=>by
  rw [← hTQ];have hBB:=row_below (row_below hb0 (show w.heap.size≤N by omega) cur1.toArray) (show w.heap.size≤N by omega) cur2.toArray;exact ⟨_,rfl,hown W (by rw [hd]; exact setRow_heap _ _ _ _ _ (0,0) (setRow_heap _ _ _ _ _ (0,0) h0)),ha,hb,hc,by rw [hd]; exact hBB.size,fun k hk hk2=>by rw [hd]; exact hBB.block k hk⟩
 have HOS:Hid (W0.os=w.os∧W0.tape=w.tape∧W0.output=w.output):=⟨hb0.os,hb0.tape,hb0.output⟩;have HA:=Lib.hid hcpA;have HB2:=Lib.hid hcpB;have HZ:=Lib.hid hrz;rw [hTQ];have hw1:IntKind.i64.wrap ((i:Int)+1)=(i:Int)+1:=by rw [IntKind.wrap_i64]; omega
 have hw2:IntKind.i64.wrap ((c:Int)+1)=(c:Int)+1:=by rw [IntKind.wrap_i64]; omega
 have hw3:IntKind.i64.wrap ((c:Int)+1 - (i:Int))=(c:Int)+1 - (i:Int):=by rw [IntKind.wrap_i64]; omega
 have hzz2:¬((i:Int)=(c:Int)):=by omega
 have hin:i≤c:=by omega
 have mixed:Try.prog.follows .mixedOrders=true:=by kernel_rfl
 have hb1:(0:Int)≤(i:Int)+1:=by omega
 have htn:((i:Int)+1).toNat=i+1:=by omega
 have hb2:¬(G=i+1):=by omega
 have hb3:(i:Int)≤(c:Int)+1:=by omega
 have hb4:¬(G=i):=by omega
 have hb5:¬(c=i):=by omega
 have hW1:(W0.setRow N cur1.toArray).heap=(W0.setRow N cur1.toArray).heap:=rfl;clear hown hfl hcpA hcpB hc2l hcur2 hc1l hcur1 htl hvb0 hg0 h0 hb0 hW0 hrz hZl hGm hZ hG hold hdl hcell hu hui hsz hx1 hct hxl hxs hrw hg hcs hcm hTQ hvb hr1 hn hbg hi0 hz0 hz1 hz2 hN hW1;go_enter Try.func79,Try.ntmps79;have hcA:=HA.out _ rfl;go_wp2_with (at_builtin; refine Lib.wpList_append_run _ rfl _ _ _ _ rfl _ _ rfl rfl _ _ (HZ.out _) ?_);trace_state
 have hcB:=HB2.out (W0.setRow N cur1.toArray).drew rfl;go_region_law_o (refine step_copy_runI rfl _ _ 37 37 rfl _ _ (by simp [Act.eval,Act.put]) (by simp [Act.eval,Act.put]) (hcB _ _ _) ?_);obtain ⟨q1,q2,q3⟩:=HOS.out;have HF:=Lib.hid (HT.out ((W0.setRow N cur1.toArray).drew.setRow N cur2.toArray) q1 q2 q3 rfl);clear hcA hcB q1 q2 q3;go_wp2_with fail;exact HF.out
def Asc (l:List DoneM):Prop:=l.Pairwise fun x y=>x.thr<y.thr
theorem Asc.nil:Asc []:=List.Pairwise.nil
theorem Asc.one (x:DoneM):Asc [x]:=List.pairwise_singleton _ _
theorem Asc.lt {l:List DoneM} (h:Asc l) {i j:Nat} (hij:i<j) (hj:j<l.length):(l.getD i doneZ).thr<(l.getD j doneZ).thr:=by
 rw [getD_lt (Nat.lt_trans hij hj),getD_lt hj];exact List.pairwise_iff_getElem.1 h i j _ hj hij
theorem Asc.le {l:List DoneM} (h:Asc l) (i j:Nat) (hij:i≤j) (hj:j<l.length):(l.getD i doneZ).thr≤(l.getD j doneZ).thr:=by
 rcases Nat.lt_or_eq_of_le hij with h1 | rfl
 ·exact Int.le_of_lt (h.lt h1 hj)
 ·exact Int.le_refl _
theorem addK_spec {l:List DoneM} (h:Asc l) (t:Int):∀k,k≤l.length→(∀j,j<addK l t k→(l.getD j doneZ).thr≤t)∧(∀j,addK l t k≤j→j<k→t<(l.getD j doneZ).thr)
 | 0,_=>⟨fun j hj=>by simp [addK] at hj,fun j _ hj=>by omega⟩
 | k+1,hk=>by
  have ih:=addK_spec h t k (by omega);unfold addK;split
  ·next hlt=>
   refine ⟨ih.1,fun j h1 h2=>?_⟩;rcases Nat.lt_or_ge j k with h3 | h3
   ·exact ih.2 j h1 h3
   ·rw [show j=k by omega]; exact hlt
  ·next hge=>
   refine ⟨fun j hj=>?_,fun j h1 h2=>by omega⟩;have:=h.le j k (by omega) (by omega);omega
theorem addK_eq {l:List DoneM} (h:Asc l) {t:Int} {p:Nat} (hp:p≤l.length) (h1:∀j,j<p→(l.getD j doneZ).thr<t) (h2:∀j,p≤j→j<l.length→t≤(l.getD j doneZ).thr) (hn:∀x∈l,x.thr≠t):addK l t l.length=p:=by
 have hs:=addK_spec h t l.length (Nat.le_refl _);have hle:=addK_le l t l.length;rcases Nat.lt_trichotomy (addK l t l.length) p with hlt | heq | hgt
 ·have a:=hs.2 _ (Nat.le_refl _) (by omega)
  have b:=h1 _ hlt;omega
 ·exact heq
 ·have a:=hs.1 p hgt
  have b:=h2 p (Nat.le_refl _) (by omega);have c:=hn l[p] (List.getElem_mem _);rw [getD_lt (by omega)] at a b;omega
theorem addE_asc {l:List DoneM} (h:Asc l) {t:Int} (r:ResM) (hn:∀x∈l,x.thr≠t):Asc (addE l t r):=by
 have hs:=addK_spec h t l.length (Nat.le_refl _);have hle:=addK_le l t l.length;have hT:∀x∈l.take (addK l t l.length),x.thr<t:=fun x hx=>by
  obtain ⟨j,hj,rfl⟩:=List.mem_iff_getElem.1 hx;rw [List.length_take] at hj;have a:=hs.1 j (by omega);have b:=hn l[j] (List.getElem_mem _);rw [getD_lt (by omega)] at a;rw [List.getElem_take];omega
 have hD:∀x∈l.drop (addK l t l.length),t<x.thr:=fun x hx=>by
  obtain ⟨j,hj,rfl⟩:=List.mem_iff_getElem.1 hx;rw [List.length_drop] at hj;have a:=hs.2 (addK l t l.length+j) (by omega) (by omega);rw [getD_lt (by omega)] at a;rw [List.getElem_drop];exact a
 unfold addE Asc;rw [List.pairwise_append,List.pairwise_append];refine ⟨⟨List.Pairwise.sublist (List.take_sublist _ _) h,List.pairwise_singleton _ _,fun x hx y hy=>?_⟩,List.Pairwise.sublist (List.drop_sublist _ _) h,fun x hx y hy=>?_⟩
 ·rw [List.mem_singleton.1 hy]; exact hT x hx
 ·rcases List.mem_append.1 hx with hx | hx
  ·exact Int.lt_trans (hT x hx) (hD y hy)
  ·rw [List.mem_singleton.1 hx]; exact hD y hy
theorem addE_mem {l:List DoneM} {t:Int} {r:ResM} {x:DoneM} (h:x∈addE l t r):x=⟨t,r⟩∨x∈l:=by
 unfold addE at h;rcases List.mem_append.1 h with h | h
 ·rcases List.mem_append.1 h with h | h
  ·exact .inr (List.mem_of_mem_take h)
  ·exact .inl (List.mem_singleton.1 h)
 ·exact .inr (List.mem_of_mem_drop h)
theorem ins_any (base vb i:Nat) (v:Value) (rows:List (List Value)) (r:List Value) (w:World) (ho:OwnS w base 75 6 v rows) (hi:i≤rows.length) (hr:r.length=6) (hr1:∀u∈r,u.oneCell'=true) (hvb:w.heap[vb]?=some (.cells r.toArray 75 (0,0))) (hne:v.ownBlock≠some vb) (hsm:rows.length≤100000) (hbw:base≤w.heap.size) :
  Calls Try.prog 79 #[v,.int .i64 (i:Int),.slice (some ⟨vb,0,none⟩) 1 1] w fun e w'=>∃v',e=.returned v'∧OwnS w' base 75 6 v' (rows.take i ++ [r] ++ rows.drop i)∧w.grownBy w' v.ownBlock:=by
 rcases Nat.lt_or_eq_of_le hi with hlt | rfl
 ·obtain ⟨g,c,rfl,h1,h2,h3⟩:=ho.open (by omega)
  by_cases hroom:rows.length+1≤c
  ·exact insRoom_any base g vb c i rows r w ho hlt hr hr1 hvb (fun e=>hne (by rw [e]; rfl)) hroom
  ·exact insGrow_any base g vb c i rows r w ho hlt hr hr1 hvb hroom hbw hsm
 ·rw [List.take_length,List.drop_length,List.append_nil]
  exact insEnd_any base v _ rows [r] w ho (SlS.row1 hvb hr hr1) hsm (by simp) (by simp) hbw
set_option maxRecDepth 100000 in
set_option maxHeartbeats 16000000 in
theorem with_any (base:Nat) (v:Value) (l:List DoneM) (t:Int) (r:ResM) (w:World) (ho:OwnS w base 75 6 v (doneRows l)) (hl:l.length≤10000) (hs:Asc l) (hnt:∀x∈l,x.thr≠t) (hb:base≤w.heap.size):Calls Try.prog 50 #[v,.int .i64 t,resW r] w fun e w'=>∃v',e=.returned v'∧OwnS w' base 75 6 v' (doneRows (addE l t r))∧w.grownBy w' v.ownBlock:=by
 have HO:=Lib.hid ho;have hll:=doneRows_length l;obtain ⟨a,c,rfl⟩:=ho.len;rw [hll];rw [hll] at HO;have TB:=Lib.hid fun w' (hb:Below w.heap.size w w')=>bsF_any (.slice a l.length c) l t w' ((HO.out.below hb).sls (by rw [hll]; omega)) (by omega) (fun i j=>hs.le i j);have HOL0:=ho.lt;rw [hll] at HOL0;have HOL:=Lib.hid HOL0;clear HOL0;have TI:=Lib.hid fun w' vb i r2 (hb2:Below w.heap.size w w') (hi:i≤l.length) h2 h3 h4 (h5:w.heap.size≤vb)=>ins_any base vb i (.slice a l.length c) (doneRows l) r2 w' (HO.out.below hb2) (by rw [hll]; exact hi) h2 h3 h4 (fun e=>by have:=(HOL.out vb e).2; omega) (by rw [hll]; omega) (Nat.le_trans hb hb2.size);obtain ⟨k1,k2,k3,k4,k5⟩:=r;unfold resW;dsimp only;obtain ⟨TQ,hTQ⟩:∃z:Ending→World→Prop,(fun e w'=>∃v',e=.returned v'∧OwnS w' base 75 6 v' (doneRows (addE l t ⟨k1,k2,k3,k4,k5⟩))∧w.grownBy w' (Value.slice a l.length c).ownBlock)=z:=⟨_,rfl⟩;have HT:Hid (∀w1 w2 v' (i:Nat),i≤l.length→(∀j,j<i→(l.getD j doneZ).thr<t)→(∀j,i≤j→j<l.length→t≤(l.getD j doneZ).thr)→Below w.heap.size w w1→w1.grownBy w2 (Value.slice a l.length c).ownBlock→OwnS w2 base 75 6 v' ((doneRows l).take i ++ [[.int .i64 t,.int .i64 k1,.int .i64 k2,.int .u64 k3,.bool k4,.int .i64 k5]] ++ (doneRows l).drop i)→TQ (.returned v') w2):=fun w1 w2 v' i hi h1 h2 h3 h4 h5=>by rw [← hTQ]; exact ⟨_,rfl,by rw [addE_rows,addK_eq hs hi h1 h2 hnt]; exact h5,grownBy_trans (grown_belowD h3) h4⟩
 rw [hTQ];obtain ⟨n,hn⟩:∃z,l.length=z:=⟨_,rfl⟩;have HN:=Lib.hid hn;rw [hn] at TB TI hl ⊢;rw [hn] at HT;clear ho hs hnt hb hn hll hTQ HO HOL;obtain ⟨W,hW,HB,R0,hz⟩:=one_new w (.cells #[.int .i64 k1,.int .i64 k2,.int .u64 k3,.bool k4,.int .i64 k5] 73);have HW:=Lib.hid hW;clear hW;go_enter Try.func50,Try.ntmps50;go_upto_region 1 with fail
 rw [HW.out];clear HW;obtain ⟨x0_0,x0_1,x0_2,x0_3,x0_4⟩:=rowc5s R0.out;go_wp2_with fail;refine (TB.out _ HB.out).mono ?_;rintro e w1 ⟨i,f,rfl,hi,hi1,hi2,hb1⟩;rw [HN.out] at hi;have HI1:=Lib.hid hi1;have HI2:=Lib.hid hi2;have R1:=Lib.hid (row_below3 hb1 R0.out);have HB1:=Lib.hid (below_then HB.out hb1);clear x0_0 x0_1 x0_2 x0_3 x0_4 TB hi1 hi2 hb1;obtain ⟨x0,x1,x2,x3,x4⟩:=rowc5s R1.out;have hbn:Below w1.heap.size w1 (w1.alloc (.cells #[.int .i64 t,.int .i64 k1,.int .i64 k2,.int .u64 k3,.bool k4,.int .i64 k5] 75)):=below_new (Below.refl _ _) _;have HBn:=Lib.hid (below_then HB1.out hbn);have HVB:Hid ((w1.alloc (.cells #[.int .i64 t,.int .i64 k1,.int .i64 k2,.int .u64 k3,.bool k4,.int .i64 k5] 75)).heap[w1.heap.size]?=some (.cells #[.int .i64 t,.int .i64 k1,.int .i64 k2,.int .u64 k3,.bool k4,.int .i64 k5] 75 (0,0))):=heap_alloc_new _ _;have hws:w.heap.size≤w1.heap.size:=HB1.out.size;clear hbn;go_wp2_with fail;refine (TI.out _ _ i [.int .i64 t,.int .i64 k1,.int .i64 k2,.int .u64 k3,.bool k4,.int .i64 k5] HBn.out hi rfl (by intro u hu; simp only [List.mem_cons,List.not_mem_nil,or_false] at hu; rcases hu with rfl | rfl | rfl | rfl | rfl | rfl <;> rfl) HVB.out hws).mono ?_;rintro e w2 ⟨v',rfl,ho2,hg2⟩;have HF:=Lib.hid (HT.out _ _ _ i hi HI1.out (fun j h1 h2=>HI2.out j h1 (by rw [HN.out]; exact h2)) HBn.out hg2 ho2);clear HT ho2 hg2;go_wp2_with fail;exact HF.out
theorem addE_nil (t:Int) (r:ResM):addE [] t r=[⟨t,r⟩]:=rfl
theorem below_none {a b:World} (h:a.grownBy b none):Below a.heap.size a b:=⟨h.os,h.tape,h.output,h.size,fun j hj=>h.block j hj (by simp)⟩
theorem with0_any (t:Int) (r:ResM) (w:World):Calls Try.prog 50 #[.slice none 0 0,.int .i64 t,resW r] w fun e w'=>∃g c,e=.returned (.slice (some ⟨g,0,none⟩) 1 c)∧w.heap.size≤g∧g<w'.heap.size∧OwnS w' w.heap.size 75 6 (.slice (some ⟨g,0,none⟩) 1 c) (doneRows [⟨t,r⟩])∧Below w.heap.size w w':=by
 refine (with_any w.heap.size (.slice none 0 0) [] t r w (OwnS.nil _ _ _ _) (by simp) Asc.nil (by simp) (Nat.le_refl _)).mono ?_;rintro e w' ⟨v',rfl,ho,hg⟩;rw [addE_nil] at ho;obtain ⟨g,c,rfl,h1,h2,-⟩:=ho.open (by simp [doneRows]);exact ⟨g,c,rfl,h1,h2,ho,below_none hg⟩
theorem Asc.ext:∀{l m:List DoneM},Asc l→Asc m→(∀x,x∈l↔x∈m)→l=m
 | [],[],_,_,_=>rfl
 | [],y :: m,_,_,h=>absurd ((h y).2 (List.mem_cons_self ..)) (by simp)
 | x :: l,[],_,_,h=>absurd ((h x).1 (List.mem_cons_self ..)) (by simp)
 | x :: l,y :: m,h1,h2,h=>by
  have a1:=List.pairwise_cons.1 h1;have a2:=List.pairwise_cons.1 h2;have hxy:x=y:=by
   rcases List.mem_cons.1 ((h x).1 (List.mem_cons_self ..)) with e | hx
   ·exact e
   ·rcases List.mem_cons.1 ((h y).2 (List.mem_cons_self ..)) with e | hy
    ·exact e.symm
    ·have:=a1.1 y hy
     have:=a2.1 x hx;omega
  subst hxy;congr 1;refine Asc.ext a1.2 a2.2 fun z=>⟨fun hz=>?_,fun hz=>?_⟩
  ·rcases List.mem_cons.1 ((h z).1 (List.mem_cons_of_mem _ hz)) with e | h3
   ·subst e
    exact absurd (a1.1 z hz) (by omega)
   ·exact h3
  ·rcases List.mem_cons.1 ((h z).2 (List.mem_cons_of_mem _ hz)) with e | h3
   ·subst e
    exact absurd (a2.1 z hz) (by omega)
   ·exact h3
theorem addE_memI {l:List DoneM} {t:Int} {r:ResM} {x:DoneM}:x∈addE l t r↔x=⟨t,r⟩∨x∈l:=by
 refine ⟨addE_mem,fun h=>?_⟩;unfold addE;rcases h with h | h
 ·rw [h]; simp
 ·rw [← List.take_append_drop (addK l t l.length) l] at h
  rcases List.mem_append.1 h with h | h
  ·exact List.mem_append_left _ (List.mem_append_left _ h)
  ·exact List.mem_append_right _ h
def goF (r:WaitM→ResM) (o:List DoneM) (l:List WaitM):List DoneM:=l.foldl (fun o x=>addE o x.thr (r x)) o
theorem goF_mem (r:WaitM→ResM):∀(l:List WaitM) (o:List DoneM) (x:DoneM),x∈goF r o l↔x∈o∨∃y∈l,x=⟨y.thr,r y⟩
 | [],o,x=>by simp [goF]
 | y :: l,o,x=>by
  show x∈goF r (addE o y.thr (r y)) l↔_;rw [goF_mem r l,addE_memI];constructor
  ·rintro ((h | h) | ⟨z,hz,h⟩)
   ·exact .inr ⟨y,List.mem_cons_self ..,h⟩
   ·exact .inl h
   ·exact .inr ⟨z,List.mem_cons_of_mem _ hz,h⟩
  ·rintro (h | ⟨z,hz,h⟩)
   ·exact .inl (.inr h)
   ·rcases List.mem_cons.1 hz with rfl | hz
    ·exact .inl (.inl h)
    ·exact .inr ⟨z,hz,h⟩
def Dist (l:List WaitM):Prop:=l.Pairwise fun x y=>x.thr≠y.thr
theorem goF_asc (r:WaitM→ResM):∀(l:List WaitM) (o:List DoneM),Asc o→Dist l→(∀x∈l,∀z∈o,z.thr≠x.thr)→Asc (goF r o l)
 | [],o,h,_,_=>h
 | y :: l,o,h,hd,hn=>by
  have h1:=List.pairwise_cons.1 hd;refine goF_asc r l _ (addE_asc h _ fun z hz=>hn y (List.mem_cons_self ..) z hz) h1.2 fun x hx z hz=>?_;rcases addE_mem hz with e | hz
  ·rw [e]; exact h1.1 x hx
  ·exact hn x (List.mem_cons_of_mem _ hx) z hz
theorem goF_len (r:WaitM→ResM):∀(l:List WaitM) (o:List DoneM),(goF r o l).length=o.length+l.length
 | [],o=>by simp [goF]
 | y :: l,o=>by
  show (goF r (addE o y.thr (r y)) l).length=_;rw [goF_len r l,addE_len];simp;omega
theorem goneP_goF (p:WaitM→Bool) (r:WaitM→ResM) (o:List DoneM) (l:List WaitM) (k:Nat):goneP p r o l k=goF r o ((l.take k).filter p):=rfl
theorem goF_two (p1 p2:WaitM→Bool) (r1 r2:WaitM→ResM) (o:List DoneM) (l:List WaitM) (ho:Asc o) (hd:Dist l) (hn:∀x∈l,∀z∈o,z.thr≠x.thr) :
  goF r2 (goF r1 o (l.filter p1)) ((l.filter fun x=>!p1 x).filter p2)=goF (fun x=>if p1 x=true then r1 x else r2 x) o (l.filter fun x=>p1 x || p2 x):=by
 have d1:Dist (l.filter p1):=List.Pairwise.sublist (List.filter_sublist ..) hd;have d2:Dist ((l.filter fun x=>!p1 x).filter p2):=List.Pairwise.sublist ((List.filter_sublist ..).trans (List.filter_sublist ..)) hd;have a1:Asc (goF r1 o (l.filter p1)):=goF_asc r1 _ o ho d1 fun x hx=>hn x (List.mem_filter.1 hx).1;have hu:∀x∈l,∀y∈l,x.thr=y.thr→x=y:=fun x hx y hy e=>by
  obtain ⟨i,hi,rfl⟩:=List.mem_iff_getElem.1 hx;obtain ⟨j,hj,rfl⟩:=List.mem_iff_getElem.1 hy;rcases Nat.lt_trichotomy i j with h | h | h
  ·exact absurd e (List.pairwise_iff_getElem.1 hd i j hi hj h)
  ·subst h; rfl
  ·exact absurd e.symm (List.pairwise_iff_getElem.1 hd j i hj hi h)
 refine Asc.ext (goF_asc r2 _ _ a1 d2 fun x hx z hz=>?_) (goF_asc _ _ o ho (List.Pairwise.sublist (List.filter_sublist ..) hd) fun x hx=>hn x (List.mem_filter.1 hx).1) fun z=>?_
 ·have hx1:=List.mem_filter.1 hx
  have hx2:=List.mem_filter.1 hx1.1;rcases (goF_mem r1 _ _ _).1 hz with h | ⟨y,hy,h⟩
  ·exact hn x hx2.1 z h
  ·rw [h]
   intro e;have hy1:=List.mem_filter.1 hy;have:=hu y hy1.1 x hx2.1 e;subst this;have h9:=hx2.2;rw [hy1.2] at h9;simp at h9
 ·rw [goF_mem,goF_mem,goF_mem]
  constructor
  ·rintro ((h | ⟨y,hy,h⟩) | ⟨y,hy,h⟩)
   ·exact .inl h
   ·have hy1:=List.mem_filter.1 hy
    exact .inr ⟨y,List.mem_filter.2 ⟨hy1.1,by simp [hy1.2]⟩,by rw [if_pos hy1.2]; exact h⟩
   ·have hy1:=List.mem_filter.1 hy
    have hy2:=List.mem_filter.1 hy1.1;have h9:p1 y=false:=by simpa using hy2.2
    exact .inr ⟨y,List.mem_filter.2 ⟨hy2.1,by simp [hy1.2]⟩,by rw [if_neg (by rw [h9]; decide)]; exact h⟩
  ·rintro (h | ⟨y,hy,h⟩)
   ·exact .inl (.inl h)
   ·have hy1:=List.mem_filter.1 hy
    cases h9:p1 y with
    | true=>rw [if_pos h9] at h; exact .inl (.inr ⟨y,List.mem_filter.2 ⟨hy1.1,h9⟩,h⟩)
    | false=>
     rw [if_neg (by rw [h9]; decide)] at h;have h8:=hy1.2;rw [h9] at h8;exact .inr ⟨y,List.mem_filter.2 ⟨List.mem_filter.2 ⟨hy1.1,by simp [h9]⟩,by simpa using h8⟩,h⟩
theorem filter_two (p1 p2:WaitM→Bool) (l:List WaitM):(l.filter fun x=>!p1 x).filter (fun x=>!p2 x)=l.filter fun x=>!(p1 x || p2 x):=by
 rw [List.filter_filter];congr 1;funext x
 cases p1 x <;> cases p2 x <;> rfl
structure DeskM.okN (N:Nat) (d:DeskM):Prop where
 cl:d.chans.length≤N
 wl:d.wait.length≤N
 bf:∀c∈d.chans,c.buf.length≤N
 wop:∀x∈d.wait,x.op.fine
theorem DeskM.okN.ok {N:Nat} {d:DeskM} (h:d.okN N) (hN:N≤1000):d.ok:=
 ⟨Nat.le_trans h.cl hN,Nat.le_trans h.wl hN,fun c hc=>Nat.le_trans (h.bf c hc) hN,h.wop⟩
theorem DeskM.okN.mono {N M:Nat} {d:DeskM} (h:d.okN N) (hN:N≤M):d.okN M:=
 ⟨Nat.le_trans h.cl hN,Nat.le_trans h.wl hN,fun c hc=>Nat.le_trans (h.bf c hc) hN,h.wop⟩
theorem DeskM.okN.chE {N:Nat} {d:DeskM} (h:d.okN N) (ch:Int):(chE d.chans ch).buf.length≤N:=by
 by_cases hi:ch.toNat<d.chans.length
 ·have e:Go.Proofs.Ytiekicailidhcaa.chE d.chans ch=d.chans[ch.toNat]:=getD_lt hi
  rw [e];exact h.bf _ (List.getElem_mem hi)
 ·have e:Go.Proofs.Ytiekicailidhcaa.chE d.chans ch=noChan:=by
   show d.chans.getD ch.toNat noChan=noChan;rw [List.getD_eq_getElem?_getD,List.getElem?_eq_none (by omega)];rfl
  rw [e];exact Nat.zero_le _
theorem DeskM.okN.leave {N:Nat} {d:DeskM} (h:d.okN N) (k:Nat):(leaveD d k).okN N:=
 ⟨h.cl,by
  have:=h.wl;show (d.wait.take k ++ d.wait.drop (k+1)).length≤N;rw [List.length_append,List.length_take,List.length_drop];omega,h.bf,fun x hx=>by
  have hx:x∈d.wait.take k ++ d.wait.drop (k+1):=hx;rcases List.mem_append.1 hx with hx | hx
  ·exact h.wop x (List.mem_of_mem_take hx)
  ·exact h.wop x (List.mem_of_mem_drop hx)⟩
theorem DeskM.okN.put {N:Nat} {d:DeskM} (h:d.okN N) {n:Nat} {c:ChanM} (hc:c.buf.length≤N):(putD d n c).okN N:=
 ⟨by show (d.chans.set n c).length≤N; rw [List.length_set]; exact h.cl,h.wl,fun x hx=>by
  have hx:x∈d.chans.set n c:=hx;rcases List.mem_or_eq_of_mem_set hx with hx | hx
  ·exact h.bf x hx
  ·rw [hx]; exact hc,h.wop⟩
theorem DeskM.okN.filter {N:Nat} {d:DeskM} (h:d.okN N) (p:WaitM→Bool) (t:Int):DeskM.okN N ⟨d.chans,d.wait.filter p,t⟩:=
 ⟨h.cl,Nat.le_trans (List.length_filter_le _ _) h.wl,h.bf,fun x hx=>h.wop x (List.mem_filter.1 hx).1⟩
theorem DeskM.okN.tick {N:Nat} {d:DeskM} (h:d.okN N) (n:Int):(tickD d n).1.okN N:=by
 unfold tickD;split
 ·exact h
 ·exact h.filter _ _
theorem DeskM.okN.shut {N:Nat} {d:DeskM} (h:d.okN N) (thr ch:Int):(shutE d thr ch).1.okN N:=by
 unfold shutE;split
 ·exact ((h.put (n:=ch.toNat) (c:={ Go.Proofs.Ytiekicailidhcaa.chE d.chans ch with closed:=true }) (h.chE ch)).filter _ _).filter _ _
 ·exact h
theorem DeskM.okN.send {N:Nat} {d:DeskM} (h:d.okN N) (thr own:Int) (x:CaseM) (k:Int):(sendG d thr own x k).1.okN (N+1):=by
 unfold sendG;split
 ·exact h.mono (Nat.le_succ _)
 ·split
  ·exact (h.leave _).mono (Nat.le_succ _)
  ·refine (h.mono (Nat.le_succ _)).put ?_
   have:=h.chE x.chan;simp;omega
theorem DeskM.okN.recv {N:Nat} {d:DeskM} (h:d.okN N) (thr own:Int) (x:CaseM) (k:Int):(recvG d thr own x k).1.okN (N+1):=by
 have hb:=h.chE x.chan;unfold recvG;split
 ·next hn=>
  split
  ·exact ((h.leave _).put hb).mono (Nat.le_succ _)
  ·exact h.mono (Nat.le_succ _)
 ·next v l hn=>
  rw [hn] at hb;split
  ·exact ((h.leave _).mono (Nat.le_succ _)).put (by simp at hb ⊢; omega)
  ·exact (h.mono (Nat.le_succ _)).put (by simp at hb ⊢; omega)
theorem DeskM.okN.does {N:Nat} {d:DeskM} (h:d.okN N) (thr:Int) {op:OpM} (hf:op.fine):(doD d thr op).1.okN (N+1):=by
 unfold doD;split
 ·exact (h.shut _ _).mono (Nat.le_succ _)
 ·split
  ·exact h.mono (Nat.le_succ _)
  ·split
   ·show (doG d thr op (pickD d thr op) _).1.okN (N+1)
    unfold doG;split
    ·exact h.send _ _ _ _
    ·exact h.recv _ _ _ _
   ·split
    ·exact h.mono (Nat.le_succ _)
    ·split
     ·exact h.mono (Nat.le_succ _)
     ·exact ⟨Nat.le_succ_of_le h.cl,by have:=h.wl; show (d.wait ++ [_]).length≤N+1; rw [List.length_append,List.length_singleton]; omega,fun c hc=>Nat.le_succ_of_le (h.bf c hc),fun x hx=>by
       rcases List.mem_append.1 hx with hx | hx
       ·exact h.wop x hx
       ·rw [List.mem_singleton.1 hx]; exact hf⟩
theorem doD_tick (d:DeskM) (thr:Int) (op:OpM):(doD d thr op).1.tick=d.tick:=by
 unfold doD;split
 ·unfold shutE; split <;> rfl
 ·split
  ·rfl
  ·split
   ·show (doG d thr op (pickD d thr op) _).1.tick=d.tick
    unfold doG;split
    ·unfold sendG; split
     ·rfl
     ·split <;> rfl
    ·unfold recvG; split <;> (split <;> rfl)
   ·split
    ·rfl
    ·split <;> rfl
theorem tickD_tick {d:DeskM} (h:0≤d.tick∧d.tick≤1099511627776) (n:Int):0≤(tickD d n).1.tick∧(tickD d n).1.tick≤1099511627776:=by
 unfold tickD;split
 ·exact h
 ·show 0≤newT d.tick n∧newT d.tick n≤1099511627776
  unfold newT;split <;> omega
def DInv (d:DeskM):Prop:=Dist d.wait∧∀x∈d.wait,lateB d.tick x=false
theorem DInv.sub {d d2:DeskM} (h:DInv d) (hs:List.Sublist d2.wait d.wait) (ht:d2.tick=d.tick):DInv d2:=⟨List.Pairwise.sublist hs h.1,fun x hx=>by rw [ht]; exact h.2 x (hs.subset hx)⟩
theorem leaveD_sub (d:DeskM) (k:Nat):List.Sublist (leaveD d k).wait d.wait:=by
 show List.Sublist (d.wait.take k ++ d.wait.drop (k+1)) d.wait;conv=>rhs; rw [← List.take_append_drop k d.wait]
 exact List.Sublist.append (List.Sublist.refl _) (by rw [← List.drop_drop]; exact List.drop_sublist _ _)
theorem DInv.tick {d:DeskM} (h:DInv d) (n:Int):DInv (tickD d n).1:=by
 unfold tickD;split
 ·exact h
 ·refine ⟨List.Pairwise.sublist (List.filter_sublist ..) h.1,fun x hx=>?_⟩
  have:=(List.mem_filter.1 hx).2;simpa using this
theorem waitsD_mem {d:DeskM} {thr:Int} (h:waitsD d thr=false):∀x∈d.wait,x.thr≠thr:=fun x hx e=>by
 unfold waitsD at h;rw [List.any_eq_false] at h;exact h x hx (by simp [e])
theorem DInv.does {d:DeskM} (h:DInv d) {thr:Int} (op:OpM) (hw:waitsD d thr=false):DInv (doD d thr op).1:=by
 have hm:=waitsD_mem hw;unfold doD;split
 ·unfold shutE
  split
  ·exact h.sub ((List.filter_sublist ..).trans (List.filter_sublist ..)) rfl
  ·exact h
 ·split
  ·exact h
  ·split
   ·show DInv (doG d thr op (pickD d thr op) _).1
    unfold doG;split
    ·unfold sendG
     split
     ·exact h
     ·split
      ·exact h.sub (leaveD_sub _ _) rfl
      ·exact h.sub (List.Sublist.refl _) rfl
    ·unfold recvG
     split <;> split
     ·exact h.sub (leaveD_sub _ _) rfl
     ·exact h
     ·exact h.sub (leaveD_sub _ _) rfl
     ·exact h.sub (List.Sublist.refl _) rfl
   ·split
    ·exact h
    ·next hm1=>
     split
     ·exact h
     ·next hl=>
      refine ⟨?_,fun x hx=>?_⟩
      ·show Dist (d.wait ++ [⟨thr,op⟩])
       unfold Dist;rw [List.pairwise_append];exact ⟨h.1,List.pairwise_singleton _ _,fun x hx y hy=>by rw [List.mem_singleton.1 hy]; exact hm x hx⟩
      ·have hx:x∈d.wait ++ [⟨thr,op⟩]:=hx
       rcases List.mem_append.1 hx with hx | hx
       ·exact h.2 x hx
       ·rw [List.mem_singleton.1 hx]
        unfold lateB;cases hd:(op.mode == 2 && decide (op.dl≤d.tick)) with
        | false=>rfl
        | true=>
         simp only [Bool.and_eq_true,beq_iff_eq,decide_eq_true_eq] at hd;exact absurd hd hl
def facB (x y:CaseM):Prop:=x.chan=y.chan∧x.send≠y.send
structure Qt (caps:List Int) (d:DeskM):Prop where
 cp:d.chans.map ChanM.cap=caps
 bf:∀c∈d.chans,(c.buf.length:Int)≤c.cap
 gd:∀x∈d.wait,x.op.good∧x.op.kind≠3
 rd:∀x∈d.wait,∀c∈casesE x.op,readyB d.chans c=false
 mt:∀x∈d.wait,∀y∈d.wait,x.thr≠y.thr→∀c∈casesE x.op,∀e∈casesE y.op,exB d.chans c.chan=true→¬facB c e
theorem Qt.sub {caps:List Int} {d:DeskM} (h:Qt caps d) (wl:List WaitM) (t:Int) (hs:∀x∈wl,x∈d.wait):Qt caps ⟨d.chans,wl,t⟩:=
 ⟨h.cp,h.bf,fun x hx=>h.gd x (hs x hx),fun x hx=>h.rd x (hs x hx),fun x hx y hy=>h.mt x (hs x hx) y (hs y hy)⟩
theorem Qt.tick {caps:List Int} {d:DeskM} (h:Qt caps d) (n:Int):Qt caps (tickD d n).1:=by
 unfold tickD;split
 ·exact h
 ·exact h.sub _ _ fun x hx=>(List.mem_filter.1 hx).1
theorem leave_memD {d:DeskM} {k:Nat}:∀x∈(leaveD d k).wait,x∈d.wait:=fun x hx=>(leaveD_sub d k).subset hx
theorem exB_put (l:List ChanM) (n:Nat) (c:ChanM) (m:Int):exB (l.set n c) m=exB l m:=by
 unfold exB;rw [List.length_set]
theorem exB_lt {l:List ChanM} {m:Int} (h:exB l m=true):0≤m∧m.toNat<l.length:=by
 unfold exB at h;simp only [Bool.and_eq_true,decide_eq_true_eq] at h;omega
theorem chE_mem {l:List ChanM} {m:Int} (h:exB l m=true):chE l m∈l:=by
 obtain ⟨-,h2⟩:=exB_lt h;have e:chE l m=l[m.toNat]:=getD_lt h2;rw [e];exact List.getElem_mem h2
theorem chE_put_same {l:List ChanM} {m:Int} (h:exB l m=true) (c:ChanM):chE (l.set m.toNat c) m=c:=by
 obtain ⟨-,h2⟩:=exB_lt h;unfold chE;rw [List.getD_eq_getElem?_getD,List.getElem?_set_self h2];rfl
theorem chE_put_other {l:List ChanM} {m n:Int} (h:exB l m=true) (h2:exB l n=true) (hn:m≠n) (c:ChanM):chE (l.set m.toNat c) n=chE l n:=by
 obtain ⟨h3,-⟩:=exB_lt h;obtain ⟨h4,-⟩:=exB_lt h2;unfold chE;rw [List.getD_eq_getElem?_getD,List.getElem?_set_ne (by omega),← List.getD_eq_getElem?_getD]
theorem readyB_other {l:List ChanM} {m:Int} (h:exB l m=true) (c:ChanM) (x:CaseM) (hx:x.chan≠m):readyB (l.set m.toNat c) x=readyB l x:=by
 unfold readyB;rw [exB_put];cases he:exB l x.chan with
 | false=>rfl
 | true=>rw [chE_put_other h he (Ne.symm hx)]
theorem caps_put {l:List ChanM} {m:Int} (h:exB l m=true) (c:ChanM) (hc:c.cap=(chE l m).cap):(l.set m.toNat c).map ChanM.cap=l.map ChanM.cap:=by
 obtain ⟨-,h2⟩:=exB_lt h;have e:chE l m=l[m.toNat]:=getD_lt h2;rw [List.map_set,hc,e];have e2:l[m.toNat].cap=(l.map ChanM.cap)[m.toNat]'(by rw [List.length_map]; exact h2):=by rw [List.getElem_map]
 rw [e2,List.set_getElem_self]
theorem Qt.put {caps:List Int} {d:DeskM} (h:Qt caps d) {m:Int} (he:exB d.chans m=true) (c:ChanM) (hc:c.cap=(chE d.chans m).cap) (hb:(c.buf.length:Int)≤c.cap) (hr:∀x∈d.wait,∀y∈casesE x.op,y.chan=m→readyB (d.chans.set m.toNat c) y=false):Qt caps (putD d m.toNat c):=by
 refine ⟨(caps_put he c hc).trans h.cp,fun e hm=>?_,h.gd,fun x hx y hy=>?_,fun x hx y hy ht a ha b hb2 hex=>?_⟩
 ·rcases List.mem_or_eq_of_mem_set (show e∈d.chans.set m.toNat c from hm) with hm | hm
  ·exact h.bf e hm
  ·rw [hm]; exact hb
 ·show readyB (d.chans.set m.toNat c) y=false
  by_cases hy2:y.chan=m
  ·exact hr x hx y hy hy2
  ·rw [readyB_other he c y hy2]
   exact h.rd x hx y hy
 ·rw [show exB (putD d m.toNat c).chans a.chan=exB d.chans a.chan from exB_put _ _ _ _] at hex
  exact h.mt x hx y hy ht a ha b hb2 hex
theorem sideI_neg {op:OpM} {ch:Int} {sd:Bool} (h:¬0≤sideI op ch sd):∀y∈casesE op,y.chan=ch→y.send≠sd:=fun y hy hc hs=>by
 rcases fstI_cases (isSide ch sd) (casesE op) noCase with ⟨-,h2⟩ | ⟨i,-,h1,-,-⟩
 ·obtain ⟨i,hi,rfl⟩:=List.mem_iff_getElem.1 hy
  have:=h2 i hi;rw [getD_lt hi] at this;unfold isSide at this;rw [hc,hs] at this;simp at this
 ·exact h (by unfold sideI; rw [h1]; omega)
theorem Qt.shut {caps:List Int} {d:DeskM} (h:Qt caps d) (thr ch:Int):Qt caps (shutE d thr ch).1:=by
 unfold shutE;split
 ·next he=>
  obtain ⟨he,-⟩:=he;have h0:Qt caps ⟨d.chans,(d.wait.filter fun x=>!shutB ch false x).filter fun x=>!shutB ch true x,d.tick⟩:=h.sub _ _ fun x hx=>(List.mem_filter.1 (List.mem_filter.1 hx).1).1;refine h0.put he { chE d.chans ch with closed:=true } rfl (by have h9:=h.bf _ (chE_mem he); exact h9) fun x hx y hy hc=>?_;obtain ⟨hx1,hx2⟩:=List.mem_filter.1 (show x∈(d.wait.filter fun x=>!shutB ch false x).filter fun x=>!shutB ch true x from hx);have hx3:=(List.mem_filter.1 hx1).2;unfold shutB at hx2 hx3;simp only [Bool.not_eq_true',decide_eq_false_iff_not] at hx2 hx3;have a1:=sideI_neg hx2 y hy hc;have a2:=sideI_neg hx3 y hy hc;cases hs:y.send with
  | false=>exact absurd hs a2
  | true=>exact absurd hs a1
 ·exact h
theorem partI_none {d:DeskM} {thr:Int} {x:CaseM} (h:¬0≤partI d thr x) (he:exB d.chans x.chan=true):∀y∈d.wait,y.thr≠thr→∀c∈casesE y.op,¬facB x c:=fun y hy ht c hc hf=>by
 unfold partI at h;rw [if_pos he] at h;rcases fstI_cases (isPart thr x.chan (!x.send)) d.wait watZ with ⟨-,h2⟩ | ⟨i,-,h1,-,-⟩
 ·obtain ⟨i,hi,rfl⟩:=List.mem_iff_getElem.1 hy
  have:=h2 i hi;rw [getD_lt hi] at this;unfold isPart at this;have h3:0≤sideI d.wait[i].op x.chan (!x.send):=by
   cases Decidable.em (0≤sideI d.wait[i].op x.chan (!x.send)) with
   | inl h=>exact h
   | inr h=>
    have h4:=sideI_neg h c hc hf.1.symm;have h5:=hf.2;cases hx:x.send <;> cases hy:c.send <;> simp_all
  simp [ht,h3] at this
 ·rw [h1] at h; omega
theorem readyB_of {l:List ChanM} {x:CaseM} (he:exB l x.chan=true):readyB l x=(if x.send then ((chE l x.chan).closed || decide (((chE l x.chan).buf.length:Int)<(chE l x.chan).cap)) else ((chE l x.chan).closed || decide (0<(chE l x.chan).buf.length))):=by
 unfold readyB;rw [he,Bool.true_and]
theorem readyB_ex {l:List ChanM} {x:CaseM} (h:readyB l x=true):exB l x.chan=true:=by
 unfold readyB at h;exact (Bool.and_eq_true_iff.1 h).1
theorem partI_ex {d:DeskM} {thr:Int} {x:CaseM} (h:0≤partI d thr x):exB d.chans x.chan=true:=by
 unfold partI at h;split at h
 ·assumption
 ·omega
theorem readyD_exK {d:DeskM} {thr:Int} {x:CaseM} (h:readyD d thr x=true):exB d.chans x.chan=true:=by
 unfold readyD at h;rcases Bool.or_eq_true_iff.1 h with h | h
 ·exact readyB_ex h
 ·exact partI_ex (of_decide_eq_true h)
theorem Qt.send {caps:List Int} {d:DeskM} (h:Qt caps d) {thr:Int} (own:Int) {x:CaseM} (hn:∀y∈d.wait,y.thr≠thr) (hs:x.send=true) (hr:readyD d thr x=true):Qt caps (sendG d thr own x (partI d thr x)).1:=by
 have he:=readyD_exK hr;unfold sendG;split
 ·exact h
 ·next hcl=>
  split
  ·exact h.sub _ _ leave_memD
  ·next hp=>
   have hcl:(chE d.chans x.chan).closed=false:=by simpa using hcl
   have hrb:readyB d.chans x=true:=by
    unfold readyD at hr;simpa [hp] using hr
   rw [readyB_of he,if_pos hs,hcl,Bool.false_or,decide_eq_true_eq] at hrb;refine h.put he { chE d.chans x.chan with buf:=(chE d.chans x.chan).buf ++ [x.val] } rfl (by simp; omega) fun y hy c hc hcc=>?_;cases hcs:c.send with
   | false=>exact absurd ⟨hcc.symm,by rw [hs,hcs]; decide⟩ (partI_none hp he y hy (hn y hy) c hc)
   | true=>
    have h1:=h.rd y hy c hc;rw [readyB_of (by rw [hcc]; exact he),if_pos hcs,hcc,hcl,Bool.false_or,decide_eq_false_iff_not] at h1;exact absurd hrb h1
theorem Qt.recv {caps:List Int} {d:DeskM} (h:Qt caps d) {thr:Int} (own:Int) {x:CaseM} (hn:∀y∈d.wait,y.thr≠thr) (hs:x.send=false) (hr:readyD d thr x=true):Qt caps (recvG d thr own x (partI d thr x)).1:=by
 have he:=readyD_exK hr;have hbc:=h.bf _ (chE_mem he);unfold recvG;split
 ·next hb=>
  split
  ·refine (h.sub (leaveD d (partI d thr x).toNat).wait d.tick leave_memD).put he (chE d.chans x.chan) rfl hbc fun y hy c hc hcc=>?_
   have h1:=h.rd y (leave_memD y hy) c hc;have hec:exB d.chans c.chan=true:=by rw [hcc]; exact he
   rw [readyB_of hec] at h1;rw [readyB_of (by rw [exB_put]; exact hec),hcc,chE_put_same he];rw [hcc] at h1;exact h1
  ·exact h
 ·next v l hb=>
  split
  ·refine (h.sub (leaveD d (partI d thr x).toNat).wait d.tick leave_memD).put he { chE d.chans x.chan with buf:=l ++ [partV (wat d.wait (partI d thr x).toNat) x.chan] } rfl (by rw [hb] at hbc; simp at hbc ⊢; omega) fun y hy c hc hcc=>?_
   have h1:=h.rd y (leave_memD y hy) c hc;have hec:exB d.chans c.chan=true:=by rw [hcc]; exact he
   rw [readyB_of hec] at h1;rw [readyB_of (by rw [exB_put]; exact hec),hcc,chE_put_same he];rw [hcc,hb] at h1;simpa using h1
  ·next hp=>
   refine h.put he { chE d.chans x.chan with buf:=l } rfl (by rw [hb] at hbc; simp at hbc ⊢; omega) fun y hy c hc hcc=>?_;cases hcs:c.send with
   | true=>exact absurd ⟨hcc.symm,by rw [hs,hcs]; decide⟩ (partI_none hp he y hy (hn y hy) c hc)
   | false=>
    have h1:=h.rd y hy c hc;rw [readyB_of (by rw [hcc]; exact he),hcs,hcc,hb] at h1;simp at h1
theorem pickD_yes {d:DeskM} {thr:Int} {op:OpM} (h:0≤pickD d thr op):readyD d thr ((casesE op).getD (pickD d thr op).toNat noCase)=true:=by
 unfold pickD at h ⊢;split at h
 ·next hk=>
  rw [if_pos hk];unfold choiceD choiceL at h ⊢;split at h
  ·next i hi=>
   have:=List.find?_some hi;unfold casesE;rw [if_pos hk];exact this
  ·omega
 ·next hk=>
  rw [if_neg hk];split at h
  ·next hr=>rw [if_pos hr]; exact hr
  ·omega
theorem pickD_no {d:DeskM} {thr:Int} {op:OpM} (hg:op.good) (h:¬0≤pickD d thr op):∀c∈casesE op,readyD d thr c=false:=fun c hc=>by
 unfold pickD at h;split at h
 ·next hk=>
  unfold casesE at hc;rw [if_pos hk] at hc;obtain ⟨i,hi,rfl⟩:=List.mem_iff_getElem.1 hc;have hl:=hg.cases;have hm:(i:Int)∈ordL op.cases.length op.draws:=by
   unfold ordL;rw [if_pos ⟨by omega,by omega⟩,Int.toNat_natCast];exact (shuf_full _ _ _ _ (full_asc _) (by omega)).2 i hi
  unfold choiceD choiceL at h;split at h
  ·next j hj=>
   have:=(ordL_mem _ _ _ (List.mem_of_find?_eq_some hj)).1;omega
  ·next hj=>
   have:=List.find?_eq_none.1 hj _ hm;rw [Int.toNat_natCast,getD_lt hi] at this;simpa using this
 ·next hk=>
  split at h
  ·omega
  ·next hr=>
   unfold casesE at hc hr;rw [if_neg hk] at hc hr;split at hc
   ·next ho=>
    rw [if_pos ho] at hr;rw [List.mem_singleton.1 hc];simpa using hr
   ·simp at hc
theorem readyD_no {d:DeskM} {thr:Int} {x:CaseM} (h:readyD d thr x=false):readyB d.chans x=false∧¬0≤partI d thr x:=by
 unfold readyD at h;simpa using h
theorem Qt.does {caps:List Int} {d:DeskM} (h:Qt caps d) {thr:Int} {op:OpM} (hg:op.good) (hn:∀y∈d.wait,y.thr≠thr):Qt caps (doD d thr op).1:=by
 unfold doD;split
 ·exact h.shut _ _
 ·next hk3=>
  split
  ·exact h
  ·split
   ·next hp=>
    have hr:=pickD_yes hp;show Qt caps (doG d thr op (pickD d thr op) _).1;unfold doG;split
    ·next hs=>exact h.send _ hn hs hr
    ·next hs=>exact h.recv _ hn (by simpa using hs) hr
   ·next hp=>
    have hno:=pickD_no hg hp;split
    ·exact h
    ·split
     ·exact h
     ·have hne:∀x∈d.wait,∀c∈casesE op,∀e∈casesE x.op,exB d.chans c.chan=true→¬facB c e:=fun x hx c hc e hce hex=>partI_none (readyD_no (hno c hc)).2 hex x hx (hn x hx) e hce
      refine ⟨h.cp,h.bf,fun x hx=>?_,fun x hx c hc=>?_,fun x hx y hy ht c hc e he hex=>?_⟩
      ·rcases List.mem_append.1 (show x∈d.wait ++ [⟨thr,op⟩] from hx) with hx | hx
       ·exact h.gd x hx
       ·rw [List.mem_singleton.1 hx]; exact ⟨hg,hk3⟩
      ·rcases List.mem_append.1 (show x∈d.wait ++ [⟨thr,op⟩] from hx) with hx | hx
       ·exact h.rd x hx c hc
       ·rw [List.mem_singleton.1 hx] at hc; exact (readyD_no (hno c hc)).1
      ·rcases List.mem_append.1 (show x∈d.wait ++ [⟨thr,op⟩] from hx) with hx | hx
       ·rcases List.mem_append.1 (show y∈d.wait ++ [⟨thr,op⟩] from hy) with hy | hy
        ·exact h.mt x hx y hy ht c hc e he hex
        ·rw [List.mem_singleton.1 hy] at he
         intro hf;have hex2:exB d.chans e.chan=true:=by rw [← hf.1]; exact hex
         exact hne x hx e he c hc hex2 ⟨hf.1.symm,Ne.symm hf.2⟩
       ·rcases List.mem_append.1 (show y∈d.wait ++ [⟨thr,op⟩] from hy) with hy | hy
        ·rw [List.mem_singleton.1 hx] at hc
         exact hne y hy c hc e he hex
        ·rw [List.mem_singleton.1 hx,List.mem_singleton.1 hy] at ht
         exact absurd rfl ht
theorem Qt.len {caps:List Int} {d:DeskM} (h:Qt caps d):d.chans.length=caps.length:=by rw [← h.cp,List.length_map]
theorem new_qt (caps:List Int) (h:∀x∈caps,0≤x):Qt caps ⟨nchE caps,[],0⟩:=by
 refine ⟨?_,fun c hc=>?_,fun x hx=>by simp at hx,fun x hx=>by simp at hx,fun x hx=>by simp at hx⟩
 ·show (nchE caps).map ChanM.cap=caps
  unfold nchE;rw [List.map_map];exact List.map_id _
 ·obtain ⟨y,hy,rfl⟩:=List.mem_map.1 (show c∈caps.map _ from hc)
  exact h y hy
def chEqB (c d:ChanM):Bool:=c.cap == d.cap && (c.closed == d.closed && c.buf == d.buf)
def sameB (l m:List ChanM):Bool:=l.length == m.length && (List.range l.length).all fun i=>chEqB (l.getD i noChan) (m.getD i noChan)
theorem sameB_len {l m:List ChanM} (h:l.length≠m.length):sameB l m=false:=by
 unfold sameB;rw [show (l.length == m.length)=false by simpa using h];rfl
theorem sameB_no {l m:List ChanM} {i:Nat} (hi:i<l.length) (h:chEqB (l.getD i noChan) (m.getD i noChan)=false):sameB l m=false:=by
 unfold sameB;rw [show ((List.range l.length).all fun i=>chEqB (l.getD i noChan) (m.getD i noChan))=false from List.all_eq_false.2 ⟨i,List.mem_range.2 hi,by rw [h]; simp⟩,Bool.and_false]
theorem sameB_yes {l m:List ChanM} (h:l.length=m.length) (h2:∀i,i<l.length→chEqB (l.getD i noChan) (m.getD i noChan)=true):sameB l m=true:=by
 unfold sameB;rw [h];simp only [beq_self_eq_true,Bool.true_and];rw [← h];exact List.all_eq_true.2 fun i hi=>h2 i (List.mem_range.1 hi)
theorem sameB_refl (l:List ChanM):sameB l l=true:=sameB_yes rfl fun i _=>by
 unfold chEqB;simp
theorem leftD (g:Nat) (w:World) (h:CodesE w g):Calls Try.prog 15 #[.pointer (some ⟨g,0,none⟩)] w fun e w'=>∃b,e=.returned (.bool b)∧Below w.heap.size w w':=by
 obtain ⟨r,val,h⟩:=h;refine (left_any g r val w h).mono ?_;rintro e w' ⟨n,rfl,rfl⟩;exact ⟨_,rfl,below_drewN (Below.refl _ _) n⟩
theorem OpM.good.kinds {op:OpM} (h:op.good):1≤op.kind∧op.kind≤6:=by
 have h1:=h.check;unfold checkE at h1;by_cases hk:kindB op=false
 ·rw [if_pos hk] at h1; simp at h1
 ·unfold kindB at hk
  simp at hk;omega
def RchQ (g:Nat) (w:World) (e:Ending) (w':World):Prop:=∃u d,e=.returned u∧DeskX (fun b=>b≠g) w' u d∧d.okN 200∧(0≤d.tick∧d.tick≤1099511627776)∧CodesE w' g∧w.grownBy w' (some g)
structure RchI (w wr:World) (g D:Nat) (cr row:Array Value) (d:DeskM) (N:Nat):Prop where
 glt:g<w.heap.size
 codes:CodesE wr g
 grown:w.grownBy wr (some g)
 bw:w.heap.size+2≤D
 r4:wr.heap[w.heap.size]?=some (.cells cr 29 (0,0))
 r6:wr.heap[w.heap.size+1]?=some (.cells #[.slice none 0 0,.slice none 0 0,.int .i64 0] 34 (0,0))
 r7:wr.heap[D]?=some (.cells row 34 (0,0))
 desk:DeskX (fun b=>b≠g∧b≠w.heap.size∧b≠w.heap.size+1∧b≠D) wr (.agg row) d
 ok:d.okN N
 tick:0≤d.tick∧d.tick≤1099511627776
theorem RchI.Dlt {w wr:World} {g D:Nat} {cr row:Array Value} {d:DeskM} {N:Nat} (h:RchI w wr g D cr row d N):D<wr.heap.size:=(Array.getElem?_eq_some_iff.1 h.r7).1
theorem RchI.hP {w wr:World} {g D:Nat} {cr row:Array Value} {d:DeskM} {N:Nat} (h:RchI w wr g D cr row d N):∀b,wr.heap.size≤b→b≠g∧b≠w.heap.size∧b≠w.heap.size+1∧b≠D:=fun b hb=>by
 have h1:=h.Dlt;have h2:=h.bw;have h3:=h.glt;exact ⟨by omega,by omega,by omega,by omega⟩
theorem RchI.below {w wr w2:World} {g D:Nat} {cr row:Array Value} {d:DeskM} {N:Nat} (h:RchI w wr g D cr row d N) (hb:Below wr.heap.size wr w2):RchI w w2 g D cr row d N:=
 ⟨h.glt,h.codes.kept h.codes.lt hb,grownBy_trans h.grown (grown_belowD hb),h.bw,row_below3 hb h.r4,row_below3 hb h.r6,row_below3 hb h.r7,h.desk.below hb,h.ok,h.tick⟩
theorem RchI.next {w wr w2:World} {g D:Nat} {cr row:Array Value} {d:DeskM} {N:Nat} (h:RchI w wr g D cr row d N) (hc:CodesE w2 g) (hg:wr.grownBy w2 (some g)):RchI w w2 g D cr row d N:=by
 have h3:=h.glt;have h2:=h.bw;exact ⟨h.glt,hc,grownBy_trans h.grown hg,h.bw,row_keepD hg h.r4 (by omega),row_keepD hg h.r6 (by omega),row_keepD hg h.r7 (by omega),h.desk.off hg (fun b hb=>hb.1),h.ok,h.tick⟩
theorem RchI.store {w wr:World} {g D:Nat} {cr row row2:Array Value} {d d2:DeskM} {N N2:Nat} (h:RchI w wr g D cr row d N) (hx:DeskX (fun b=>b≠g∧b≠w.heap.size∧b≠w.heap.size+1∧b≠D) wr (.agg row2) d2) (ho:d2.okN N2) (ht:0≤d2.tick∧d2.tick≤1099511627776):RchI w (wr.setRow D row2) g D cr row2 d2 N2:=by
 have h3:=h.glt;have h2:=h.bw;have hg:=row_grown wr D row2;have hD:=h.Dlt;have hgr:=h.grown.size;obtain ⟨r,val,hco⟩:=h.codes;refine ⟨h.glt,?_,grown_newD h.grown hg (by omega),h.bw,row_keepD hg h.r4 (by omega),row_keepD hg h.r6 (by omega),setRow_heap _ _ _ _ _ (0,0) h.r7,hx.off hg (fun b hb=>hb.2.2.2),ho,ht⟩;exact h.codes.kept (B:=D) (by omega) (row_below (Below.refl D wr) (Nat.le_refl _) _)
theorem RchI.exit {w wr:World} {g D:Nat} {cr row:Array Value} {d:DeskM} {N:Nat} (h:RchI w wr g D cr row d N) (hN:N≤200):RchQ g w (.returned (.agg row)) (wr.setRow (w.heap.size+1) row):=by
 have h3:=h.glt;have hg:=row_grown wr (w.heap.size+1) row;exact ⟨_,d,rfl,(h.desk.off hg (fun b hb=>hb.2.2.1)).mono fun b hb=>hb.1,h.ok.mono hN,h.tick,h.codes.kept (B:=w.heap.size+1) (by omega) (row_below (Below.refl (w.heap.size+1) wr) (Nat.le_refl _) _),grown_newD h.grown hg (by omega)⟩
theorem RchI.more {w wr:World} {g D:Nat} {cr row:Array Value} {d:DeskM} {N M:Nat} (h:RchI w wr g D cr row d N) (hN:N≤M):RchI w wr g D cr row d M:=⟨h.glt,h.codes,h.grown,h.bw,h.r4,h.r6,h.r7,h.desk,h.ok.mono hN,h.tick⟩
end Go.Proofs.Ytiekicailidhcaa
