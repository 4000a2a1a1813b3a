import Derived.ChangeKeysEq
import Derived.Deep.DeepCutAuto
import Derived.Deep.CutBlock
import Derived.Deep.WholeRow
import Derived.Test.YtefnjhnlegjojaaRows
import Derived.Laws.AppendOwnNone
import Derived.Lib.AppendZeros
import Derived.Deep.QuietTactic
import Derived.BigQuiet
import Derived.OrdersHeld
import Derived.RegionTactic
import Derived.Laws.Tables
import Derived.Laws.MakeOwn
import Derived.Laws.AppendOwn
import Derived.Laws.OwnMore
import Derived.Maps.AppendAt
import Derived.Deep.MidRow
import Derived.Test.YtefnjhnlegjojaaB01
set_option linter.unusedVariables false
set_option linter.unusedSimpArgs false
namespace Go.Proofs.Ytefnjhnlegjojaa
open Go.ChangeShapes Go.WideShapes Go.ChangeAt Go.RowKit
set_option maxRecDepth 100000
theorem two_newN (w:World) (a b:Obj):∃W,(w.alloc a).alloc b=W∧Hid (Below w.heap.size w W)∧Hid (W.heap[w.heap.size]?=some a)∧Hid (W.heap[w.heap.size+1]?=some b)∧w.heap.size+2=W.heap.size:=
 ⟨_,rfl,below_new (below_new (Below.refl w.heap.size w) _) _,heap_alloc2_old _ _ _,heap_alloc2_new _ _ _,by simp⟩
theorem row_belowN {B g:Nat} {a w:World} (h:Below B a w) (hB:B≤g) (cs:Array Value):Below B a (w.setRow g cs):=
 ⟨h.os,h.tape,h.output,by simpa [World.setRow] using h.size,fun k hk=>(setRow_other w g k cs (by omega)).trans (h.block k hk)⟩
def ArrAt (w:World) (g:Nat) (T:TypeId) (s:List Bool):Prop:=w.heap[g]?=some (.cells (s.map Value.bool).toArray T (0,0))∧s.length=8
theorem ArrAt.cell {w:World} {g:Nat} {T:TypeId} {s:List Bool} (h:ArrAt w g T s) (i:Nat) (hi:i<8):w.cell? ⟨g,i,none⟩=some (.bool (s.getD i false))∧w.frozen? ⟨g,i,none⟩=false:=by
 refine ⟨?_,frozen_of_row w g i _ T h.1⟩;rw [cell_of_row w g i _ T _ h.1];have:=h.2;simp [List.getD_eq_getElem?_getD,show i<s.length by omega]
theorem ArrAt.set {w:World} {g:Nat} {T:TypeId} {s:List Bool} (h:ArrAt w g T s) (i:Nat) (b:Bool):ArrAt (w.setCell ⟨g,i,none⟩ (.bool b)) g T (s.set i b):=by
 refine ⟨?_,by simpa using h.2⟩;rw [heap_setCell_same w g i _ T _ h.1];simp [List.map_set]
theorem ArrAt.other {w:World} {g k i:Nat} {T:TypeId} {s:List Bool} {v:Value} (h:ArrAt w g T s) (hk:g≠k):ArrAt (w.setCell ⟨k,i,none⟩ v) g T s:=
 ⟨(heap_setCell_other w ⟨k,i,none⟩ g v hk).trans h.1,h.2⟩
theorem ArrAt.below {w w':World} {g:Nat} {T:TypeId} {s:List Bool} (h:ArrAt w g T s) (hb:Below w.heap.size w w'):ArrAt w' g T s:=
 ⟨(hb.block g (Array.getElem?_eq_some_iff.1 h.1).1).trans h.1,h.2⟩
theorem ArrAt.row {w:World} {g:Nat} {T:TypeId} {s:List Bool} (h:ArrAt w g T s) (r:List Bool) (hr:r.length=8):ArrAt (w.setRow g (r.map Value.bool).toArray) g T r:=
 ⟨setRow_heap w g _ _ T _ h.1,hr⟩
theorem ArrAt.rowOther {w:World} {g k:Nat} {T:TypeId} {s:List Bool} {c:Array Value} (h:ArrAt w g T s) (hk:g≠k):ArrAt (w.setRow k c) g T s:=
 ⟨(setRow_other w k g c hk).trans h.1,h.2⟩
theorem all8_zero:all8 0=none8:=by decide
theorem all8_set (k:Nat) (h:k<8):(all8 k).set k true=all8 (k+1):=by
 refine extB _ _ (by simp [all8]) fun i hi=>?_;have hi8:i<8:=by simpa [all8] using hi
 rw [getD_setB _ _ _ _ (by simpa [all8] using h),all8_get _ _ hi8,all8_get _ _ hi8];split
 ·simp; omega
 ·congr 1; simp; omega
theorem all8_len (k:Nat):(all8 k).length=8:=by simp [all8]
theorem run_eqItems_bools (d:Nat) (s r:List Bool) (hs:s.length=8) (hr:r.length=8) (w:World):∀(is:List Nat),(∀i∈is,i<8)→
  (Op.eqItems (d+1) 4 1 (s.map Value.bool).toArray (r.map Value.bool).toArray is).run Try.prog w=.ok (is.all fun i=>s.getD i false == r.getD i false) w
 | [],_=>by simp [Op.eqItems]
 | i :: is,h=>by
  have hi:=h i (by simp);have hp:Try.prog.plainKey 4=true:=by kernel_rfl
  have p0:=run_part_plain (P:=Try.prog) (w:=w) hp (xs:=(s.map Value.bool).toArray) (off:=i * 1) (v:=.bool (s.getD i false)) (by simp [List.getD_eq_getElem?_getD,show i<s.length by omega]);have p1:=run_part_plain (P:=Try.prog) (w:=w) hp (xs:=(r.map Value.bool).toArray) (off:=i * 1) (v:=.bool (r.getD i false)) (by simp [List.getD_eq_getElem?_getD,show i<r.length by omega]);have q0:(Op.equalIn (d+1) 4 (.bool (s.getD i false)) (.bool (r.getD i false))).run Try.prog w=.ok (s.getD i false == r.getD i false) w:=run_equalIn_bool' (P:=Try.prog) w d 4 _ _ Try.underlying4;have ih:=run_eqItems_bools d s r hs hr w is fun j hj=>h j (by simp [hj]);simp only [Op.eqItems,Sem.run_bind,p0,p1,q0,Result.andThen_ok,List.all_cons];cases hc:(s.getD i false == r.getD i false) with
  | true=>simpa using ih
  | false=>simp
theorem all_eq (s r:List Bool) (hs:s.length=8) (hr:r.length=8):((List.range 8).all fun i=>s.getD i false == r.getD i false)=decide (s=r):=by
 by_cases h:s=r
 ·subst h; simp
 ·rw [decide_eq_false h,Bool.eq_false_iff]
  intro ha;refine h (extB s r (by omega) fun i hi=>?_);rw [List.all_eq_true] at ha;simpa using ha i (by simp; omega)
theorem run_eql_set (s r:List Bool) (hs:s.length=8) (hr:r.length=8) (w:World):(binOp .eql 41 (.agg (s.map Value.bool).toArray) (.agg (r.map Value.bool).toArray)).run Try.prog w=.ok (.bool (decide (s=r))) w:=by
 have hu:=Try.underlying41;obtain ⟨i0,hi,hz0,hz1,hz2⟩:=info_parts (show (Try.prog.info? 4).map (fun i=>(i.zero,i.size,i.bytes))=some (some (.bool false),1,1) by kernel_rfl);have hC:Try.prog.cellsOf 4=1:=by kernel_rfl
 have h:(Op.equalIn 10000 41 (.agg (s.map Value.bool).toArray) (.agg (r.map Value.bool).toArray)).run Try.prog w=.ok (decide (s=r)) w:=by
  rw [run_equalIn_array (P:=Try.prog) (w:=w) 9999 _ _ hu hi,hC,run_eqItems_bools 9998 s r hs hr w _ (by simp),all_eq s r hs hr]
 simp [go_sem,h]
theorem everyone_any (n:Nat) (w:World) (h8:n≤8):Calls Try.prog 27 #[.int .i64 n] w fun e w'=>e=.returned (.agg ((all8 n).map Value.bool).toArray)∧Below w.heap.size w w':=by
 obtain ⟨W,hW,HB,R0,R1,hz⟩:=two_newN w (.cells #[.bool false,.bool false,.bool false,.bool false,.bool false,.bool false,.bool false,.bool false] 41) (.cells #[.bool false,.bool false,.bool false,.bool false,.bool false,.bool false,.bool false,.bool false] 41);have HW:=Lib.hid hW;clear hW;have A0:Hid (ArrAt W w.heap.size 41 none8):=⟨R0.out,by simp [none8]⟩;have A1:Hid (ArrAt W (w.heap.size+1) 41 (all8 0)):=⟨by rw [all8_zero]; exact R1.out,all8_len 0⟩;clear R0 R1;go_enter Try.func27,Try.ntmps27;go_upto_region 2 with fail
 rw [HW.out];clear HW;go_wp2;go_loopw [6] (fun c wr=>∃k:Nat,k≤n∧c=.int .i64 k∧Hid (ArrAt wr w.heap.size 41 none8)∧Hid (ArrAt wr (w.heap.size+1) 41 (all8 k))∧Hid (Below w.heap.size w wr)) (fun c _=>n - (intOf c).toNat)
 case atStart=>exact ⟨0,by omega,rfl,A0,A1,HB⟩
 case round=>
  obtain ⟨k,hk,rfl,a0,a1,hb⟩:=hrel;by_cases hlt:k<n
  ·obtain ⟨c1,c2⟩:=a1.out.cell k (by omega)
   have S1:=a1.out.set k true;rw [all8_set k (by omega)] at S1;have F:=Lib.hid (And.intro (a0.out.other (k:=w.heap.size+1) (i:=k) (v:=.bool true) (by omega)) (And.intro S1 (hb.out.setCell (p:=⟨w.heap.size+1,k,none⟩) (by simp) (.bool true))));have hk8:k<8:=by omega
   clear S1;generalize (all8 k).getD k false=x0 at c1;go_wp2;go_roundw
   case rel=>exact ⟨k+1,by omega,by go_num,F.out.1,F.out.2.1,F.out.2.2⟩
   case measure=>simp [intOf]; omega
  ·obtain rfl:k=n:=by omega
   have hl:=all8_len k;have hz8:none8.length=8:=rfl;go_wp2_with (first
    | (refine wpList_load_row rfl 41 _ rfl (w.heap.size+1) rfl 41 _ _ _ a1.out.1 Try.underlying41 rfl (by rw [List.size_toArray,List.length_map,all8_len]; kernel_rfl) ?_)
    | (refine wpList_store_row rfl 41 _ _ rfl (w.heap.size) _ rfl rfl 41 _ a0.out.1 (by rw [List.size_toArray,List.length_map,all8_len]; kernel_rfl) (by simp [all8,none8]) (by simp [Value.oneCell']) ?_))
   refine bodyPost_ret (v:=.agg ((all8 k).map Value.bool).toArray) (results_cell_row Try.results27 _ _ (w.heap.size) 41 _ (0,0) _ rfl (setRow_heap _ _ _ _ 41 (0,0) a0.out.1) Try.underlying41 rfl (by rw [List.size_toArray,List.length_map,all8_len]; kernel_rfl)) rfl ?_;exact ⟨rfl,row_belowN hb.out (by omega) _⟩
theorem measure_any (t:Int) (v:Value) (xs:List Int) (w:World) (hv:SlI w .i64 v xs) (hlen:xs.length≤1000) :
  Calls Try.prog 15 #[v,.int .i64 t] w fun e w'=>e=.returned (.int .i64 (measP t xs))∧Below w.heap.size w w':=by
 have P:=Lib.hid fun w'=>possible_any t w';obtain ⟨_,_,a,cap,rfl,h4,h5⟩:=hv;by_cases ht:1≤t∧t≤8
 ·rw [decide_eq_true ht] at P
  obtain ⟨n,rfl⟩:∃n:Nat,t=n:=⟨t.toNat,by omega⟩;have EV:=Lib.hid fun w'=>everyone_any n w' (by omega);have ME:Hid ((measP n xs:Int)=((runM n (none8,0) (xs.take xs.length)).2:Int)):=by show _=_; rw [List.take_length,measP_in n xs (by omega) (by omega)]
  have RS:=Lib.hid fun i h=>runM_snoc n (none8,0) xs i h;have GD:=Lib.hid fun l=>goodM_run n (by omega) (by omega) l (none8,0) (goodM_none n (by omega));have PB:=Lib.hid fun i=>(runM_le n (xs.take i) (none8,0)).2;obtain ⟨m,hm⟩:∃m,xs.length=m:=⟨_,rfl⟩;have HM:=Lib.hid hm;rw [hm] at h4 h5 hlen ME RS;rw [hm];clear hm h4;obtain ⟨ht1,ht8⟩:=ht;have hn8:n≤8:=by omega
  go_enter Try.func15,Try.ntmps15;go_upto_region 5 with (first
   | (go_at_call 20; refine (P.out _).mono ?_; rintro e w0 ⟨rfl,rfl⟩)
   | (go_at_call 27; refine (EV.out _).mono ?_; rintro e w1 ⟨rfl,hb1⟩)
   | (refine wpList_store_row rfl 41 _ _ rfl (w1.heap.size) _ rfl rfl 41 _ (heap_alloc_new _ _) (by rw [List.size_toArray,List.length_map,all8_len]; kernel_rfl) (by simp [all8]) (by simp [Value.oneCell']) ?_))
  rw [World.setRow_alloc_new];obtain ⟨W,hW,HB,R0,R1,hz⟩:=two_newN w1 (.cells ((all8 n).map Value.bool).toArray 41) (.cells #[.bool false,.bool false,.bool false,.bool false,.bool false,.bool false,.bool false,.bool false] 41);have A0:Hid (ArrAt W w1.heap.size 41 (all8 n)):=⟨R0.out,all8_len n⟩;have A1:Hid (ArrAt W (w1.heap.size+1) 41 none8):=⟨R1.out,rfl⟩;have HB0:=Lib.hid (below_then hb1 HB.out);have hsz:=hb1.size;rw [hW];obtain ⟨A,hA⟩:∃A,w1.heap.size=A:=⟨_,rfl⟩;rw [hA] at A0 A1 hsz ⊢;have H5:Hid (∀i,i<m→∃b off,a=some ⟨b,off,none⟩∧b<w.heap.size∧w.cell? ⟨b,off+i,none⟩=some (.int .i64 (xs.getD i 0))):=h5;clear hW HB R0 R1 hz hb1 hA h5;have hZ:Hid ((none8.map Value.bool).toArray=#[.bool false,.bool false,.bool false,.bool false,.bool false,.bool false,.bool false,.bool false]):=rfl;have R00:Hid (runM n (none8,0) (xs.take 0)=(none8,0)):=rfl;go_wp2;go_loopw [7,17] (fun p c wr=>∃i q:Nat,∃s:List Bool,i≤m∧c=.int .i64 i∧p=.int .i64 q∧Hid (runM n (none8,0) (xs.take i)=(s,q))∧Hid (ArrAt wr A 41 (all8 n))∧Hid (ArrAt wr (A+1) 41 s)∧Hid (Below w.heap.size w wr)) (fun _ c _=>m - (intOf c).toNat)
  case atStart=>exact ⟨0,0,none8,by omega,rfl,rfl,R00,A0,A1,HB0⟩
  case round=>
   clear A0 A1 HB0 EV P;obtain ⟨i,q,s,hi,rfl,rfl,hrun,aA,aB,hb⟩:=hrel;obtain ⟨wo,rfl⟩:∃wo:World,wo=wr:=⟨_,rfl⟩;by_cases hlt:i<m
   ·have hq:=PB.out (i+1)
    have RSi:=RS.out i hlt;rw [hrun.out] at RSi;have hqm:q≤1000:=by
     have h1:=PB.out i;rw [hrun.out] at h1;have h2:(xs.take i).length≤i:=by simp; omega
     simp at h1; omega
    clear hq;have GDi:=GD.out (xs.take i);rw [hrun.out] at GDi;obtain ⟨b,off,rfl,hbl,hcell⟩:=H5.out i hlt;have hcell:=(hb.out.cell (p:=⟨b,off+i,none⟩) hbl).trans hcell;obtain ⟨x,hx⟩:∃x,xs.getD i 0=x:=⟨_,rfl⟩;rw [hx] at hcell RSi;clear hx hbl;by_cases hx0:x<0
    ·rw [stepM_out n _ _ (by omega)] at RSi
     have F:=Lib.hid RSi;clear RSi GDi;go_wp2;go_roundw
     case rel=>exact ⟨i+1,q,s,by omega,by go_num,rfl,F,aA,aB,hb⟩
     case measure=>simp [intOf]; omega
    ·by_cases hxn:(n:Int)≤x
     ·rw [stepM_out n _ _ (by omega)] at RSi
      have F:=Lib.hid RSi;clear RSi GDi;go_wp2;go_roundw
      case rel=>exact ⟨i+1,q,s,by omega,by go_num,rfl,F,aA,aB,hb⟩
      case measure=>simp [intOf]; omega
     ·obtain ⟨k,rfl⟩:∃k:Nat,x=k:=⟨x.toNat,by omega⟩
      have hk8:k<8:=by omega
      have hkI:(k:Int)<(n:Int):=by omega
      obtain ⟨c1,c2⟩:=aB.out.cell k hk8;have S1:=Lib.hid (aB.out.set k true);have S2:=Lib.hid (aA.out.other (k:=A+1) (i:=k) (v:=.bool true) (by omega));have S3:=Lib.hid (hb.out.setCell (p:=⟨A+1,k,none⟩) (by simp; omega) (.bool true));have hsl:=GDi.1;have hE:=run_eql_set (s.set k true) (all8 n) (by simpa using hsl) (all8_len n);unfold stepM at RSi;rw [if_pos (by omega),Int.toNat_natCast] at RSi;dsimp only at RSi;generalize s.getD k false=x0 at c1;have hsl2:(s.set k true).length=8:=by simpa using hsl
      obtain ⟨s2,hs2⟩:∃s2,s.set k true=s2:=⟨_,rfl⟩;rw [hs2] at S1 hE RSi hsl2;obtain ⟨wu,hwu⟩:∃wu,wo.setCell ⟨A+1,k,none⟩ (.bool true)=wu:=⟨_,rfl⟩;rw [hwu] at S1 S2 S3;have HWU:=Lib.hid hwu;clear hs2 hsl GDi hwu;have HLN:Hid (∀r:List Bool,r.length=8→(r.map Value.bool).toArray.size=8):=fun r h=>by simp [h]
      have HI8:Hid ((Try.prog.info? 41).map (·.size)=some 8):=by show _=_; kernel_rfl
      by_cases hc:s2=all8 n
      ·rw [if_pos hc] at RSi
       rw [decide_eq_true hc] at hE;have F:=Lib.hid RSi;clear RSi hc;go_upto_region 11 with fail
       rw [HWU.out];go_wp2_with (first
        | (refine wpList_load_row rfl 41 _ rfl (A+1) rfl 41 _ _ _ S1.out.1 Try.underlying41 rfl (by rw [HLN.out _ hsl2]; exact HI8.out) ?_)
        | (refine wpList_load_row rfl 41 _ rfl A rfl 41 _ _ _ S2.out.1 Try.underlying41 rfl (by rw [HLN.out _ (all8_len n)]; exact HI8.out) ?_)
        | (refine wpList_store_row rfl 41 _ _ rfl (A+1) _ rfl rfl 41 _ S1.out.1 (by kernel_rfl) (by rw [HLN.out _ hsl2]; rfl) (by simp [Value.oneCell']) ?_))
       go_roundw
       case rel=>exact ⟨i+1,q+1,none8,by omega,by go_num,by go_num,F,Lib.hid (S2.out.rowOther (by omega)),Lib.hid (S1.out.row none8 rfl),Lib.hid (row_belowN S3.out (by omega) _)⟩
       case measure=>simp [intOf]; omega
      ·rw [if_neg hc] at RSi
       rw [decide_eq_false hc] at hE;have F:=Lib.hid RSi;clear RSi hc;go_upto_region 11 with fail
       rw [HWU.out];go_wp2_with (first
        | (refine wpList_load_row rfl 41 _ rfl (A+1) rfl 41 _ _ _ S1.out.1 Try.underlying41 rfl (by rw [HLN.out _ hsl2]; exact HI8.out) ?_)
        | (refine wpList_load_row rfl 41 _ rfl A rfl 41 _ _ _ S2.out.1 Try.underlying41 rfl (by rw [HLN.out _ (all8_len n)]; exact HI8.out) ?_))
       go_roundw
       case rel=>exact ⟨i+1,q,s2,by omega,by go_num,rfl,F,S2,S1,S3⟩
       case measure=>simp [intOf]; omega
   ·obtain rfl:i=m:=by omega
    have hrn:=hrun.out;have E:=ME.out;rw [hrn] at E;have E2:=Lib.hid E;clear E hrn;go_wp2;go_ret;exact ⟨ret_i64 (by rw [E2.out]),hb.out⟩
 ·rw [decide_eq_false ht] at P
  have RO:=Lib.hid (measP_out t xs ht);clear ht;go_enter Try.func15,Try.ntmps15;go_wp2_with (go_at_call 20; refine (P.out _).mono ?_; rintro e w1 ⟨rfl,rfl⟩);go_ret;exact ⟨ret_i64 (by rw [RO.out]; rfl),Below.refl _ _⟩
theorem rmeasure_any (t:Int) (v:Value) (xs:List Int) (w:World) (hv:SlI w .i64 v xs) (hlen:xs.length≤1000) :
  Calls Try.prog 16 #[v,.int .i64 t] w fun e w'=>e=.returned (.int .i64 (measP t xs))∧Below w.heap.size w w':=by
 obtain ⟨_,_,a,cap,rfl,h4,h5⟩:=hv;by_cases ht:1≤t∧t≤8
 ·obtain ⟨n,rfl⟩:∃n:Nat,t=n:=⟨t.toNat,by omega⟩
  have ME:Hid ((measP n xs:Int)=((runM n (none8,0) (xs.take xs.length)).2:Int)):=by show _=_; rw [List.take_length,measP_in n xs (by omega) (by omega)]
  have RS:=Lib.hid fun i h=>runM_snoc n (none8,0) xs i h;have GD:=Lib.hid fun l=>goodM_run n (by omega) (by omega) l (none8,0) (goodM_none n (by omega));have PB:=Lib.hid fun i=>(runM_le n (xs.take i) (none8,0)).2;obtain ⟨m,hm⟩:∃m,xs.length=m:=⟨_,rfl⟩;have HM:=Lib.hid hm;rw [hm] at h4 h5 hlen ME RS;rw [hm];clear hm h4;obtain ⟨ht1,ht8⟩:=ht;have hn8:n≤8:=by omega
  obtain ⟨W,hW⟩:∃W,w.alloc (.cells #[.bool false,.bool false,.bool false,.bool false,.bool false,.bool false,.bool false,.bool false] 40)=W:=⟨_,rfl⟩;have A1:Hid (ArrAt W w.heap.size 40 none8):=⟨by rw [← hW]; exact heap_alloc_new _ _,rfl⟩;have HB0:Hid (Below w.heap.size w W):=by rw [← hW]; exact below_new (Below.refl _ _) _
  have HW:=Lib.hid hW;have H5:Hid (∀i,i<m→∃b off,a=some ⟨b,off,none⟩∧b<w.heap.size∧w.cell? ⟨b,off+i,none⟩=some (.int .i64 (xs.getD i 0))):=h5;clear hW h5;have hZ:Hid ((none8.map Value.bool).toArray=#[.bool false,.bool false,.bool false,.bool false,.bool false,.bool false,.bool false,.bool false]):=rfl;have R00:Hid (runM n (none8,0) (xs.take 0)=(none8,0)):=rfl;go_enter Try.func16,Try.ntmps16;go_upto_region 4 with fail
  rw [HW.out];go_wp2;go_loopw [6,7,8] (fun z p c wr=>∃i q:Nat,∃s:List Bool,i≤m∧c=.int .i64 i∧p=.int .i64 q∧z=.int .i64 (cntM s)∧Hid (runM n (none8,0) (xs.take i)=(s,q))∧Hid (ArrAt wr w.heap.size 40 s)∧Hid (Below w.heap.size w wr)) (fun _ _ c _=>m - (intOf c).toNat)
  case atStart=>exact ⟨0,0,none8,by omega,rfl,rfl,rfl,R00,A1,HB0⟩
  case round=>
   clear A1 HB0 HW;obtain ⟨i,q,s,hi,rfl,rfl,rfl,hrun,aB,hb⟩:=hrel;obtain ⟨wo,rfl⟩:∃wo:World,wo=wr:=⟨_,rfl⟩;by_cases hlt:i<m
   ·have RSi:=RS.out i hlt
    rw [hrun.out] at RSi;have hqm:q≤1000:=by
     have h1:=PB.out i;rw [hrun.out] at h1;have h2:(xs.take i).length≤i:=by simp; omega
     simp at h1; omega
    have GDi:=GD.out (xs.take i);rw [hrun.out] at GDi;have hcl:cntM s≤8:=by have:=cntM_le s; have:=aB.out.2; omega
    obtain ⟨b,off,rfl,hbl,hcell⟩:=H5.out i hlt;have hcell:=(hb.out.cell (p:=⟨b,off+i,none⟩) hbl).trans hcell;obtain ⟨x,hx⟩:∃x,xs.getD i 0=x:=⟨_,rfl⟩;rw [hx] at hcell RSi;clear hx hbl;by_cases hx0:x<0
    ·rw [stepM_out n _ _ (by omega)] at RSi
     have F:=Lib.hid RSi;clear RSi GDi;go_wp2;go_roundw
     case rel=>exact ⟨i+1,q,s,by omega,by go_num,rfl,rfl,F,aB,hb⟩
     case measure=>simp [intOf]; omega
    ·by_cases hxn:(n:Int)≤x
     ·rw [stepM_out n _ _ (by omega)] at RSi
      have F:=Lib.hid RSi;clear RSi GDi;go_wp2;go_roundw
      case rel=>exact ⟨i+1,q,s,by omega,by go_num,rfl,rfl,F,aB,hb⟩
      case measure=>simp [intOf]; omega
     ·obtain ⟨k,rfl⟩:∃k:Nat,x=k:=⟨x.toNat,by omega⟩
      have hk8:k<8:=by omega
      have hkI:(k:Int)<(n:Int):=by omega
      obtain ⟨c1,c2⟩:=aB.out.cell k hk8;have S1:=Lib.hid (aB.out.set k true);have S3:=Lib.hid (hb.out.setCell (p:=⟨w.heap.size,k,none⟩) (by simp) (.bool true));have hsl:=aB.out.2;cases hsk:s.getD k false with
      | true=>
       rw [stepM_old n _ k GDi (by omega) hsk] at RSi;rw [hsk] at c1;have F:=Lib.hid RSi;clear RSi GDi hsk hsl;go_wp2;go_roundw
       case rel=>exact ⟨i+1,q,s,by omega,by go_num,rfl,rfl,F,aB,hb⟩
       case measure=>simp [intOf]; omega
      | false=>
       rw [hsk] at c1;have CS:=Lib.hid (cnt_set s k (by omega) hsk);have HLN:Hid (((s.set k true).map Value.bool).toArray.size=8):=by show _=_; simp [hsl]
       have HI8:Hid ((Try.prog.info? 40).map (·.size)=some 8):=by show _=_; kernel_rfl
       by_cases hc:cntM s+1=n
       ·rw [stepM_last n hn8 _ k GDi (by omega) hsk hc] at RSi
        have F:=Lib.hid RSi;have CZ:Hid (cntM none8=0):=by show _=_; decide
        have hcI:((cntM s:Int)+1 == (n:Int))=true:=by simp; omega
        clear RSi GDi hsk hsl hc;generalize cntM s=z at *;go_wp2_with (refine wpList_store_row rfl 40 _ _ rfl (w.heap.size) _ rfl rfl 40 _ S1.out.1 (by kernel_rfl) (by rw [HLN.out]; rfl) (by simp [Value.oneCell']) ?_);go_roundw
        case rel=>exact ⟨i+1,q+1,none8,by omega,by go_num,by go_num,by rw [CZ.out]; rfl,F,Lib.hid (S1.out.row none8 rfl),Lib.hid (row_belowN S3.out (by omega) _)⟩
        case measure=>simp [intOf]; omega
       ·rw [stepM_more n hn8 _ k GDi (by omega) hsk hc] at RSi
        have F:=Lib.hid RSi;have hcI:((cntM s:Int)+1 == (n:Int))=false:=by simp; omega
        obtain ⟨z,hz⟩:∃z,cntM s=z:=⟨_,rfl⟩;have HZZ:=Lib.hid hz;rw [hz] at hcI hcl CS;rw [hz];clear RSi GDi hsk hsl hc hz;go_wp2;go_roundw
        case rel=>exact ⟨i+1,q,s.set k true,by omega,by go_num,rfl,by rw [CS.out]; go_num,F,S1,S3⟩
        case measure=>simp [intOf]; omega
   ·obtain rfl:i=m:=by omega
    have hrn:=hrun.out;have E:=ME.out;rw [hrn] at E;have E2:=Lib.hid E;clear E hrn;go_wp2;go_ret;exact ⟨ret_i64 (by rw [E2.out]),hb.out⟩
 ·have RO:=Lib.hid (measP_out t xs ht)
  rcases (show t<1∨8<t by omega) with h | h
  ·clear ht
   go_enter Try.func16,Try.ntmps16;go_wp2;go_ret;exact ⟨ret_i64 (by rw [RO.out]; rfl),Below.refl _ _⟩
  ·have h1:1≤t:=by omega
   clear ht;go_enter Try.func16,Try.ntmps16;go_wp2;go_ret;exact ⟨ret_i64 (by rw [RO.out]; rfl),Below.refl _ _⟩
structure MemM where
 words:List Int
 lists:List (List Int)
 tick:Int
structure AccM where
 kind:Int
 addr:Int
 old:Int
 new:Int
 til:Int
structure AccM.ok (a:AccM):Prop where
 kind:a.kind=IntKind.i64.wrap a.kind
 addr:a.addr=IntKind.i64.wrap a.addr
 old:a.old=IntKind.u64.wrap a.old
 new:a.new=IntKind.u64.wrap a.new
 til:a.til=IntKind.i64.wrap a.til
def SlL (w:World) (v:Value) (us:List Value) (ll:List (List Int)):Prop:=
 ll.length≤140737488351232∧us.length=ll.length∧∃a cap,v=.slice a ll.length cap∧ll.length≤cap∧
  ∀t,t<ll.length→∃b off,a=some ⟨b,off,none⟩∧b<w.heap.size∧w.cell? ⟨b,off+t,none⟩=some (us.getD t (.slice none 0 0))∧SlI w .i64 (us.getD t (.slice none 0 0)) (ll.getD t [])
theorem SlL.below {w w':World} {v:Value} {us:List Value} {ll:List (List Int)} (h:SlL w v us ll) (hb:Below w.heap.size w w'):SlL w' v us ll:=by
 obtain ⟨h1,h2,a,cap,h3,h4,h5⟩:=h;refine ⟨h1,h2,a,cap,h3,h4,fun t ht=>?_⟩;obtain ⟨b,off,e,hlt,hc,hu⟩:=h5 t ht;exact ⟨b,off,e,Nat.lt_of_lt_of_le hlt hb.size,(hb.cell (p:=⟨b,off+t,none⟩) hlt).trans hc,hu.below hb⟩
theorem SlL.drew {w:World} {v:Value} {us:List Value} {ll:List (List Int)} (h:SlL w v us ll) (n:Nat):SlL (w.drewN n) v us ll:=h
theorem SlL.len {w:World} {v:Value} {us:List Value} {ll:List (List Int)} (h:SlL w v us ll):∃a cap,v=.slice a ll.length cap∧ll.length≤cap:=by
 obtain ⟨_,_,a,cap,rfl,h4,_⟩:=h;exact ⟨a,cap,rfl,h4⟩
theorem SlL.nil (w:World):SlL w (.slice none 0 0) [] []:=⟨by simp,rfl,none,0,rfl,Nat.le_refl _,fun t ht=>by simp at ht⟩
theorem SlL.open {w:World} {v:Value} {us:List Value} {ll:List (List Int)} (h:SlL w v us ll) (hne:ll≠[]) :
  ∃b off cap,v=.slice (some ⟨b,off,none⟩) ll.length cap∧ll.length≤cap∧b<w.heap.size∧(∀t,t<ll.length→w.cell? ⟨b,off+t,none⟩=some (us.getD t (.slice none 0 0)))∧∀t,t<ll.length→SlI w .i64 (us.getD t (.slice none 0 0)) (ll.getD t []):=by
 obtain ⟨_,_,a,cap,rfl,h4,h5⟩:=h;obtain ⟨b,off,rfl,hlt,_⟩:=h5 0 (List.length_pos_iff.2 hne);refine ⟨b,off,cap,rfl,h4,hlt,fun t ht=>?_,fun t ht=>?_⟩
 ·obtain ⟨b',off',e,_,hc,hu⟩:=h5 t ht
  simp only [Option.some.injEq,Addr.mk.injEq] at e;obtain ⟨rfl,rfl,_⟩:=e;exact hc
 ·obtain ⟨b',off',e,_,hc,hu⟩:=h5 t ht
  exact hu
def MemV (w:World) (v:Value) (m:MemM):Prop:=
 ∃vw vl us,v=.agg #[vw,vl,.int .i64 m.tick]∧SlI w .u64 vw m.words∧SlL w vl us m.lists
theorem MemV.below {w w':World} {v:Value} {m:MemM} (h:MemV w v m) (hb:Below w.heap.size w w'):MemV w' v m:=by
 obtain ⟨vw,vl,us,e,h1,h2⟩:=h; exact ⟨vw,vl,us,e,h1.below hb,h2.below hb⟩
structure NewPart (w w' w2:World):Prop where
 size:w'.heap.size≤w2.heap.size
 same:∀j,w.heap.size≤j→j<w'.heap.size→w2.heap[j]?=w'.heap[j]?
def Wide (G:World→Prop):Prop:=∀w1 w2,G w1→Below w1.heap.size w1 w2→G w2
def Nx (G:World→Prop) (w w':World):World→Prop:=fun w2=>G w2∧NewPart w w' w2
theorem Nx.at {G:World→Prop} {w w':World} (hG:G w) (h:Wide G) (hb:Below w.heap.size w w'):Nx G w w' w':=
 ⟨h _ _ hG hb,⟨Nat.le_refl _,fun _ _ _=>rfl⟩⟩
def StM (G:World→Prop) (v:Value) (m:MemM):Prop:=
 ∃vw vl us,v=.agg #[vw,vl,.int .i64 m.tick]∧∀w,G w→SlI w .u64 vw m.words∧SlL w vl us m.lists
theorem StM.at {G:World→Prop} {v:Value} {m:MemM} {w:World} (h:StM G v m) (hG:G w):MemV w v m:=by
 obtain ⟨vw,vl,us,e,h1⟩:=h; exact ⟨vw,vl,us,e,h1 w hG⟩
def Over (w0:World):World→Prop:=fun w=>Below w0.heap.size w0 w
theorem MemV.over {w:World} {v:Value} {m:MemM} (h:MemV w v m):StM (Over w) v m:=by
 obtain ⟨vw,vl,us,e,h1,h2⟩:=h; exact ⟨vw,vl,us,e,fun w2 hb=>⟨h1.below hb,h2.below hb⟩⟩
theorem run_append_zero {w:World} {T ty e:TypeId} {i:TypeInfo} (ht:Try.prog.underlying T=some (.slice e)) (hi:Try.prog.info? e=some i) (A B:Option Addr) (n c c':Nat) (hn:n≤c) :
  (Builtin.append_ #[T,T] ty #[.slice A n c,.slice B 0 c']).run Try.prog w=.ok (.slice A n c) w:=by
 cases A <;> cases B <;> simp [Builtin.append_,run_underlying ht,sizeOf,typeInfo,hi,Builtin.lenOf,Builtin.firstCells,storeCells,loadCells,loadCellsFrom,Result.andThen,hn]
theorem run_app_i64 (w:World) (ty:TypeId) (base:Nat) (v:Value) (l:List Int) (hown:OwnI w base 3 .i64 v l) (xv:Value) (l2:List Int) (hS:SlI w .i64 xv l2)
  (hl:l.length≤1000000) (hl2:l2.length≤1000000) (hb:base≤w.heap.size) :
  ∃v' w',(Builtin.append_ #[22,22] ty #[v,xv]).run Try.prog w=.ok v' w'∧OwnI w' base 3 .i64 v' (l ++ l2)∧w.grownBy w' v.ownBlock:=by
 obtain ⟨i0,hi,hz0,hz1,hz2⟩:=info_parts Try.info_i64;by_cases hne:l2=[]
 ·subst hne
  obtain ⟨B,c',rfl,-⟩:=hS.len;have e:∃A c,v=.slice A l.length c∧l.length≤c:=by
   rcases hown.shape with ⟨rfl,rfl⟩ | ⟨g,cap,rfl,_,_,h,_⟩
   ·exact ⟨_,_,rfl,Nat.le_refl _⟩
   ·exact ⟨_,_,rfl,h⟩
  obtain ⟨A,c,rfl,hc⟩:=e;refine ⟨_,w,run_append_zero (by kernel_rfl) hi A B l.length c c' hc,by simpa using hown,grownBy_refl _ _⟩
 ·obtain ⟨b,off,cap,rfl,hcap,hbk,hc⟩:=hS.open hne
  obtain ⟨v',w',hr,h2,h3,-⟩:=run_append_own (P:=Try.prog) w base 22 ty 3 i0 (.int .i64 0) 1 _ (by kernel_rfl) hi hz0 hz1 rfl rfl (by decide) v l.length _ hown ⟨b,off,none⟩ l2.length cap (l2.map (Value.int .i64)) (by simp) (by
   intro j u hj;rw [add_plain];simp only [List.getElem?_map,Option.map_eq_some_iff] at hj;obtain ⟨y,hy,rfl⟩:=hj;have hjl:j<l2.length:=(List.getElem?_eq_some_iff.1 hy).1;rw [hc j hjl,List.getD_eq_getElem?_getD,hy]; rfl) (by intro u hu; simp only [List.mem_map] at hu; obtain ⟨y,_,rfl⟩:=hu; rfl) (by unfold maxLen; omega) (by rw [hz2]; omega) hb
  refine ⟨v',w',hr,?_,h3⟩;unfold OwnI;rw [List.length_append,List.map_append];exact h2
theorem wp_app_i64 (w:World) {ops:Array Oper} {rest:List Oper} {o:Oper} {a:Act} {Q:Exit→Act→World→Prop}
  (hg:o.guard=none) (s x:Operand) (hop:o.op=Op.call { callee:=Callee.builtin Builtin.append,args:=#[s,x],argTypes:=#[22,22] })
  (base:Nat) (v:Value) (l:List Int) (hs:a.eval s=v) (hown:OwnI w base 3 .i64 v l) (xv:Value) (l2:List Int) (hx:a.eval x=xv) (hS:SlI w .i64 xv l2)
  (hl:l.length≤1000000) (hl2:l2.length≤1000000) (hb:base≤w.heap.size)
  (hK:∀v' w',OwnI w' base 3 .i64 v' (l ++ l2)→w.grownBy w' v.ownBlock→wpList Try.prog ops Q rest (a.put o.dst v') w') :
  wpList Try.prog ops Q (o :: rest) a w:=by
 obtain ⟨v',w',hr,h1,h2⟩:=run_app_i64 w o.type base v l hown xv l2 hS hl hl2 hb;exact Lib.wpList_append_run w hg s x _ _ hop _ _ hs hx v' w' hr (hK v' w' h1 h2)
theorem Try.info_li:(Try.prog.info? 22).map (fun i=>(i.zero,i.size,i.bytes))=some (some (.slice none 0 0),1,24):=by kernel_rfl
theorem SlI.one {w:World} {k:IntKind} {v:Value} {l:List Int} (h:SlI w k v l):v.oneCell'=true:=by
 obtain ⟨_,_,a,cap,rfl,_⟩:=h; rfl
theorem SlL.each {w:World} {v:Value} {us:List Value} {ll:List (List Int)} (h:SlL w v us ll):∀t,t<ll.length→SlI w .i64 (us.getD t (.slice none 0 0)) (ll.getD t []):=by
 obtain ⟨_,_,_,_,_,_,h5⟩:=h;intro t ht;obtain ⟨_,_,_,_,_,h⟩:=h5 t ht;exact h
theorem wp_make0_i64 (w:World) {ops:Array Oper} {rest:List Oper} {o:Oper} {a:Act} {Q:Exit→Act→World→Prop}
  (hg:o.guard=none) (l c:Operand) (hop:o.op=Op.makeSlice 22 l c) (n:Nat) (C:Int) (hl:a.eval l=.int .i64 0) (hc:a.eval c=.int .i64 C) (hC:C=n) (hn:n≤1000000)
  (hK:∀w',OwnI w' w.heap.size 3 .i64 (.slice (some ⟨w.heap.size,0,none⟩) 0 n) []→Below w.heap.size w w'→wpList Try.prog ops Q rest (a.put o.dst (.slice (some ⟨w.heap.size,0,none⟩) 0 n)) w') :
  wpList Try.prog ops Q (o :: rest) a w:=by
 obtain ⟨i0,hi,hz0,hz1,hz2⟩:=info_parts Try.info_i64;refine wpList_make_own w hg l c _ hop w.heap.size 3 i0 (.int .i64 0) 1 Try.underlying22 hi hz0 hz1 _ _ _ n hl hc hC (by rw [hz2]; omega) (by unfold maxLen; omega) (Nat.le_refl _) fun w' h1 h2=>?_;exact hK w' h1 ((Below.refl _ _).grown h2 (Nat.le_refl _) (fun k hk=>by cases hk))
theorem roundsP_wrap (t:Int) (ks:List Int):∀x∈roundsP t ks,x=IntKind.i64.wrap x:=fun x hx=>by
 have:=roundsP_mem t ks x hx;exact i64_ok x (by omega) (by omega)
theorem roundsP_take_len (t:Int) (ks:List Int) (i:Nat):(roundsP t (ks.take i)).length≤8 * ks.length:=by
 have:=roundsP_len t (ks.take i);have:(ks.take i).length≤ks.length:=by simp; omega
 omega
theorem rounds_any (t:Int) (v:Value) (ks:List Int) (w:World) (hv:SlI w .i64 v ks) (hlen:ks.length≤100) :
  Calls Try.prog 13 #[.int .i64 t,v] w fun e w'=>∃u,e=.returned u∧SlI w' .i64 u (roundsP t ks)∧Below w.heap.size w w':=by
 have P:=Lib.hid fun w'=>possible_any t w';by_cases ht:1≤t∧t≤8
 ·rw [decide_eq_true ht] at P
  obtain ⟨n,rfl⟩:∃n:Nat,t=n:=⟨t.toNat,by omega⟩;have hv0:=hv;obtain ⟨_,_,a,cap,rfl,h4,h5⟩:=hv;have HL:=Lib.hid fun i=>roundsP_take_len n ks i;have HV:=Lib.hid hv0;have RS:=Lib.hid fun i h=>roundsP_snoc n ks i h;have RL:=Lib.hid fun k=>roundP_len n k;have R:=Lib.hid fun k w'=>round_any n k w';have RE:Hid (roundsP n (ks.take ks.length)=roundsP n ks):=by show _=_; rw [List.take_length]
  obtain ⟨m,hm⟩:∃m,ks.length=m:=⟨_,rfl⟩;have HM:=Lib.hid hm;rw [hm] at h4 h5 hlen HL RE RS ⊢;obtain ⟨c,hc⟩:∃c:Nat,n * m=c:=⟨_,rfl⟩;have hc8:c≤800:=by rw [← hc]; exact Nat.mul_le_mul (show n≤8 by omega) hlen
  have hmul:wrap64 ((n:Int) * (m:Int))=(c:Int):=by
   rw [← Int.natCast_mul,hc];unfold wrap64; omega
  have R0:Hid (roundsP n (ks.take 0)=[]):=rfl;clear hm hv0 h4 hc;go_enter Try.func13,Try.ntmps13;go_wp2_with (first
   | (go_at_call 20; refine (P.out _).mono ?_; rintro e w1 ⟨rfl,rfl⟩)
   | (at_make; refine wp_make0_i64 w rfl _ _ rfl c _ rfl rfl (by first | rfl | exact hmul) ?_ ?_; omega; intro w1 hown hgrow))
  have HO:=Lib.hid hown;have HB:=Lib.hid hgrow;clear hown hgrow;go_loopw [5,18] (fun p c wr=>∃i:Nat,∃u,u=p∧i≤m∧c=.int .i64 i∧Hid (OwnI wr w.heap.size 3 .i64 u (roundsP n (ks.take i)))∧Hid (Below w.heap.size w wr)) (fun _ c _=>m - (intOf c).toNat)
  case atStart=>exact ⟨0,_,rfl,by omega,rfl,by rw [R0.out]; exact HO,HB⟩
  case round=>
   obtain ⟨i,u,rfl,hi,rfl,ho,hb⟩:=hrel;obtain ⟨wo,rfl⟩:∃wo:World,wo=wr:=⟨_,rfl⟩;by_cases hlt:i<m
   ·obtain ⟨b,off,rfl,hbl,hcell⟩:=h5 i hlt
    have hcell:=(hb.out.cell (p:=⟨b,off+i,none⟩) hbl).trans hcell;have H5:=Lib.hid h5;have RSi:=Lib.hid (RS.out i hlt);have HLi:=Lib.hid (HL.out i);obtain ⟨x,hx⟩:∃x,ks.getD i 0=x:=⟨_,rfl⟩;rw [hx] at hcell RSi;clear h5 hx hbl;go_wp2_with (first
     | (go_at_call 11; refine (R.out _ _).mono ?_; rintro e w2 ⟨u2,rfl,hu2,hb2⟩)
     | (at_builtin; go_must (refine wp_app_i64 _ rfl _ _ rfl w.heap.size u _ rfl (ho.out.below hb2) u2 _ rfl hu2 (by have:=HLi.out; omega) (by have:=RL.out x; omega) (by have:=(below_then hb.out hb2).size; exact this) ?_); intro v3 w3 ho3 hg3))
    have hb3:Below w.heap.size w w3:=(below_then hb.out hb2).grown hg3 (below_then hb.out hb2).size ho.out.own_ge;rw [← RSi.out] at ho3;have F:=Lib.hid (And.intro ho3 hb3);clear ho3 hb3 hu2 hb2 hg3;go_wp2;go_roundw
    case rel=>exact ⟨i+1,v3,rfl,by omega,by go_num,F.out.1,F.out.2⟩
    case measure=>simp [intOf]; omega
   ·obtain rfl:i=m:=by omega
    have hwr:=Lib.hid (roundsP_wrap n ks);have hll:=Lib.hid (roundsP_len n ks);have HM2:=HM;clear h5;go_wp2;go_ret;exact ⟨u,rfl,by
     have h:=ho.out;rw [RE.out] at h;exact h.read (by have:=hll.out; have:=HM2.out; omega) hwr.out,hb.out⟩
 ·rw [decide_eq_false ht] at P
  have RO:=Lib.hid (roundsP_out t ks ht);clear ht hv;go_enter Try.func13,Try.ntmps13;go_wp2_with (go_at_call 20; refine (P.out _).mono ?_; rintro e w1 ⟨rfl,rfl⟩);go_ret;exact ⟨_,rfl,by rw [RO.out]; exact SlI.nil _ _,Below.refl _ _⟩
theorem rrounds_any (t:Int) (v:Value) (ks:List Int) (w:World) (hv:SlI w .i64 v ks) (hlen:ks.length≤100) :
  Calls Try.prog 14 #[.int .i64 t,v] w fun e w'=>∃u,e=.returned u∧SlI w' .i64 u (roundsP t ks)∧Below w.heap.size w w':=by
 have hv0:=hv;obtain ⟨_,_,a,cap,rfl,h4,h5⟩:=hv;have HL:=Lib.hid fun i=>roundsP_take_len t ks i;have HV:=Lib.hid hv0;have RS:=Lib.hid fun i h=>roundsP_snoc t ks i h;have RL:=Lib.hid fun k=>roundP_len t k;have R:=Lib.hid fun k w'=>rround_any t k w';have RE:Hid (roundsP t (ks.take ks.length)=roundsP t ks):=by show _=_; rw [List.take_length]
 obtain ⟨m,hm⟩:∃m,ks.length=m:=⟨_,rfl⟩;have HM:=Lib.hid hm;rw [hm] at h4 h5 hlen HL RE RS ⊢;have R0:Hid (roundsP t (ks.take 0)=[]):=rfl;clear hm hv0 h4;go_enter Try.func14,Try.ntmps14;go_wp2;go_loopw [5,6] (fun p c wr=>∃i:Nat,∃u,u=p∧i≤m∧c=.int .i64 i∧Hid (OwnI wr w.heap.size 3 .i64 u (roundsP t (ks.take i)))∧Hid (Below w.heap.size w wr)) (fun _ c _=>m - (intOf c).toNat)
 case atStart=>exact ⟨0,_,rfl,by omega,rfl,by rw [R0.out]; exact OwnI.nil _ _ _ _,Below.refl _ _⟩
 case round=>
  obtain ⟨i,u,rfl,hi,rfl,ho,hb⟩:=hrel;obtain ⟨wo,rfl⟩:∃wo:World,wo=wr:=⟨_,rfl⟩;by_cases hlt:i<m
  ·obtain ⟨b,off,rfl,hbl,hcell⟩:=h5 i hlt
   have hcell:=(hb.out.cell (p:=⟨b,off+i,none⟩) hbl).trans hcell;have H5:=Lib.hid h5;have RSi:=Lib.hid (RS.out i hlt);have HLi:=Lib.hid (HL.out i);obtain ⟨x,hx⟩:∃x,ks.getD i 0=x:=⟨_,rfl⟩;rw [hx] at hcell RSi;clear h5 hx hbl;go_wp2_with (first
    | (go_at_call 12; refine (R.out _ _).mono ?_; rintro e w2 ⟨u2,rfl,hu2,hb2⟩)
    | (at_builtin; go_must (refine wp_app_i64 _ rfl _ _ rfl w.heap.size u _ rfl (ho.out.below hb2) u2 _ rfl hu2 (by have:=HLi.out; omega) (by have:=RL.out x; omega) (by have:=(below_then hb.out hb2).size; exact this) ?_); intro v3 w3 ho3 hg3))
   have hb3:Below w.heap.size w w3:=(below_then hb.out hb2).grown hg3 (below_then hb.out hb2).size ho.out.own_ge;rw [← RSi.out] at ho3;have F:=Lib.hid (And.intro ho3 hb3);clear ho3 hb3 hu2 hb2 hg3;go_wp2;go_roundw
   case rel=>exact ⟨i+1,v3,rfl,by omega,by go_num,F.out.1,F.out.2⟩
   case measure=>simp [intOf]; omega
  ·obtain rfl:i=m:=by omega
   have hwr:=Lib.hid (roundsP_wrap t ks);have hll:=Lib.hid (roundsP_len t ks);have HM2:=HM;clear h5;go_wp2;go_ret;exact ⟨u,rfl,by
    have h:=ho.out;rw [RE.out] at h;exact h.read (by have:=hll.out; have:=HM2.out; omega) hwr.out,hb.out⟩
structure Ext (W:World) where
 wd:World
 below:Below W.heap.size W wd
instance (W:World):Nonempty (Ext W):=⟨⟨W,Below.refl _ _⟩⟩
theorem wp_region_ext {P:Program} {id:Nat} {Q:Exit→Act→World→Prop} {a:Act} {w:World} {l:List Oper} (W:World) (hm:P.follows .mixedOrders=true) (hB:Region.lexB .any l.toArray=true) (hW:Below W.heap.size W w)
  (h:wpQuiet P l.toArray (fun w'=>∃n:Ext W,w'=n.wd) (fun a'=>∀w',(∃n:Ext W,w'=n.wd)→Q .normal a' w') l a):(Code.region id l.toArray true).wp P Q a w:=
 wp_region_quiet (C:=fun w'=>∃n:Ext W,w'=n.wd) hm hB ⟨⟨_,below_drewN hW 1⟩,rfl⟩ (by simpa using h)
theorem calls_ext {P:Program} {f:FuncId} {args:Array Value} {W:World} {n:Ext W} {v:Value}
  (h:Calls P f args n.wd fun e w'=>e=.returned v∧Below n.wd.heap.size n.wd w'):Calls P f args n.wd fun e w''=>e=.returned v∧∃m:Ext W,w''=m.wd:=
 h.mono fun _ w' ⟨he,hm⟩=>⟨he,⟨w',below_then n.below hm⟩,rfl⟩
theorem awakeN_any (w:World):Calls Try.prog 8 #[] w fun e w'=>e=.returned (.bool true)∧Below w.heap.size w w':=by
 have L1:=Lib.hid (SlI.lit w .i64 3 [0,1,1,0,0] (by decide) (by decide));have E1:measP 2 [0,1,1,0,0]=2:=by decide +kernel
 have E2:boundP 1 1=480:=by decide +kernel
 have M:=Lib.hid fun w' h=>measure_any 2 (.slice (some ⟨w.heap.size,0,none⟩) 5 5) [0,1,1,0,0] w' h (by decide);have B:=Lib.hid fun w'=>bound_any 1 1 w';rw [E1] at M;rw [E2] at B;clear E1 E2;go_enter Try.func8,Try.ntmps8;go_wp2_with (first
  | (go_at_call 15; refine (M.out _ L1.out).mono ?_; rintro e w1 ⟨rfl,hb⟩)
  | (go_at_call 17; refine (B.out _).mono ?_; rintro e w' ⟨rfl,rfl⟩))
 go_ret;exact ⟨rfl,below_then (below_new (Below.refl _ _) _) hb⟩
theorem run_take_i64 (w:World) (a:Option Addr) (n cap k:Nat) (h:k≤cap):(Instr.slice 22 (.slice a n cap) none (some (.int .i64 (k:Int))) none).run Try.prog w=.ok (.slice (if cap=0 then a else a.map (·.add (0 * 1))) k cap) w:=by
 obtain ⟨i0,hi,hz0,hz1,hz2⟩:=info_parts Try.info_i64;rw [run_slice_h (P:=Try.prog) _ _ a n cap (by kernel_rfl) .i64 k (by omega) (by omega)];rw [show Try.prog.elem 22=3 by kernel_rfl];simp [sizeOf,typeInfo,hi,hz1,Result.andThen,sliced]
theorem run_drop_i64 (w:World) (a:Option Addr) (n cap k:Nat) (h:k≤n):(Instr.slice 22 (.slice a n cap) (some (.int .i64 (k:Int))) none none).run Try.prog w=.ok (.slice (if cap=k then a else a.map (·.add (k * 1))) (n - k) (cap - k)) w:=by
 obtain ⟨i0,hi,hz0,hz1,hz2⟩:=info_parts Try.info_i64;rw [run_slice_l (P:=Try.prog) _ _ a n cap (by kernel_rfl) .i64 k (by omega) (by omega)];rw [show Try.prog.elem 22=3 by kernel_rfl];simp [sizeOf,typeInfo,hi,hz1,Result.andThen,sliced]
theorem SlI.takeN {w:World} {K:IntKind} {a:Option Addr} {n cap:Nat} {l:List Int} (h:SlI w K (.slice a n cap) l) (i:Nat) (hi:i≤l.length):SlI w K (.slice (if cap=0 then a else a.map (·.add (0 * 1))) i cap) (l.take i):=by
 have e:(if cap=0 then a else a.map (·.add (0 * 1)))=a:=by
  split
  ·rfl
  ·cases a with
   | none=>rfl
   | some p=>simp [Addr.add]
 rw [e];obtain ⟨h1,h2,a',cap',e,h4,h5⟩:=h;simp only [Value.slice.injEq] at e;obtain ⟨rfl,rfl,rfl⟩:=e;have hl:(l.take i).length=i:=by simp; omega
 refine ⟨by omega,fun x hx=>h2 x (List.mem_of_mem_take hx),_,cap,by rw [hl],by omega,fun t ht=>?_⟩;rw [hl] at ht;obtain ⟨b,off,e,h6,h7⟩:=h5 t (by omega);refine ⟨b,off,e,h6,?_⟩;rw [show (l.take i).getD t 0=l.getD t 0 by simp [List.getD_eq_getElem?_getD,ht]];exact h7
theorem SlI.dropN {w:World} {K:IntKind} {a:Option Addr} {n cap:Nat} {l:List Int} (h:SlI w K (.slice a n cap) l) (i:Nat) (hi:i≤l.length):SlI w K (.slice (if cap=i then a else a.map (·.add (i * 1))) (n - i) (cap - i)) (l.drop i):=by
 obtain ⟨h1,h2,a',cap',e,h4,h5⟩:=h;simp only [Value.slice.injEq] at e;obtain ⟨rfl,rfl,rfl⟩:=e;have hl:(l.drop i).length=l.length - i:=by simp
 by_cases hlt:i<l.length
 ·obtain ⟨b,off,rfl,-,-⟩:=h5 0 (by omega)
  rw [if_neg (by omega),show (Option.map (fun x:Addr=>x.add (i * 1)) (some ⟨b,off,none⟩))=some ⟨b,off+i,none⟩ by simp [Addr.add]];refine ⟨by omega,fun x hx=>h2 x (List.mem_of_mem_drop hx),_,cap - i,by rw [hl],by omega,fun t ht=>?_⟩;rw [hl] at ht;obtain ⟨b',off',e,h6,h7⟩:=h5 (i+t) (by omega);simp only [Option.some.injEq,Addr.mk.injEq,and_true] at e;obtain ⟨rfl,rfl⟩:=e;refine ⟨b,off+i,rfl,h6,?_⟩;rw [show (l.drop i).getD t 0=l.getD (i+t) 0 by simp [List.getD_eq_getElem?_getD],show off+i+t=off+(i+t) by omega];exact h7
 ·have e1:l.drop i=[]:=List.drop_eq_nil_of_le (by omega)
  have e2:l.length - i=0:=by omega
  rw [e1,e2];exact ⟨by simp,by simp,_,_,rfl,Nat.zero_le _,fun t ht=>by simp at ht⟩
section
variable {P:Program} {ops:Array Oper} {Q:Exit→Act→World→Prop} {md:Region.Mode} {S:World→Prop} {k:Nat}
def wpAnyU (P:Program) (md:Region.Mode) (ops:Array Oper) (Q:Exit→Act→World→Prop) (S:World→Prop) (k:Nat):Nat→Array Bool→Act→World→Prop
 | 0,listed,a,w=>Region.ready md ops listed=[]∧Q .normal a w
 | fuel+1,listed,a,w=>
  (Region.ready md ops listed=[]→Q .normal a w)∧
  ∀i∈Region.ready md ops listed,wpOp P ops Q i (fun a' w'=>((listed.setIfInBounds i true).getD k true=false→S w')∧wpAnyU P md ops Q S k fuel (listed.setIfInBounds i true) a' w') a w
theorem wpAny_of_until:∀(fuel:Nat) (listed:Array Bool) (a:Act) (w:World),wpAnyU P md ops Q S k fuel listed a w→wpAny P md ops Q fuel listed a w
 | 0,_,_,_,h=>h
 | fuel+1,_,_,_,h=>⟨h.1,fun i hi=>wpOp_mono (fun a' w' h'=>wpAny_of_until fuel _ a' w' h'.2) (h.2 i hi)⟩
def waitsFor (md:Region.Mode) (ops:Array Oper) (k i:Nat):Bool:=k != i && (match ops[k]? with | some o=>o.after.any (fun e=>Region.binds md e && e.on == i) | none=>false)
theorem waitsFor_spec {i:Nat} (h:waitsFor md ops k i=true):k≠i∧∃o e,ops[k]?=some o∧e∈o.after∧Region.binds md e=true∧e.on=i:=by
 simp only [waitsFor,Bool.and_eq_true,bne_iff_ne,ne_eq] at h;obtain ⟨h1,h2⟩:=h;refine ⟨h1,?_⟩;cases ho:ops[k]? with
 | none=>rw [ho] at h2; cases h2
 | some o=>
  rw [ho] at h2;simp only [Array.any_eq_true] at h2;obtain ⟨j,hj,hh⟩:=h2;simp only [Bool.and_eq_true,beq_iff_eq] at hh;exact ⟨o,_,rfl,Array.getElem_mem hj,hh.1,hh.2⟩
theorem wpAnyU_first {i:Nat} {oi:Oper} {v:Value} (hi:ops[i]?=some oi) (hsel:∀(j:Nat) (o:Oper) cs b,ops[j]?=some o→o.op≠.select cs b)
  (hQ:∀c a w,Q (.panic c) (a.put oi.dst v) w→Q (.panic c) a w) (hk:waitsFor md ops k i=true) :
  ∀(fuel:Nat) (listed:Array Bool) (a:Act) (w:World),
   (∀j oj,ops[j]?=some oj→j≠i→listed.getD j true=false→(∀e∈oj.after,Region.binds md e=true→e.on≠i)→oi.apart ops oj=true)→
   i∈Region.ready md ops listed→listed.getD k true=false→YieldsIf P ops S oi v a→S w→
   wpAnyU P md ops Q S k fuel (listed.setIfInBounds i true) (a.put oi.dst v) w→wpAnyU P md ops Q S k (fuel+1) listed a w:=by
 obtain ⟨hki,ok,ek,hok,hek,hbk,honk⟩:=waitsFor_spec hk;intro fuel;induction fuel with
 | zero=>
  intro listed a w _ hr _ hy hS H;refine ⟨fun h=>(by rw [h] at hr; cases hr),fun j hj=>?_⟩;by_cases hji:j=i
  ·subst hji; exact hy.wpOp hi hS ⟨fun _=>hS,H⟩
  ·have:=ready_mono hj hji
   rw [H.1] at this;cases this
 | succ fuel ih=>
  intro listed a w hfree hr hkl hy hS H;refine ⟨fun h=>(by rw [h] at hr; cases hr),fun j hj=>?_⟩;by_cases hji:j=i
  ·subst hji; exact hy.wpOp hi hS ⟨fun _=>hS,H⟩
  ·have h1:=H.2 j (ready_mono hj hji)
   obtain ⟨hjun,oj,hoj,hall⟩:=mem_ready.1 hj;have hnot:∀e∈oj.after,Region.binds md e=true→e.on≠i:=fun e he hb heq=>by
    have h1:=hall e he hb;have h0:=(mem_ready.1 hr).1;rw [heq] at h1;rcases Nat.lt_or_ge i listed.size with h' | h'
    ·simp [h'] at h0 h1; rw [h0] at h1; cases h1
    ·simp [Array.getElem?_eq_none h'] at h1
   have hjk:j≠k:=fun e=>by
    subst e;rw [hok] at hoj;cases hoj;exact hnot ek hek hbk honk
   have h2:=wpOp_putIf hoj (hfree j oj hoj hji hjun hnot) (fun cs b=>hsel i oi cs b hi) (fun cs b=>hsel j oj cs b hoj) hQ hy h1;have hfree':∀k ok,ops[k]?=some ok→k≠i→(listed.setIfInBounds j true).getD k true=false→
     (∀e∈ok.after,Region.binds md e=true→e.on≠i)→oi.apart ops ok=true:=fun k ok hk hki hun hno=>by
    refine hfree k ok hk hki ?_ hno;by_cases hjk:j=k
    ·subst hjk; exact hjun
    ·rw [getD_set_ne true hjk] at hun; exact hun
   have hkj:(listed.setIfInBounds j true).getD k true=false:=by rw [getD_set_ne true hjk]; exact hkl
   have hkij:((listed.setIfInBounds i true).setIfInBounds j true).getD k true=false:=by rw [getD_set_ne true hjk,getD_set_ne true (Ne.symm hki)]; exact hkl
   refine wpOp_mono (fun a' w' h3=>⟨fun _=>h3.2.1 hkij,ih (listed.setIfInBounds j true) a' w' hfree' (ready_mono hr (Ne.symm hji)) hkj h3.1 (h3.2.1 hkij) ?_⟩) h2;rw [Array.setIfInBounds_comm _ _ hji];exact h3.2.2
inductive ListAt {α:Type}:List α→Nat→α→Prop
 | zero {x:α} {l:List α}:ListAt (x :: l) 0 x
 | succ {x y:α} {l:List α} {n:Nat} (h:ListAt l n x):ListAt (y :: l) (n+1) x
theorem ListAt.get {α:Type} {l:List α} {n:Nat} {x:α} (h:ListAt l n x):l.toArray[n]?=some x:=by
 induction h with
 | zero=>simp
 | succ h ih=>simpa using ih
theorem wpAnyU_take {l:List Oper} (i:Nat) {oi:Oper} {v:Value} {fuel:Nat} {listed:Array Bool} {a:Act} {w:World} (hi:ListAt l i oi)
  (hs:Region.noSelect l.toArray=true) (hf:Region.free md l.toArray listed i=true) (hr:(Region.ready md l.toArray listed).contains i=true) (hk:waitsFor md l.toArray k i=true) (hkl:listed.getD k true=false)
  (hQ:∀c a w,Q (.panic c) (a.put oi.dst v) w→Q (.panic c) a w) (hS:S w) (hg:oi.guard=none) (hy:∀w,S w→(execOp a.eval oi).run P w=.ok (.value v) w)
  (h:wpAnyU P md l.toArray Q S k fuel (listed.setIfInBounds i true) (a.put oi.dst v) w):wpAnyU P md l.toArray Q S k (fuel+1) listed a w:=
 wpAnyU_first hi.get (Region.noSelect_spec hs) hQ hk fuel listed a w (Region.free_spec hi.get hf) (by simpa using hr) hkl (.inl ⟨by simp [Region.wanted,hg],hy⟩) hS h
def AllReadyU (P:Program) (md:Region.Mode) (ops:Array Oper) (Q:Exit→Act→World→Prop) (S:World→Prop) (k fuel:Nat) (listed:Array Bool) (a:Act) (w:World) (rs:List Nat):Prop:=
 ∀i∈rs,wpOp P ops Q i (fun a' w'=>((listed.setIfInBounds i true).getD k true=false→S w')∧wpAnyU P md ops Q S k fuel (listed.setIfInBounds i true) a' w') a w
theorem AllReadyU.nil {fuel:Nat} {listed:Array Bool} {a:Act} {w:World}:AllReadyU P md ops Q S k fuel listed a w []:=fun _ h=>by cases h
def ShutU (p:Prop):Prop:=p
theorem ShutU.out {p:Prop} (h:ShutU p):p:=h
theorem AllReadyU.cons {l:List Oper} {fuel:Nat} {listed:Array Bool} {a:Act} {w:World} {i:Nat} {o:Oper} {rs:List Nat} (ho:ListAt l i o) (hg:o.guard=none)
  (h:∀K':Act→World→Prop,ShutU (∀a w,S w→(S w→wpAnyU P md l.toArray Q S k fuel (listed.setIfInBounds i true) a w)→K' a w)→if Region.wanted o (yielded l.toArray a.tmps)=true then Oper.wp P o a w K' Q else K' (a.put o.dst undef) w)
  (hs:AllReadyU P md l.toArray Q S k fuel listed a w rs):AllReadyU P md l.toArray Q S k fuel listed a w (i :: rs):=fun j hj=>by
 rcases List.mem_cons.1 hj with rfl | hj
 ·exact wpOp_step ho.get (fun K' hK=>h K' (fun a w hS hW=>hK a w ⟨fun _=>hS,hW hS⟩))
 ·exact hs j hj
theorem AllReadyU.free {l:List Oper} {fuel:Nat} {listed:Array Bool} {a:Act} {w:World} {i:Nat} {o:Oper} {rs:List Nat} (ho:ListAt l i o) (hg:o.guard=none)
  (hk:(listed.setIfInBounds i true).getD k true=true)
  (h:∀K':Act→World→Prop,ShutU (∀a w,wpAnyU P md l.toArray Q S k fuel (listed.setIfInBounds i true) a w→K' a w)→if Region.wanted o (yielded l.toArray a.tmps)=true then Oper.wp P o a w K' Q else K' (a.put o.dst undef) w)
  (hs:AllReadyU P md l.toArray Q S k fuel listed a w rs):AllReadyU P md l.toArray Q S k fuel listed a w (i :: rs):=fun j hj=>by
 rcases List.mem_cons.1 hj with rfl | hj
 ·exact wpOp_step ho.get (fun K' hK=>h K' (fun a w hW=>hK a w ⟨fun h0=>(by rw [hk] at h0; cases h0),hW⟩))
 ·exact hs j hj
theorem wpAnyU_ready {rs:List Nat} {fuel:Nat} {listed:Array Bool} {a:Act} {w:World} (hr:Region.ready md ops listed=rs) (hne:rs.isEmpty=false)
  (h:AllReadyU P md ops Q S k fuel listed a w rs):wpAnyU P md ops Q S k (fuel+1) listed a w:=
 by
 refine ⟨fun h0=>?_,?_⟩
 ·rw [hr] at h0
  subst h0;cases hne
 ·rw [hr]
  exact h
theorem wpAnyU_done {listed:Array Bool} {a:Act} {w:World} (hr:Region.ready md ops listed=[]) (h:Q .normal a w) :
  ∀fuel,wpAnyU P md ops Q S k fuel listed a w
 | 0=>⟨hr,h⟩
 | _+1=>⟨fun _=>h,by rw [hr]; simp⟩
theorem wp_region_until (S:World→Prop) (k:Nat) {l:List Oper} (n:Nat) {id:Nat} {a:Act} {w:World} (hm:P.follows .mixedOrders=true) (hn:l.toArray.size=n)
  (h:wpAnyU P .any l.toArray Q S k n (Array.replicate n false) a w.drew):(Code.region id l.toArray true).wp P Q a w:=by
 subst hn;exact wp_region_any hm (wpAny_of_until _ _ _ _ h)
end
theorem la0 {α:Type} {x:α} {l:List α}:ListAt (x :: l) 0 x:=.zero
theorem la1 {α:Type} {x y0:α} {l:List α}:ListAt (y0 :: x :: l) 1 x:=.succ la0
theorem la2 {α:Type} {x y0 y1:α} {l:List α}:ListAt (y0 :: y1 :: x :: l) 2 x:=.succ la1
theorem la3 {α:Type} {x y0 y1 y2:α} {l:List α}:ListAt (y0 :: y1 :: y2 :: x :: l) 3 x:=.succ la2
theorem la4 {α:Type} {x y0 y1 y2 y3:α} {l:List α}:ListAt (y0 :: y1 :: y2 :: y3 :: x :: l) 4 x:=.succ la3
theorem la5 {α:Type} {x y0 y1 y2 y3 y4:α} {l:List α}:ListAt (y0 :: y1 :: y2 :: y3 :: y4 :: x :: l) 5 x:=.succ la4
theorem la6 {α:Type} {x y0 y1 y2 y3 y4 y5:α} {l:List α}:ListAt (y0 :: y1 :: y2 :: y3 :: y4 :: y5 :: x :: l) 6 x:=.succ la5
theorem la7 {α:Type} {x y0 y1 y2 y3 y4 y5 y6:α} {l:List α}:ListAt (y0 :: y1 :: y2 :: y3 :: y4 :: y5 :: y6 :: x :: l) 7 x:=.succ la6
theorem la8 {α:Type} {x y0 y1 y2 y3 y4 y5 y6 y7:α} {l:List α}:ListAt (y0 :: y1 :: y2 :: y3 :: y4 :: y5 :: y6 :: y7 :: x :: l) 8 x:=.succ la7
theorem la9 {α:Type} {x y0 y1 y2 y3 y4 y5 y6 y7 y8:α} {l:List α}:ListAt (y0 :: y1 :: y2 :: y3 :: y4 :: y5 :: y6 :: y7 :: y8 :: x :: l) 9 x:=.succ la8
theorem la10 {α:Type} {x y0 y1 y2 y3 y4 y5 y6 y7 y8 y9:α} {l:List α}:ListAt (y0 :: y1 :: y2 :: y3 :: y4 :: y5 :: y6 :: y7 :: y8 :: y9 :: x :: l) 10 x:=.succ la9
theorem la11 {α:Type} {x y0 y1 y2 y3 y4 y5 y6 y7 y8 y9 y10:α} {l:List α}:ListAt (y0 :: y1 :: y2 :: y3 :: y4 :: y5 :: y6 :: y7 :: y8 :: y9 :: y10 :: x :: l) 11 x:=.succ la10
theorem la12 {α:Type} {x y0 y1 y2 y3 y4 y5 y6 y7 y8 y9 y10 y11:α} {l:List α}:ListAt (y0 :: y1 :: y2 :: y3 :: y4 :: y5 :: y6 :: y7 :: y8 :: y9 :: y10 :: y11 :: x :: l) 12 x:=.succ la11
theorem la13 {α:Type} {x y0 y1 y2 y3 y4 y5 y6 y7 y8 y9 y10 y11 y12:α} {l:List α}:ListAt (y0 :: y1 :: y2 :: y3 :: y4 :: y5 :: y6 :: y7 :: y8 :: y9 :: y10 :: y11 :: y12 :: x :: l) 13 x:=.succ la12
theorem la14 {α:Type} {x y0 y1 y2 y3 y4 y5 y6 y7 y8 y9 y10 y11 y12 y13:α} {l:List α}:ListAt (y0 :: y1 :: y2 :: y3 :: y4 :: y5 :: y6 :: y7 :: y8 :: y9 :: y10 :: y11 :: y12 :: y13 :: x :: l) 14 x:=.succ la13
def looksOk (md:Region.Mode) (ops:Array Oper) (k i:Nat) (listed:Array Bool):Bool:=Region.noSelect ops && (Region.free md ops listed i && ((Region.ready md ops listed).contains i && (waitsFor md ops k i && !(listed.getD k true))))
theorem tkU {P:Program} {Q:Exit→Act→World→Prop} {md:Region.Mode} {S:World→Prop} {k:Nat} {l:List Oper} (i:Nat) {oi:Oper} {v:Value} {fuel:Nat} {listed:Array Bool} {a:Act} {w:World} (hi:ListAt l i oi) (hS:S w)
  (hc:looksOk md l.toArray k i listed=true) (hQ:∀c a w,Q (.panic c) (a.put oi.dst v) w→Q (.panic c) a w) (hg:oi.guard=none)
  (hy:∀w,S w→(execOp a.eval oi).run P w=.ok (.value v) w) (h:wpAnyU P md l.toArray Q S k fuel (listed.setIfInBounds i true) (a.put oi.dst v) w):wpAnyU P md l.toArray Q S k (fuel+1) listed a w:=by
 unfold looksOk at hc;simp only [Bool.and_eq_true,Bool.not_eq_true'] at hc;exact wpAnyU_take i hi hc.1 hc.2.1 hc.2.2.1 hc.2.2.2.1 hc.2.2.2.2 hQ hS hg hy h
theorem untilK {P:Program} {Q:Exit→Act→World→Prop} {S:World→Prop} {W0:World} (hK:Hid (∀w',Below W0.heap.size W0 w'→S w')) (k n:Nat) {l:List Oper} {id:Nat} {a:Act} {w:World}
  (hm:P.follows .mixedOrders=true) (hn:l.toArray.size=n) (h:wpAnyU P .any l.toArray Q S k n (Array.replicate n false) a w.drew):(Code.region id l.toArray true).wp P Q a w:=wp_region_until S k n hm hn h
theorem drew_pack (w:World):∃u:World,w.drew=u∧Hid (Below w.heap.size w u):=⟨_,rfl,below_drewN (Below.refl _ _) 1⟩
theorem OwnI.made {w:World} {base X n:Nat} {e:TypeId} {k:IntKind} (h:w.heap[X]?=some (.cells (madeCells #[.int k 0] n) e (0,0))) (hb:base≤X) (hn:n≤1000000):OwnI w base e k (.slice (some ⟨X,0,none⟩) n n) (List.replicate n 0):=by
 have hm:n≤maxLen:=by unfold maxLen; omega
 refine ⟨by rw [List.length_map,Nat.mul_one],.inr ⟨X,n,_,by rw [List.length_replicate],hb,h,by rw [List.length_replicate]; exact Nat.le_refl _,hm,by rw [size_madeCells,Nat.mul_one],?_⟩⟩;rw [toList_madeCells_one,List.length_replicate,Nat.mul_one,List.map_replicate,List.take_of_length_le (by rw [List.length_replicate]; exact Nat.le_refl _)]
theorem laG {α:Type}:∀(l:List α) (i:Nat) (x:α),l[i]?=some x→ListAt l i x
 | y :: l,0,x,h=>by simp at h; subst h; exact .zero
 | y :: l,i+1,x,h=>.succ (laG l i x (by simpa using h))
theorem J0 (t:Array Value) (d:Nat) (v:Value) (f):(Act.mk t f).put (some d) v=Act.mk (t.setIfInBounds d v) f:=rfl
theorem J1 (a:Act) (v:Value):a.put none v=a:=rfl
theorem J2 {α:Type} (l:List α) (i:Nat) (x:α):l.toArray.setIfInBounds i x=(l.set i x).toArray:=by simp
theorem J3 {α:Type} (a b:α) (l:List α):(a :: l).set 0 b=b :: l:=rfl
theorem J4 {α:Type} (a b:α) (l:List α) (n:Nat):(a :: l).set (n+1) b=a :: l.set n b:=rfl
section
variable {P:Program} {Q:Exit→Act→World→Prop} {md:Region.Mode} {S:World→Prop} {k:Nat} {l:List Oper} {oi:Oper} {v:Value} {fuel:Nat} {listed:Array Bool} {a:Act} {w:World}
theorem tkV (i:Nat) (hS:S w) (hi:l[i]?=some oi) (hc:looksOk md l.toArray k i listed=true) (hQ:∀c a w,Q (.panic c) (a.put oi.dst v) w→Q (.panic c) a w) (hg:oi.guard=none)
  (hy:∀w,S w→(execOp a.eval oi).run P w=.ok (.value v) w) (h:wpAnyU P md l.toArray Q S k fuel (listed.setIfInBounds i true) (a.put oi.dst v) w):wpAnyU P md l.toArray Q S k (fuel+1) listed a w:=tkU i (laG _ _ _ hi) hS hc hQ hg hy h
theorem consU (i:Nat) (hi:l[i]?=some oi) (hr:Region.ready md l.toArray listed=[i]) (hg:oi.guard=none)
  (h:∀K':Act→World→Prop,ShutU (∀a w,S w→(S w→wpAnyU P md l.toArray Q S k fuel (listed.setIfInBounds i true) a w)→K' a w)→if Region.wanted oi (yielded l.toArray a.tmps)=true then Oper.wp P oi a w K' Q else K' (a.put oi.dst undef) w):wpAnyU P md l.toArray Q S k (fuel+1) listed a w:=
 wpAnyU_ready hr rfl (AllReadyU.cons (laG _ _ _ hi) hg h AllReadyU.nil)
theorem freeU (i:Nat) (hi:l[i]?=some oi) (hr:Region.ready md l.toArray listed=[i]) (hg:oi.guard=none) (hk:(listed.setIfInBounds i true).getD k true=true)
  (h:∀K':Act→World→Prop,ShutU (∀a w,wpAnyU P md l.toArray Q S k fuel (listed.setIfInBounds i true) a w→K' a w)→if Region.wanted oi (yielded l.toArray a.tmps)=true then Oper.wp P oi a w K' Q else K' (a.put oi.dst undef) w):wpAnyU P md l.toArray Q S k (fuel+1) listed a w:=
 wpAnyU_ready hr rfl (AllReadyU.free (laG _ _ _ hi) hg hk h AllReadyU.nil)
end
def Rows' (s:Nat) (rows:List (List Value)):Prop:=∀r∈rows,r.length=s∧∀u∈r,u.oneCell'=true
def OwnS (w:World) (base:Nat) (e:TypeId) (s:Nat) (v:Value) (rows:List (List Value)):Prop:=
 Rows' s rows∧w.ownsRow base e s v rows.length rows.flatten
section
variable {w w':World} {base:Nat} {e:TypeId} {s:Nat} {v:Value} {rows:List (List Value)}
theorem OwnS.nil (w:World) (base:Nat) (e:TypeId) (s:Nat):OwnS w base e s (.slice none 0 0) []:=⟨fun r h=>by simp at h,World.ownsRow_nil w base _ s⟩
theorem OwnS.shape (h:OwnS w base e s v rows):(v=.slice none 0 0∧rows=[])∨∃g cap,v=.slice (some ⟨g,0,none⟩) rows.length cap∧base≤g∧g<w.heap.size∧rows.length≤cap:=by
 rcases h.2.2 with ⟨rfl,h2⟩ | ⟨g,cap,cur,rfl,h3,h4,h5,h6,_,_⟩
 ·exact .inl ⟨rfl,List.length_eq_zero_iff.1 h2⟩
 ·exact .inr ⟨g,cap,rfl,h3,(Array.getElem?_eq_some_iff.1 h4).1,h5⟩
theorem OwnS.len (h:OwnS w base e s v rows):∃a cap,v=.slice a rows.length cap:=by
 rcases h.shape with ⟨rfl,rfl⟩ | ⟨g,cap,rfl,_⟩
 ·exact ⟨_,_,rfl⟩
 ·exact ⟨_,_,rfl⟩
theorem OwnS.open (h:OwnS w base e s v rows) (hn:0<rows.length):∃g cap,v=.slice (some ⟨g,0,none⟩) rows.length cap∧base≤g∧g<w.heap.size∧rows.length≤cap:=by
 rcases h.shape with ⟨_,rfl⟩ | h
 ·simp at hn
 ·exact h
theorem OwnS.kept {row:Option Nat} (h:OwnS w base e s v rows) (hg:w.grownBy w' row) (hne:v.ownBlock=none∨v.ownBlock≠row):OwnS w' base e s v rows:=⟨h.1,World.ownsRow.kept h.2 hg hne⟩
theorem OwnS.lt (h:OwnS w base e s v rows):∀j,v.ownBlock=some j→base≤j∧j<w.heap.size:=World.ownsRow.lt h.2
theorem OwnS.ne (h:OwnS w base e s v rows) {g:Nat} (hg:g<base):v.ownBlock=none∨v.ownBlock≠some g:=by
 cases hv:v.ownBlock with
 | none=>exact .inl rfl
 | some b=>exact .inr fun e=>by have:=(h.lt b hv).1; cases e; omega
theorem OwnS.below (h:OwnS w base e s v rows) (hb:Below w.heap.size w w'):OwnS w' base e s v rows:=by
 refine h.kept (row:=none) ⟨hb.os,hb.tape,hb.output,hb.size,fun j hj _=>hb.block j hj⟩ ?_;cases hv:v.ownBlock with
 | none=>exact .inl rfl
 | some x=>exact .inr (by simp)
theorem OwnS.apart {b2 s2:Nat} {e2:TypeId} {v2:Value} {r2:List (List Value)} (h1:OwnS w base e s v rows) (h2:OwnS w b2 e2 s2 v2 r2) (he:e≠e2):v.ownBlock=none∨v.ownBlock≠v2.ownBlock:=by
 rcases h1.2.2 with ⟨rfl,_⟩ | ⟨g,cap,cur,rfl,_,hg,_⟩
 ·exact .inl rfl
 ·rcases h2.2.2 with ⟨rfl,_⟩ | ⟨g',cap',cur',rfl,_,hg',_⟩
  ·exact .inr (by simp [Value.ownBlock])
  ·refine .inr ?_
   simp only [Value.ownBlock,ne_eq,Option.some.injEq];intro e;rw [e,hg'] at hg;simp at hg;exact he hg.2.symm
theorem flatS_length:∀(rows:List (List Value)),Rows' s rows→rows.flatten.length=rows.length * s
 | [],_=>by simp
 | r :: l,h=>by
  rw [List.flatten_cons,List.length_append,flatS_length l (fun x hx=>h x (List.mem_cons_of_mem _ hx)),(h r (List.mem_cons_self ..)).1,List.length_cons,Nat.add_mul];omega
theorem flatS_get:∀(rows:List (List Value)),Rows' s rows→∀(i j:Nat) (hi:i<rows.length),j<s→rows.flatten[i * s+j]?=rows[i][j]?
 | [],_,i,_,hi,_=>by simp at hi
 | r :: l,h,i,j,hi,hj=>by
  have hr:r.length=s:=(h r (List.mem_cons_self ..)).1;cases i with
  | zero=>rw [List.flatten_cons,Nat.zero_mul,Nat.zero_add,List.getElem?_append_left (by omega)]; rfl
  | succ i=>
   rw [List.flatten_cons,List.getElem?_append_right (by rw [hr,Nat.succ_mul]; omega),hr,show (i+1) * s+j - s=i * s+j by rw [Nat.succ_mul]; omega];exact flatS_get l (fun x hx=>h x (List.mem_cons_of_mem _ hx)) i j (by simpa using hi) hj
theorem flatS_set:∀(rows:List (List Value)) (i:Nat) (a b r:List Value) (u x:Value),Rows' s rows→(hi:i<rows.length)→rows[i]=a ++ x :: b→r=a ++ u :: b→rows.flatten.set (i * s+a.length) u=(rows.set i r).flatten
 | [],i,_,_,_,_,_,_,hi,_,_=>by simp at hi
 | q :: l,i,a,b,r,u,x,h,hi,he,hr=>by
  have hq:q.length=s:=(h q (List.mem_cons_self ..)).1;cases i with
  | zero=>
   simp only [List.getElem_cons_zero] at he;subst he hr;rw [List.flatten_cons,Nat.zero_mul,Nat.zero_add,List.set_cons_zero,List.flatten_cons,List.set_append_left _ _ (by simp)];congr 1;rw [List.set_append_right _ _ (Nat.le_refl _),Nat.sub_self,List.set_cons_zero]
  | succ i=>
   rw [List.flatten_cons,List.set_cons_succ,List.flatten_cons,List.set_append_right _ _ (by rw [hq,Nat.succ_mul]; omega),hq,show (i+1) * s+a.length - s=i * s+a.length by rw [Nat.succ_mul]; omega];rw [flatS_set l i a b r u x (fun x hx=>h x (List.mem_cons_of_mem _ hx)) (by simpa using hi) (by simpa using he) hr]
theorem Rows'.set {r:List Value} (h:Rows' s rows) (i:Nat) (hr:r.length=s) (h1:∀u∈r,u.oneCell'=true):Rows' s (rows.set i r):=fun x hx=>by
 rcases List.mem_or_eq_of_mem_set hx with h2 | rfl
 ·exact h x h2
 ·exact ⟨hr,h1⟩
theorem OwnS.row {g n cap:Nat} (h:OwnS w base e s (.slice (some ⟨g,0,none⟩) n cap) rows) (i:Nat) (hi:i<rows.length):w.rangeAt g (i * s) rows[i]∧w.there g (i * s) s:=by
 obtain rfl:n=rows.length:=by obtain ⟨a,c,h2⟩:=h.len; simp only [Value.slice.injEq] at h2; exact h2.2.1
 have hr:=(h.1 _ (List.getElem_mem hi)).1;have hb:∀j,j<s→i * s+j<rows.length * s:=fun j hj=>by
  have:i * s+s≤rows.length * s:=by rw [← Nat.succ_mul]; exact Nat.mul_le_mul_right _ hi
  omega
 have hc:∀j,j<s→w.cell? ⟨g,i * s+j,none⟩=rows[i][j]?:=fun j hj=>by
  rw [World.ownsRow.cellAt h.2 _ (hb j hj),flatS_get rows h.1 i j hi hj]
 refine ⟨fun j u hj=>?_,fun j hj=>⟨?_,World.ownsRow.frozenAt h.2 _⟩⟩
 ·have hjs:j<s:=by rw [← hr]; exact (List.getElem?_eq_some_iff.1 hj).1
  rw [hc j hjs,hj]
 ·rw [hc j hj,List.getElem?_eq_getElem (by omega)]; rfl
theorem OwnS.setCell {g n cap:Nat} (h:OwnS w base e s (.slice (some ⟨g,0,none⟩) n cap) rows) (i:Nat) (hi:i<rows.length) (a b:List Value) (x u:Value) (he:rows[i]=a ++ x :: b) (hu:u.oneCell'=true):OwnS (w.setCell ⟨g,i * s+a.length,none⟩ u) base e s (.slice (some ⟨g,0,none⟩) n cap) (rows.set i (a ++ u :: b)):=by
 obtain rfl:n=rows.length:=by obtain ⟨a,c,h2⟩:=h.len; simp only [Value.slice.injEq] at h2; exact h2.2.1
 have hm:=h.1 _ (List.getElem_mem hi);have h1:=(World.ownsRow.stored h.2 (i * s+a.length) u).1;refine ⟨h.1.set i (by rw [← hm.1,he]; simp) fun z hz=>?_,?_⟩
 ·rw [List.mem_append,List.mem_cons] at hz
  rcases hz with hz | rfl | hz
  ·exact hm.2 z (by rw [he]; simp [hz])
  ·exact hu
  ·exact hm.2 z (by rw [he]; simp [hz])
 ·rw [List.length_set,← flatS_set rows i a b _ u x h.1 hi he rfl]
  exact h1
theorem OwnS.setCells {g n cap:Nat} (i:Nat):∀(r q a:List Value) (w:World) (rows:List (List Value)),OwnS w base e s (.slice (some ⟨g,0,none⟩) n cap) rows→(hi:i<rows.length)→rows[i]=a ++ q→q.length=r.length→(∀u∈r,u.oneCell'=true)→OwnS (w.setCells g (i * s+a.length) r) base e s (.slice (some ⟨g,0,none⟩) n cap) (rows.set i (a ++ r))
 | [],q,a,w,rows,h,hi,he,hl,_=>by
  have:q=[]:=List.length_eq_zero_iff.1 hl;subst this;rw [← he,List.set_getElem_self];exact h
 | u :: r,q,a,w,rows,h,hi,he,hl,h1=>by
  cases q with
  | nil=>simp at hl
  | cons x q=>
   have h2:=h.setCell i hi a q x u he (h1 u (List.mem_cons_self ..));have h3:=OwnS.setCells i r q (a ++ [u]) _ _ h2 (by simpa using hi) (by simp) (by simpa using hl) (fun z hz=>h1 z (List.mem_cons_of_mem _ hz));rw [List.set_set,List.append_assoc] at h3;rw [List.length_append] at h3;exact h3
theorem OwnS.setRow {g n cap:Nat} {r:List Value} (h:OwnS w base e s (.slice (some ⟨g,0,none⟩) n cap) rows) (i:Nat) (hi:i<rows.length) (hr:r.length=s) (h1:∀u∈r,u.oneCell'=true):OwnS (w.setCells g (i * s) r) base e s (.slice (some ⟨g,0,none⟩) n cap) (rows.set i r):=
 OwnS.setCells i r rows[i] [] w rows h hi rfl (by rw [(h.1 _ (List.getElem_mem hi)).1,hr]) h1
end
def OffS (S:List (Option Nat)) (w0:World):World→Prop:=fun w=>w0.heap.size≤w.heap.size∧∀j,j<w0.heap.size→some j ∉ S→w.heap[j]?=w0.heap[j]?
section
variable {S S2:List (Option Nat)} {w w0 w1 w2 w':World}
theorem OffS.trans (h:OffS S w0 w1) (h2:OffS S2 w1 w2) (hs:∀j,j<w0.heap.size→some j∈S2→some j∈S):OffS S w0 w2:=
 ⟨Nat.le_trans h.1 h2.1,fun j hj hn=>(h2.2 j (Nat.lt_of_lt_of_le hj h.1) (fun e=>hn (hs j hj e))).trans (h.2 j hj hn)⟩
theorem OffS.below (h:Below w.heap.size w w'):OffS S w w':=⟨h.size,fun j hj _=>h.block j hj⟩
theorem OffS.grown {row:Option Nat} (h:w.grownBy w' row) (hr:row=none∨row∈S):OffS S w w':=⟨h.size,fun j hj hn=>h.block j hj (fun e=>by
 rcases hr with rfl | hr
 ·simp at e
 ·exact hn (e▸hr))⟩
end
section
variable {e:TypeId} {s base:Nat} {w:World} {v:Value} {rows:List (List Value)}
theorem wp_append_sN (st:TypeId) {bytes:Nat} {z:Value} (hu:Try.prog.underlying st=some (.slice e)) (hinfo:(Try.prog.info? e).map (fun i=>(i.zero,i.size,i.bytes))=some (some z,s,bytes)) (hzs:z.cells.size=s) (hsz:0<s) (hby:bytes≤200)
  {ops:Array Oper} {rest:List Oper} {o:Oper} {a:Act} {Q:Exit→Act→World→Prop}
  (hgd:o.guard=none) (sl x:Operand) (hop:o.op=Op.call { callee:=Callee.builtin Builtin.append,args:=#[sl,x],argTypes:=#[st,st] })
  (hs:a.eval sl=v) (hown:OwnS w base e s v rows) (rs:List (List Value)) (hr:Rows' s rs) (g n:Nat) (hn:rs.length=n)
  (hx:a.eval x=.slice (some ⟨g,0,none⟩) n n) (hcell:w.heap[g]?=some (.cells rs.flatten.toArray e (0,0))) (hl:rows.length+rs.length≤1000001) (hb:base≤w.heap.size)
  (hK:∀v' w',OwnS w' base e s v' (rows ++ rs)→w.grownBy w' v.ownBlock→wpList Try.prog ops Q rest (a.put o.dst v') w') :
  wpList Try.prog ops Q (o :: rest) a w:=by
 subst hn;obtain ⟨i0,hi,hz0,hz1,hz2⟩:=info_parts hinfo;obtain ⟨v',w',hrun,h2,h3,-,h4⟩:=run_append_own_at (P:=Try.prog) w base st o.type e i0 z s bytes hu hi hz0 hz1 hz2 hzs hsz v rows.length _ hown.2 ⟨g,0,none⟩ rs.length rs.length rs.flatten (flatS_length rs hr) (fun j u hj=>by
  have:w.cell? ⟨g,j,none⟩=rs.flatten.toArray[j]?:=cell_of_row _ _ j _ _ _ hcell;have e2:((⟨g,0,none⟩:Addr).add j)=⟨g,j,none⟩:=by rw [Addr.add_mid,Nat.zero_add]
  rw [e2,this];simpa using hj) (fun u hu=>by
   obtain ⟨r,hr2,hur⟩:=List.mem_flatten.1 hu;exact (hr r hr2).2 u hur) (by unfold maxLen; omega) (by have:(rows.length+rs.length) * bytes≤1000001 * 200:=Nat.mul_le_mul (by omega) hby; omega) hb
 refine Lib.wpList_append_run w hgd sl x _ _ hop _ _ hs hx v' w' hrun (hK v' w' ⟨fun r hr2=>?_,?_⟩ h3)
 ·rcases List.mem_append.1 hr2 with h | h
  ·exact hown.1 r h
  ·exact hr r h
 ·rw [List.length_append,List.flatten_append]
  exact h2
end
theorem ownI_apartN {w:World} {b1 b2 s:Nat} {e1 e2:TypeId} {k:IntKind} {v v2:Value} {l:List Int} {rows:List (List Value)} (h:OwnI w b1 e1 k v l) (h2:OwnS w b2 e2 s v2 rows) (he:e1≠e2):v.ownBlock=none∨v.ownBlock≠v2.ownBlock:=by
 rcases h.2 with ⟨rfl,_⟩ | ⟨g,cap,cur,rfl,_,hg,_⟩
 ·exact .inl rfl
 ·rcases h2.2.2 with ⟨rfl,_⟩ | ⟨g',cap',cur',rfl,_,hg',_⟩
  ·exact .inr (by simp [Value.ownBlock])
  ·refine .inr ?_
   simp only [Value.ownBlock,ne_eq,Option.some.injEq];intro e;rw [e,hg'] at hg;simp at hg;exact he hg.2.symm
theorem round_own (n:Nat) (k:Int) (w:World) (h1:1≤n) (h8:n≤8):Calls Try.prog 11 #[.int .i64 n,.int .i64 k] w fun e w'=>∃u,e=.returned u∧OwnI w' w.heap.size 3 .i64 u (roundP n k)∧Below w.heap.size w w':=by
 have P:=Lib.hid fun w'=>possible_any n w';rw [decide_eq_true (show 1≤(n:Int)∧(n:Int)≤8 by omega)] at P;have e1:=cntI_in n (by omega);have hp:=fact_pos n;have hf:fact n≤40320:=by have:=fact_le n 8 (by omega); exact this
 have hq0:=Int.emod_nonneg k (show (fact n:Int)≠0 by omega);have hq1:=Int.emod_lt_of_pos k (show (0:Int)<(fact n:Int) by omega);have RI:=roundP_in n k (by omega) (by omega);have C:=Lib.hid fun w'=>count_any (n:Int) w';rw [e1] at C;have M:=Lib.hid fun w'=>remainder_any k (fact n) w' (by omega) (by omega);obtain ⟨q,hq⟩:∃q:Nat,k % (fact n:Int)=q:=⟨(k % (fact n:Int)).toNat,by omega⟩;rw [hq] at M hq0 hq1 RI;obtain ⟨-,-,hb,hl⟩:=nth_yes (n:Int) (q:Int) (by rw [e1]; omega);have T:=Lib.hid fun w'=>nth_any (n:Int) (q:Int) w';rw [hb,hl,Int.toNat_natCast,Int.toNat_natCast] at T;have EO:roundP n k=shuf (nthR n q) (n - 1) (asc n):=by rw [RI,Int.toNat_natCast]; rfl
 have RI2:=Lib.hid EO;clear RI EO hb hl hq e1;go_enter Try.func11,Try.ntmps11;go_wp2_with (first
  | (go_at_call 20; refine (P.out _).mono ?_; rintro e w1 ⟨rfl,rfl⟩)
  | (go_at_call 23; refine (C.out _).mono ?_; rintro e w2 ⟨rfl,rfl⟩)
  | (go_at_call 22; refine (M.out _).mono ?_; rintro e w3 ⟨rfl,rfl⟩)
  | (go_at_call 21; refine (T.out _).mono ?_; rintro e w4 ⟨u,rfl,hu,hb4⟩)
  | (go_at_call 24; refine (order_any _ u _ w4 hu (by omega) (by omega)).mono ?_; rintro e w5 ⟨rfl,hu5,hb5⟩))
 go_ret;rw [Int.toNat_natCast] at hu5;exact ⟨_,rfl,by rw [RI2.out]; exact hu5.mono_base hb4.size,below_then hb4 hb5⟩
def nilS:Value:=.slice none 0 0
structure AllI (w wr:World) (n k:Nat) (v:Value) (us:List Value):Prop where
 bw:Below w.heap.size w wr
 len:us.length=k
 own:OwnS wr w.heap.size 22 1 v (us.map fun u=>[u])
 ins:∀j,j<k→OwnI wr w.heap.size 3 .i64 (us.getD j nilS) (perm n j)
theorem AllI.below {w wr w2:World} {n k:Nat} {v:Value} {us:List Value} (h:AllI w wr n k v us) (hb:Below wr.heap.size wr w2):AllI w w2 n k v us:=
 ⟨below_then h.bw hb,h.len,h.own.below hb,fun q hq=>OwnI.below (h.ins q hq) hb⟩
theorem AllI.push {w wr w2:World} {n k:Nat} {v v2 u:Value} {us:List Value} (h:AllI w wr n k v us) (hu:OwnI wr w.heap.size 3 .i64 u (perm n k)) (ho:OwnS w2 w.heap.size 22 1 v2 (us.map (fun u=>[u]) ++ [[u]])) (hg:wr.grownBy w2 v.ownBlock):AllI w w2 n (k+1) v2 (us ++ [u]):=by
 have hs:=h.bw.size;refine ⟨h.bw.grown hg hs (fun q hq=>(h.own.lt q hq).1),by rw [List.length_append,h.len]; rfl,by rw [List.map_append]; exact ho,fun q hq=>?_⟩;by_cases e:q<k
 ·have e2:(us ++ [u]).getD q nilS=us.getD q nilS:=by simp [List.getD_eq_getElem?_getD,List.getElem?_append,h.len,e]
  rw [e2];exact (h.ins q e).kept hg (ownI_apartN (h.ins q e) h.own (by decide))
 ·have e3:q=k:=by omega
  subst e3;have e2:(us ++ [u]).getD q nilS=u:=by simp [List.getD_eq_getElem?_getD,h.len]
  rw [e2];exact hu.kept hg (ownI_apartN hu h.own (by decide))
theorem AllI.cell {w wr:World} {n k:Nat} {v:Value} {us:List Value} (h:AllI w wr n k v us) (hk:0<k):∃G cap,v=.slice (some ⟨G,0,none⟩) k cap∧G<wr.heap.size∧∀j,j<k→wr.cell? ⟨G,j,none⟩=some (us.getD j nilS):=by
 have hl:(us.map fun u=>[u]).length=k:=by rw [List.length_map,h.len]
 obtain ⟨G,cap,rfl,h1,h2,h3⟩:=h.own.open (by rw [hl]; exact hk);refine ⟨G,cap,by rw [hl],h2,fun j hj=>?_⟩;have h4:=World.ownsRow.cellAt h.own.2 j (by rw [hl]; omega);rw [h4];have e:(us.map fun u=>[u]).flatten=us:=by
  clear h h4 hl h1 h2 h3 hj;induction us with
  | nil=>rfl
  | cons x us ih=>rw [List.map_cons,List.flatten_cons,ih]; rfl
 rw [e,List.getD_eq_getElem?_getD,List.getElem?_eq_getElem (by rw [h.len]; exact hj)];rfl
theorem perm_wrap (n k:Nat) (h1:1≤n) (h8:n≤8):∀x∈perm n k,x=IntKind.i64.wrap x:=fun x hx=>by
 have:=(perm_full n k h1).range x hx;exact i64_ok x (by omega) (by omega)
theorem perm_read {w:World} {b n k:Nat} {v:Value} (h:OwnI w b 3 .i64 v (perm n k)) (h1:1≤n) (h8:n≤8):SlI w .i64 v (perm n k):=
 h.read (by rw [(perm_full n k h1).1]; omega) (perm_wrap n k h1 h8)
theorem AllReadyU.consG {P:Program} {md:Region.Mode} {Q:Exit→Act→World→Prop} {S:World→Prop} {k:Nat} {l:List Oper} {fuel:Nat} {listed:Array Bool} {a:Act} {w:World} {i:Nat} {o:Oper} {rs:List Nat} (ho:ListAt l i o)
  (h:∀K':Act→World→Prop,ShutU (∀a w,S w→(S w→wpAnyU P md l.toArray Q S k fuel (listed.setIfInBounds i true) a w)→K' a w)→if Region.wanted o (yielded l.toArray a.tmps)=true then Oper.wp P o a w K' Q else K' (a.put o.dst undef) w)
  (hs:AllReadyU P md l.toArray Q S k fuel listed a w rs):AllReadyU P md l.toArray Q S k fuel listed a w (i :: rs):=fun j hj=>by
 rcases List.mem_cons.1 hj with rfl | hj
 ·exact wpOp_step ho.get (fun K' hK=>h K' (fun a w hS hW=>hK a w ⟨fun _=>hS,hW hS⟩))
 ·exact hs j hj
end Go.Proofs.Ytefnjhnlegjojaa
