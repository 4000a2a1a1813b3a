import Derived.Deep.DeepCutAuto
import Derived.Scope
import Derived.WalkMore
import Derived.Lib.Hide
import Derived.Test.YtjnlkemdaffgbaaGreatB02
import Derived.Test.YtjnlkemdaffgbaaGreatB03
import Derived.Test.YtjnlkemdaffgbaaGreatB01
set_option linter.unusedVariables false
set_option linter.unusedSimpArgs false
namespace Go.Proofs.YtjnlkemdaffgbaaGreat
open Go.ChangeShapes Go.WideShapes Go.ChangeAt Go.RowKit
set_option maxRecDepth 100000
theorem rowc14 {w:World} {g:Nat} {T:TypeId} {v0 v1 v2 v3 v4 v5 v6 v7 v8 v9 v10 v11 v12 v13:Value} (h:w.heap[g]?=some (.cells #[v0,v1,v2,v3,v4,v5,v6,v7,v8,v9,v10,v11,v12,v13] T (0,0))) :
  w.cell? ⟨g,0,none⟩=some v0∧w.cell? ⟨g,1,none⟩=some v1∧w.cell? ⟨g,2,none⟩=some v2∧w.cell? ⟨g,3,none⟩=some v3∧w.cell? ⟨g,4,none⟩=some v4∧w.cell? ⟨g,5,none⟩=some v5∧w.cell? ⟨g,6,none⟩=some v6∧w.cell? ⟨g,7,none⟩=some v7∧w.cell? ⟨g,8,none⟩=some v8∧w.cell? ⟨g,9,none⟩=some v9∧w.cell? ⟨g,10,none⟩=some v10∧w.cell? ⟨g,11,none⟩=some v11∧w.cell? ⟨g,12,none⟩=some v12∧w.cell? ⟨g,13,none⟩=some v13:=
 ⟨cell_of_row _ _ 0 _ _ _ h,cell_of_row _ _ 1 _ _ _ h,cell_of_row _ _ 2 _ _ _ h,cell_of_row _ _ 3 _ _ _ h,cell_of_row _ _ 4 _ _ _ h,cell_of_row _ _ 5 _ _ _ h,cell_of_row _ _ 6 _ _ _ h,cell_of_row _ _ 7 _ _ _ h,cell_of_row _ _ 8 _ _ _ h,cell_of_row _ _ 9 _ _ _ h,cell_of_row _ _ 10 _ _ _ h,cell_of_row _ _ 11 _ _ _ h,cell_of_row _ _ 12 _ _ _ h,cell_of_row _ _ 13 _ _ _ h⟩
theorem two_new (w:World) (a b:Obj):∃W,(w.alloc a).alloc b=W∧Hid (Below w.heap.size w W)∧Hid (W.heap[w.heap.size]?=some a)∧Hid (W.heap[w.heap.size+1]?=some b)∧w.heap.size+2=W.heap.size:=
 ⟨_,rfl,below_new (below_new (Below.refl w.heap.size w) _) _,heap_alloc2_old _ _ _,heap_alloc2_new _ _ _,by simp⟩
theorem three_new (w:World) (a b c:Obj):∃W,((w.alloc a).alloc b).alloc c=W∧Hid (Below w.heap.size w W)∧Hid (W.heap[w.heap.size]?=some a)∧Hid (W.heap[w.heap.size+1]?=some b)∧Hid (W.heap[w.heap.size+2]?=some c)∧w.heap.size+3=W.heap.size:=by
 refine ⟨_,rfl,below_new (below_new (below_new (Below.refl w.heap.size w) _) _) _,Lib.hid ?_,Lib.hid ?_,Lib.hid ?_,by simp⟩
 ·rw [heap_alloc_old _ _ (by simp <;> omega),heap_alloc_old _ _ (by simp <;> omega),heap_alloc_new]
 ·rw [heap_alloc_old _ _ (by simp <;> omega)]
  have:=heap_alloc_new (w.alloc a) b;simpa using this
 ·have:=heap_alloc_new ((w.alloc a).alloc b) c
  simpa using this
set_option maxHeartbeats 4000000 in
theorem access_any (k ad o n:Int) (w:World):Calls Tryz.prog 79 #[.int .i64 k,.int .i64 ad,.int .u64 o,.int .u64 n] w fun e w'=>e=.returned (accV ⟨k,ad,o,n,0⟩)∧Below w.heap.size w w':=by
 obtain ⟨W,hW⟩:∃W,w.alloc (.cells #[.int .i64 0,.int .i64 0,.int .u64 0,.int .u64 0,.int .i64 0] 56)=W:=⟨_,rfl⟩;have HB:Hid (Below w.heap.size w W):=hW▸below_new (Below.refl w.heap.size w) _;have R0:Hid (W.heap[w.heap.size]?=some (.cells #[.int .i64 0,.int .i64 0,.int .u64 0,.int .u64 0,.int .i64 0] 56 (0,0))):=hW▸heap_alloc_new _ _;have HW:=Lib.hid hW;clear hW;go_enter Tryz.func79,Tryz.ntmps79;go_upto_region 1 with fail
 rw [HW.out];clear HW;go_wp2_with (refine wpList_store_row rfl 56 _ _ rfl (w.heap.size) _ rfl rfl 56 _ R0.out (by kernel_rfl) rfl (by simp [Value.oneCell']) ?_);refine bodyPost_ret (v:=accV ⟨k,ad,o,n,0⟩) (results_cell_row Tryz.results79 _ _ (w.heap.size) 56 _ (0,0) _ rfl (setRow_heap _ _ _ _ 56 (0,0) R0.out) Tryz.underlying56 rfl (by kernel_rfl)) rfl ?_;exact ⟨rfl,row_below HB.out (Nat.le_refl _) _⟩
set_option maxHeartbeats 4000000 in
theorem machNew_any (a a2:Option Addr) (cap cap2:Nat) (c:ConfM) (what ch th:Int) (w:World):Calls Tryz.prog 31 #[.agg #[.slice a c.caps.length cap,.slice a2 c.starts.length cap2,.int .i64 c.threads],.int .i64 what,.int .i64 ch,.int .i64 th] w fun e w'=>e=.returned (.agg (machL (.slice a c.caps.length cap) (.slice a2 c.starts.length cap2) c.threads ⟨what,1,ch,th,0,0,0,0,0,0,0⟩).toArray)∧Below w.heap.size w w':=by
 obtain ⟨W,hW,HB,R0,R1,hz⟩:=two_new w (.cells #[.slice a c.caps.length cap,.slice a2 c.starts.length cap2,.int .i64 c.threads] 30) (.cells #[.int .i64 0,.int .i64 0,.slice none 0 0,.slice none 0 0,.int .i64 0,.int .i64 0,.int .i64 0,.int .i64 0,.int .i64 0,.int .u64 0,.int .u64 0,.int .u64 0,.int .i64 0,.int .u64 0] 81);have HW:=Lib.hid hW;clear hW;go_enter Tryz.func31,Tryz.ntmps31;go_upto_region 1 with fail
 rw [HW.out];clear HW;obtain ⟨x0,x1,x2⟩:=rowc3 R0.out;go_wp2_with (refine wpList_store_row rfl 81 _ _ rfl (w.heap.size+1) _ rfl rfl 81 _ R1.out (by kernel_rfl) rfl (by simp [Value.oneCell']) ?_);refine bodyPost_ret (v:=.agg (machL (.slice a c.caps.length cap) (.slice a2 c.starts.length cap2) c.threads ⟨what,1,ch,th,0,0,0,0,0,0,0⟩).toArray) (results_cell_row Tryz.results31 _ _ (w.heap.size+1) 81 _ (0,0) _ rfl (setRow_heap _ _ _ _ 81 (0,0) R1.out) Tryz.underlying81 rfl (by kernel_rfl)) rfl ?_;exact ⟨rfl,row_below HB.out (by omega) _⟩
set_option maxHeartbeats 4000000 in
theorem machNext_end (a a2:Option Addr) (cap cap2:Nat) (c:ConfM) (m:MachM) (hp:m.pl=0) (w:World):Calls Tryz.prog 54 #[(.agg (machL (.slice a c.caps.length cap) (.slice a2 c.starts.length cap2) c.threads m).toArray)] w fun e w'=>e=.returned (accV ⟨0,0,0,0,0⟩)∧Below w.heap.size w w':=by
 obtain ⟨W,hW,HB,R0,R1,hz⟩:=two_new w (.cells #[.int .i64 m.what,.int .i64 0,.slice a c.caps.length cap,.slice a2 c.starts.length cap2,.int .i64 c.threads,.int .i64 m.chan,.int .i64 m.thr,.int .i64 m.idx,.int .i64 m.kind,.int .u64 m.val,.int .u64 m.t,.int .u64 m.h,.int .i64 m.ok,.int .u64 m.ov] 81) (.cells #[.int .i64 0,.int .i64 0,.int .u64 0,.int .u64 0,.int .i64 0] 56);have HW:=Lib.hid hW;clear hW;unfold machL;rw [hp];clear hp;go_enter Tryz.func54,Tryz.ntmps54;go_upto_region 1 with fail
 rw [HW.out];clear HW;obtain ⟨x0,x1,x2,x3,x4,x5,x6,x7,x8,x9,x10,x11,x12,x13⟩:=rowc14 R0.out;go_wp2_with (refine wpList_store_row rfl 56 _ _ rfl (w.heap.size+1) _ rfl rfl 56 _ R1.out (by kernel_rfl) rfl (by simp [Value.oneCell']) ?_);refine bodyPost_ret (v:=accV ⟨0,0,0,0,0⟩) (results_cell_row Tryz.results54 _ _ (w.heap.size+1) 56 _ (0,0) _ rfl (setRow_heap _ _ _ _ 56 (0,0) R1.out) Tryz.underlying56 rfl (by kernel_rfl)) rfl ?_;exact ⟨rfl,row_below HB.out (by omega) _⟩
end Go.Proofs.YtjnlkemdaffgbaaGreat
namespace Go.Proofs.YtjnlkemdaffgbaaGreat.Q3
open Go.ChangeShapes Go.WideShapes Go.ChangeAt Go.RowKit
set_option maxRecDepth 100000
theorem one_new (w:World) (a:Obj):∃W,w.alloc a=W∧Hid (Below w.heap.size w W)∧Hid (W.heap[w.heap.size]?=some a)∧w.heap.size+1=W.heap.size:=
 ⟨_,rfl,below_new (Below.refl w.heap.size w) _,heap_alloc_new _ _,by simp⟩
def ringL (c:ConfM) (k:Nat):List Int:=[c.base k,c.base k+1,c.caps.getD k 0] ++ (List.range (2 * (c.size k).toNat)).map fun (i:Nat)=>c.base k+5+(i:Int)
theorem ringL_length (c:ConfM) (k:Nat):(ringL c k).length=3+2 * (c.size k).toNat:=by simp [ringL]; omega
theorem ringL_slot (c:ConfM) (k i:Nat) (h:i<2 * (c.size k).toNat):(ringL c k).getD (3+i) 0=c.base k+5+(i:Int):=by
 have e:3+i=i+1+1+1:=by omega
 simp [ringL,e,h]
def puL (code pc:Int) (W L:Value):List Value:=[.int .i64 code,.int .i64 pc,W,L,.slice none 0 0]
def nilS:Value:=.slice none 0 0
structure PuV (w:World) (c:ConfM) (k:Nat) (val t:Int) (W L:Value):Prop where
 W:SlI w .u64 W [val,t]
 L:SlI w .i64 L (ringL c k)
theorem PuV.below {w w':World} {c:ConfM} {k:Nat} {val t:Int} {W L:Value} (h:PuV w c k val t W L) (hb:Below w.heap.size w w'):PuV w' c k val t W L:=⟨h.W.below hb,h.L.below hb⟩
theorem PuV.open {w:World} {c:ConfM} {k:Nat} {val t:Int} {W L:Value} (h:PuV w c k val t W L) :
  ∃wb wo wc lb lo lc,W=.slice (some ⟨wb,wo,none⟩) 2 wc∧L=.slice (some ⟨lb,lo,none⟩) (ringL c k).length lc∧wb<w.heap.size∧lb<w.heap.size∧w.cell? ⟨wb,wo,none⟩=some (.int .u64 val)∧w.cell? ⟨wb,wo+1,none⟩=some (.int .u64 t)
   ∧w.cell? ⟨lb,lo,none⟩=some (.int .i64 (c.base k))∧w.cell? ⟨lb,lo+1,none⟩=some (.int .i64 (c.base k+1))∧w.cell? ⟨lb,lo+2,none⟩=some (.int .i64 (c.caps.getD k 0))∧∀i,i<2 * (c.size k).toNat→w.cell? ⟨lb,lo+(3+i),none⟩=some (.int .i64 (c.base k+5+(i:Int))):=by
 obtain ⟨wb,wo,wc,e1,-,h1,h2⟩:=h.W.open (by simp);obtain ⟨lb,lo,lc,e2,-,h3,h4⟩:=h.L.open (by simp [ringL]);have hl:=ringL_length c k;refine ⟨wb,wo,wc,lb,lo,lc,e1,e2,h1,h3,h2 0 (by simp),h2 1 (by simp),h4 0 (by omega),h4 1 (by omega),h4 2 (by omega),fun i hi=>?_⟩;rw [h4 (3+i) (by omega),ringL_slot c k i hi]
set_option maxRecDepth 100000 in
set_option maxHeartbeats 16000000 in
theorem complete_run (code pc:Int) (wb wo wc lb lo ln lc:Nat) (hn:5≤ln) (w:World):Calls Tryz.prog 98 #[.agg #[.int .i64 code,.int .i64 pc,.slice (some ⟨wb,wo,none⟩) 2 wc,.slice (some ⟨lb,lo,none⟩) ln lc,.slice none 0 0]] w fun e w'=>e=.returned (.bool true)∧Below w.heap.size w w':=by
 have hnI:(5:Int)≤(ln:Int):=by omega
 obtain ⟨W,hW,HB,R0,hz⟩:=one_new w (.cells #[.int .i64 code,.int .i64 pc,.slice (some ⟨wb,wo,none⟩) 2 wc,.slice (some ⟨lb,lo,none⟩) ln lc,.slice none 0 0] 51);have HW:=Lib.hid hW;clear hW;go_enter Tryz.func98,Tryz.ntmps98;go_upto_region 1 with fail
 rw [HW.out];clear HW;obtain ⟨x0_0,x0_1,x0_2,x0_3,x0_4⟩:=rowc5 R0.out;go_wp2;go_ret;exact ⟨rfl,HB.out⟩
set_option maxRecDepth 100000 in
set_option maxHeartbeats 16000000 in
theorem complete_not (code pc:Int) (L U:Value) (hL:∃a n c,L=.slice a n c) (hU:∃a n c,U=.slice a n c) (w:World):Calls Tryz.prog 98 #[.agg #[.int .i64 code,.int .i64 pc,.slice none 0 0,L,U]] w fun e w'=>e=.returned (.bool false)∧Below w.heap.size w w':=by
 obtain ⟨a,n,c,rfl⟩:=hL;obtain ⟨a2,n2,c2,rfl⟩:=hU;obtain ⟨W,hW,HB,R0,hz⟩:=one_new w (.cells #[.int .i64 code,.int .i64 pc,.slice none 0 0,.slice a n c,.slice a2 n2 c2] 51);have HW:=Lib.hid hW;clear hW;go_enter Tryz.func98,Tryz.ntmps98;go_upto_region 1 with fail
 rw [HW.out];clear HW;obtain ⟨x0_0,x0_1,x0_2,x0_3,x0_4⟩:=rowc5 R0.out;go_wp2;go_ret;exact ⟨rfl,HB.out⟩
set_option maxRecDepth 100000 in
set_option maxHeartbeats 16000000 in
theorem end_any (k:Int) (w:World):Calls Tryz.prog 106 #[.int .i64 k] w fun e w'=>e=.returned (.agg #[.int .i64 k,.int .i64 8,.slice none 0 0,.slice none 0 0,.slice none 0 0])∧Below w.heap.size w w':=by
 obtain ⟨W,hW,HB,R0,hz⟩:=one_new w (.cells #[.int .i64 0,.int .i64 0,.slice none 0 0,.slice none 0 0,.slice none 0 0] 51);have HW:=Lib.hid hW;clear hW;go_enter Tryz.func106,Tryz.ntmps106;go_upto_region 1 with fail
 rw [HW.out];clear HW;go_wp2_with (refine wpList_store_row rfl 51 _ _ rfl (w.heap.size) _ rfl rfl 51 _ R0.out (by kernel_rfl) rfl (by simp [Value.oneCell']) ?_);refine bodyPost_ret (v:=.agg #[.int .i64 k,.int .i64 8,.slice none 0 0,.slice none 0 0,.slice none 0 0]) (results_cell_row Tryz.results106 _ _ (w.heap.size) 51 _ (0,0) _ rfl (setRow_heap _ _ _ _ 51 (0,0) R0.out) Tryz.underlying51 rfl (by kernel_rfl)) rfl ?_;exact ⟨rfl,row_below HB.out (by omega) _⟩
set_option maxRecDepth 100000 in
set_option maxHeartbeats 16000000 in
theorem End_run (code pc:Int) (hpc:¬pc=8) (W L U:Value) (hW:∃a n c,W=.slice a n c) (hL:∃a n c,L=.slice a n c) (hU:∃a n c,U=.slice a n c) (w:World):Calls Tryz.prog 28 #[.agg #[.int .i64 code,.int .i64 pc,W,L,U]] w fun e w'=>e=.returned (.tuple #[.agg #[.int .i64 0,.int .u64 0],.bool false])∧Below w.heap.size w w':=by
 obtain ⟨a,n,c,rfl⟩:=hW;obtain ⟨a2,n2,c2,rfl⟩:=hL;obtain ⟨a3,n3,c3,rfl⟩:=hU;obtain ⟨W,hW,HB,R0,R1,hz⟩:=two_new w (.cells #[.int .i64 code,.int .i64 pc,.slice a n c,.slice a2 n2 c2,.slice a3 n3 c3] 51) (.cells #[.int .i64 0,.int .u64 0] 47);have HW:=Lib.hid hW;clear hW;go_enter Tryz.func28,Tryz.ntmps28;go_upto_region 1 with fail
 rw [HW.out];clear HW;obtain ⟨x0_0,x0_1,x0_2,x0_3,x0_4⟩:=rowc5 R0.out;go_wp2_with (refine wpList_store_row rfl 47 _ _ rfl (w.heap.size+1) _ rfl rfl 47 _ R1.out (by kernel_rfl) rfl (by simp [Value.oneCell']) ?_);clear x0_0 x0_1 x0_2 x0_3 x0_4;refine bodyPost_ret (v:=.tuple #[.agg #[.int .i64 0,.int .u64 0],.bool false]) (results_cell_tmp Tryz.results28 _ _ (w.heap.size+1) 47 _ (0,0) _ rfl (setRow_heap _ _ _ _ 47 (0,0) R1.out) Tryz.underlying47 rfl (by kernel_rfl) _ rfl) rfl ?_;exact ⟨rfl,row_below HB.out (by omega) _⟩
set_option maxRecDepth 100000 in
set_option maxHeartbeats 16000000 in
theorem End_end (code:Int) (W L U:Value) (hW:∃a n c,W=.slice a n c) (hL:∃a n c,L=.slice a n c) (hU:∃a n c,U=.slice a n c) (w:World):Calls Tryz.prog 28 #[.agg #[.int .i64 code,.int .i64 8,W,L,U]] w fun e w'=>e=.returned (.tuple #[.agg #[.int .i64 code,.int .u64 0],.bool true])∧Below w.heap.size w w':=by
 obtain ⟨a,n,c,rfl⟩:=hW;obtain ⟨a2,n2,c2,rfl⟩:=hL;obtain ⟨a3,n3,c3,rfl⟩:=hU;obtain ⟨W,hW,HB,R0,R1,hz⟩:=two_new w (.cells #[.int .i64 code,.int .i64 8,.slice a n c,.slice a2 n2 c2,.slice a3 n3 c3] 51) (.cells #[.int .i64 0,.int .u64 0] 47);have HW:=Lib.hid hW;clear hW;go_enter Tryz.func28,Tryz.ntmps28;go_upto_region 1 with fail
 rw [HW.out];clear HW;obtain ⟨x0_0,x0_1,x0_2,x0_3,x0_4⟩:=rowc5 R0.out;go_wp2_with (refine wpList_store_row rfl 47 _ _ rfl (w.heap.size+1) _ rfl rfl 47 _ R1.out (by kernel_rfl) rfl (by simp [Value.oneCell']) ?_);clear x0_0 x0_1 x0_2 x0_3 x0_4;refine bodyPost_ret (v:=.tuple #[.agg #[.int .i64 code,.int .u64 0],.bool true]) (results_cell_tmp Tryz.results28 _ _ (w.heap.size+1) 47 _ (0,0) _ rfl (setRow_heap _ _ _ _ 47 (0,0) R1.out) Tryz.underlying47 rfl (by kernel_rfl) _ rfl) rfl ?_;exact ⟨rfl,row_below HB.out (by omega) _⟩
set_option maxRecDepth 100000 in
set_option maxHeartbeats 16000000 in
theorem behind_any (code pc:Int) (wb wo wc lb lo ln lc:Nat) (t x:Int) (w:World) (hwb:wb<w.heap.size) (hw1:w.cell? ⟨wb,wo+1,none⟩=some (.int .u64 t)):Calls Tryz.prog 108 #[.agg #[.int .i64 code,.int .i64 pc,.slice (some ⟨wb,wo,none⟩) 2 wc,.slice (some ⟨lb,lo,none⟩) ln lc,.slice none 0 0],.int .u64 x] w fun e w'=>e=.returned (.int .u64 (restI (t / 2) x))∧Below w.heap.size w w':=by
 have TS:=Lib.hid fun w'=>seq_any t w';obtain ⟨n,hn⟩:∃n,restI (t / 2) x=n:=⟨_,rfl⟩;obtain ⟨q,hq⟩:∃q,t / 2=q:=⟨_,rfl⟩;rw [hq] at TS hn ⊢;rw [hn];have hm:(IntKind.u64.wrap (q - x)).tmod 9223372036854775808=n:=by rw [← hn,Int.tmod_eq_emod_of_nonneg (by rw [IntKind.wrap_u64]; omega),IntKind.wrap_u64]; unfold restI; omega
 clear hn hq;have HK0:=Lib.hid (hw1);have hbk0:wb<w.heap.size:=hwb;obtain ⟨W,hW,HB,R0,hz⟩:=one_new w (.cells #[.int .i64 code,.int .i64 pc,.slice (some ⟨wb,wo,none⟩) 2 wc,.slice (some ⟨lb,lo,none⟩) ln lc,.slice none 0 0] 51);have HW:=Lib.hid hW;clear hW;go_enter Tryz.func108,Tryz.ntmps108;go_upto_region 1 with fail
 rw [HW.out];clear HW;obtain ⟨x0_0,x0_1,x0_2,x0_3,x0_4⟩:=rowc5 R0.out;have ck0:=(HB.out.cell (p:=⟨wb,wo+1,none⟩) hbk0).trans HK0.out;go_wp2_with fail;refine (TS.out _).mono ?_; rintro e w' ⟨rfl,rfl⟩;go_wp2_with fail;go_ret;exact ⟨by first | rfl | rw [hm],HB.out⟩
set_option maxRecDepth 100000 in
set_option maxHeartbeats 16000000 in
theorem slotNumber0 (code pc:Int) (wb wo wc lb lo ln lc:Nat) (t:Int) (ht:U64 t) (c:ConfM) (k:Nat) (hk:k<c.caps.length) (hg:c.good) (hln:ln=(ringL c k).length) (w:World) (hwb:wb<w.heap.size) (hlb:lb<w.heap.size) (hw1:w.cell? ⟨wb,wo+1,none⟩=some (.int .u64 t)) (hsl:∀i,i<2 * (c.size k).toNat→w.cell? ⟨lb,lo+(3+i),none⟩=some (.int .i64 (c.base k+5+(i:Int)))):Calls Tryz.prog 100 #[.agg #[.int .i64 code,.int .i64 pc,.slice (some ⟨wb,wo,none⟩) 2 wc,.slice (some ⟨lb,lo,none⟩) ln lc,.slice none 0 0],.int .i64 0] w fun e w'=>e=.returned (.int .i64 (c.slotW k (t / 2)))∧Below w.heap.size w w':=by
 have hsz:=hg.size k hk;have hs:=slotI_lt (t / 2) (c.size k) (by have:=ht.1; omega) hsz.1;obtain ⟨sn,hsn⟩:∃sn:Nat,slotI (t / 2) (c.size k)=(sn:Int):=⟨(slotI (t / 2) (c.size k)).toNat,by omega⟩;have TL:=Lib.hid fun w'=>slot_any (t / 2) (c.size k) w' (by have:=ht.1; omega) (by have:=ht.2; omega) (by omega) (by omega);have TS:=Lib.hid fun w'=>seq_any t w';rw [ringL_length] at hln;rw [hsn] at TL hs;obtain ⟨sz,hsz2⟩:∃sz,c.size k=sz:=⟨_,rfl⟩;have hsv:c.slotW k (t / 2)=c.base k+5+(sn:Int) * 2:=by rw [slotW_eq,hsn]
 rw [hsz2] at hsz hs hsl hln TL;obtain ⟨i1,hi1⟩:∃i1:Nat,IntKind.i64.wrap ((sn:Int) * 2)=(i1:Int):=⟨2 * sn,by rw [IntKind.wrap_i64]; omega⟩;have hi1':i1=2 * sn:=by rw [IntKind.wrap_i64] at hi1; omega
 obtain ⟨i2,hi2⟩:∃i2:Nat,IntKind.i64.wrap (3+(i1:Int))=(i2:Int):=⟨3+i1,by rw [IntKind.wrap_i64]; omega⟩;have hi2':i2=3+i1:=by rw [IntKind.wrap_i64] at hi2; omega
 obtain ⟨i3,hi3⟩:∃i3:Nat,IntKind.i64.wrap (i2:Int)=(i3:Int):=⟨i2+0,by rw [IntKind.wrap_i64]; omega⟩;have hi3':i3=i2+0:=by rw [IntKind.wrap_i64] at hi3; omega
 have hcell:=hsl (2 * sn+0) (by omega);rw [show lo+(3+(2 * sn+0))=lo+i3 by omega] at hcell;have hval:c.base k+5+((2 * sn+0:Nat):Int)=c.slotW k (t / 2):=by rw [hsv]; omega
 rw [hval] at hcell;obtain ⟨rv,hrv⟩:∃rv,c.slotW k (t / 2)=rv:=⟨_,rfl⟩;rw [hrv] at hcell;rw [hrv];obtain ⟨q,hq⟩:∃q,t / 2=q:=⟨_,rfl⟩;rw [hq] at TS TL;have hl1:IntKind.i64.wrap ((ln:Int) - 3)=sz * 2:=by rw [IntKind.wrap_i64]; omega
 have hl2:(sz * 2).tdiv 2=sz:=Int.mul_tdiv_cancel _ (by decide);have hl3:IntKind.i64.wrap sz=sz:=by rw [IntKind.wrap_i64]; omega
 have hi3b:(i3:Int)<(ln:Int):=by omega
 clear hsl hsv hval hrv hq hsn hs hi1' hi2' hi3' hsz hsz2 hln ht hk hg;have HK0:=Lib.hid (hw1);have hbk0:wb<w.heap.size:=hwb;have HK1:=Lib.hid (hcell);have hbk1:lb<w.heap.size:=hlb;obtain ⟨W,hW,HB,R0,hz⟩:=one_new w (.cells #[.int .i64 code,.int .i64 pc,.slice (some ⟨wb,wo,none⟩) 2 wc,.slice (some ⟨lb,lo,none⟩) ln lc,.slice none 0 0] 51);have HW:=Lib.hid hW;clear hW;go_enter Tryz.func100,Tryz.ntmps100;go_upto_region 1 with fail
 rw [HW.out];clear HW;obtain ⟨x0_0,x0_1,x0_2,x0_3,x0_4⟩:=rowc5 R0.out;have ck0:=(HB.out.cell (p:=⟨wb,wo+1,none⟩) hbk0).trans HK0.out;have ck1:=(HB.out.cell (p:=⟨lb,lo+i3,none⟩) hbk1).trans HK1.out;go_wp2_with fail;refine (TS.out _).mono ?_; rintro e w' ⟨rfl,rfl⟩;go_wp2_with fail;refine (TL.out _).mono ?_; rintro e w' ⟨rfl,rfl⟩;go_wp2_with fail;go_ret;exact ⟨rfl,HB.out⟩
set_option maxRecDepth 100000 in
set_option maxHeartbeats 16000000 in
theorem slotNumber1 (code pc:Int) (wb wo wc lb lo ln lc:Nat) (t:Int) (ht:U64 t) (c:ConfM) (k:Nat) (hk:k<c.caps.length) (hg:c.good) (hln:ln=(ringL c k).length) (w:World) (hwb:wb<w.heap.size) (hlb:lb<w.heap.size) (hw1:w.cell? ⟨wb,wo+1,none⟩=some (.int .u64 t)) (hsl:∀i,i<2 * (c.size k).toNat→w.cell? ⟨lb,lo+(3+i),none⟩=some (.int .i64 (c.base k+5+(i:Int)))):Calls Tryz.prog 100 #[.agg #[.int .i64 code,.int .i64 pc,.slice (some ⟨wb,wo,none⟩) 2 wc,.slice (some ⟨lb,lo,none⟩) ln lc,.slice none 0 0],.int .i64 1] w fun e w'=>e=.returned (.int .i64 (c.slotW k (t / 2)+1))∧Below w.heap.size w w':=by
 have hsz:=hg.size k hk;have hs:=slotI_lt (t / 2) (c.size k) (by have:=ht.1; omega) hsz.1;obtain ⟨sn,hsn⟩:∃sn:Nat,slotI (t / 2) (c.size k)=(sn:Int):=⟨(slotI (t / 2) (c.size k)).toNat,by omega⟩;have TL:=Lib.hid fun w'=>slot_any (t / 2) (c.size k) w' (by have:=ht.1; omega) (by have:=ht.2; omega) (by omega) (by omega);have TS:=Lib.hid fun w'=>seq_any t w';rw [ringL_length] at hln;rw [hsn] at TL hs;obtain ⟨sz,hsz2⟩:∃sz,c.size k=sz:=⟨_,rfl⟩;have hsv:c.slotW k (t / 2)=c.base k+5+(sn:Int) * 2:=by rw [slotW_eq,hsn]
 rw [hsz2] at hsz hs hsl hln TL;obtain ⟨i1,hi1⟩:∃i1:Nat,IntKind.i64.wrap ((sn:Int) * 2)=(i1:Int):=⟨2 * sn,by rw [IntKind.wrap_i64]; omega⟩;have hi1':i1=2 * sn:=by rw [IntKind.wrap_i64] at hi1; omega
 obtain ⟨i2,hi2⟩:∃i2:Nat,IntKind.i64.wrap (3+(i1:Int))=(i2:Int):=⟨3+i1,by rw [IntKind.wrap_i64]; omega⟩;have hi2':i2=3+i1:=by rw [IntKind.wrap_i64] at hi2; omega
 obtain ⟨i3,hi3⟩:∃i3:Nat,IntKind.i64.wrap ((i2:Int)+1)=(i3:Int):=⟨i2+1,by rw [IntKind.wrap_i64]; omega⟩;have hi3':i3=i2+1:=by rw [IntKind.wrap_i64] at hi3; omega
 have hcell:=hsl (2 * sn+1) (by omega);rw [show lo+(3+(2 * sn+1))=lo+i3 by omega] at hcell;have hval:c.base k+5+((2 * sn+1:Nat):Int)=c.slotW k (t / 2)+1:=by rw [hsv]; omega
 rw [hval] at hcell;obtain ⟨rv,hrv⟩:∃rv,c.slotW k (t / 2)+1=rv:=⟨_,rfl⟩;rw [hrv] at hcell;rw [hrv];obtain ⟨q,hq⟩:∃q,t / 2=q:=⟨_,rfl⟩;rw [hq] at TS TL;have hl1:IntKind.i64.wrap ((ln:Int) - 3)=sz * 2:=by rw [IntKind.wrap_i64]; omega
 have hl2:(sz * 2).tdiv 2=sz:=Int.mul_tdiv_cancel _ (by decide);have hl3:IntKind.i64.wrap sz=sz:=by rw [IntKind.wrap_i64]; omega
 have hi3b:(i3:Int)<(ln:Int):=by omega
 clear hsl hsv hval hrv hq hsn hs hi1' hi2' hi3' hsz hsz2 hln ht hk hg;have HK0:=Lib.hid (hw1);have hbk0:wb<w.heap.size:=hwb;have HK1:=Lib.hid (hcell);have hbk1:lb<w.heap.size:=hlb;obtain ⟨W,hW,HB,R0,hz⟩:=one_new w (.cells #[.int .i64 code,.int .i64 pc,.slice (some ⟨wb,wo,none⟩) 2 wc,.slice (some ⟨lb,lo,none⟩) ln lc,.slice none 0 0] 51);have HW:=Lib.hid hW;clear hW;go_enter Tryz.func100,Tryz.ntmps100;go_upto_region 1 with fail
 rw [HW.out];clear HW;obtain ⟨x0_0,x0_1,x0_2,x0_3,x0_4⟩:=rowc5 R0.out;have ck0:=(HB.out.cell (p:=⟨wb,wo+1,none⟩) hbk0).trans HK0.out;have ck1:=(HB.out.cell (p:=⟨lb,lo+i3,none⟩) hbk1).trans HK1.out;go_wp2_with fail;refine (TS.out _).mono ?_; rintro e w' ⟨rfl,rfl⟩;go_wp2_with fail;refine (TL.out _).mono ?_; rintro e w' ⟨rfl,rfl⟩;go_wp2_with fail;go_ret;exact ⟨rfl,HB.out⟩
end Go.Proofs.YtjnlkemdaffgbaaGreat.Q3
namespace Go.Proofs.YtjnlkemdaffgbaaGreat.Q3
open Go.ChangeShapes Go.WideShapes Go.ChangeAt Go.RowKit
set_option maxRecDepth 100000
set_option maxRecDepth 100000 in
set_option maxHeartbeats 16000000 in
theorem pNext1 (c:ConfM) (k:Nat) (hk:k<c.caps.length) (hg:c.good) (val t:Int) (ht:U64 t) (W L:Value) (w:World) (hv:PuV w c k val t W L):Calls Tryz.prog 73 #[.agg (puL 0 1 W L).toArray] w fun e w'=>e=.returned (accV ⟨1,c.base k,0,0,0⟩)∧Below w.heap.size w w':=by
 obtain ⟨wb,wo,wc,lb,lo,lc,rfl,rfl,hwb,hlb,hw0,hw1,hl0,hl1,hl2,hls⟩:=hv.open;obtain ⟨ln,hln⟩:∃ln,(ringL c k).length=ln:=⟨_,rfl⟩;have hln5:5≤ln:=by rw [← hln,ringL_length]; have:=hg.size k hk; omega
 rw [hln];have HK0:=Lib.hid (hl0);have hbk0:lb<w.heap.size:=hlb;have HK1:=Lib.hid (hw1);have hbk1:wb<w.heap.size:=hwb;obtain ⟨W,hW,HB,R0,R1,hz⟩:=two_new w (.cells #[.int .i64 0,.int .i64 1,.slice (some ⟨wb,wo,none⟩) 2 wc,.slice (some ⟨lb,lo,none⟩) ln lc,.slice none 0 0] 51) (.cells #[.int .i64 0,.int .i64 0,.int .u64 0,.int .u64 0,.int .i64 0] 56);have HW:=Lib.hid hW;clear hW;have TCM:=Lib.hid fun w'=>complete_run 0 1 wb wo wc lb lo ln lc hln5 w';have TSQ:=Lib.hid fun w'=>seq_any t w';have TQN:=Lib.hid fun w'=>qnext_any (t / 2) 1 w';have TSL:=Lib.hid fun w' (hb:Below w.heap.size w w')=>slotNumber0 0 1 wb wo wc lb lo ln lc t ht c k hk hg hln.symm w' (Nat.lt_of_lt_of_le hwb hb.size) (Nat.lt_of_lt_of_le hlb hb.size) ((hb.cell (p:=⟨wb,wo+1,none⟩) hwb).trans hw1) (fun i hi=>(hb.cell (p:=⟨lb,lo+(3+i),none⟩) hlb).trans (hls i hi));clear hls;unfold puL accV;try dsimp only
 obtain ⟨sq,hsq⟩:∃sq,t / 2=sq:=⟨_,rfl⟩;rw [hsq] at TSQ TQN TSL;try rw [hsq]
 obtain ⟨sx,hsx⟩:∃sx,nextI sq 1=sx:=⟨_,rfl⟩;rw [hsx] at TQN;try rw [hsx]
 have hi0:0<ln:=by omega
 have hi1:1<ln:=by omega
 have hi2:2<ln:=by omega
 have hI0:(0:Int)<(ln:Int):=by omega
 have hI1:(1:Int)<(ln:Int):=by omega
 have hI2:(2:Int)<(ln:Int):=by omega
 clear hsq hsx ht hk hg hln5;go_enter Tryz.func73,Tryz.ntmps73;go_upto_region 1 with fail
 rw [HW.out];clear HW;obtain ⟨x0_0,x0_1,x0_2,x0_3,x0_4⟩:=rowc5 R0.out;have ck0:=(HB.out.cell (p:=⟨lb,lo,none⟩) hbk0).trans HK0.out;have ck1:=(HB.out.cell (p:=⟨wb,wo+1,none⟩) hbk1).trans HK1.out;have hsl:=hln;clear hsl;go_wp2_with fail;refine (TCM.out _).mono ?_; rintro e w1 ⟨rfl,hb1⟩;have P1_0:=keepR hb1 R0;have P1_1:=keepR hb1 R1;have HB1:=Lib.hid (below_then HB.out hb1);clear x0_0 x0_1 x0_2 x0_3 x0_4 ck0 ck1;clear hb1;obtain ⟨x0_0,x0_1,x0_2,x0_3,x0_4⟩:=rowc5 P1_0.out;have ck0:=(HB1.out.cell (p:=⟨lb,lo,none⟩) hbk0).trans HK0.out;have ck1:=(HB1.out.cell (p:=⟨wb,wo+1,none⟩) hbk1).trans HK1.out;go_wp2_with fail;refine (TSQ.out _).mono ?_; rintro e w' ⟨rfl,rfl⟩;go_wp2_with fail;refine (TQN.out _).mono ?_; rintro e w' ⟨rfl,rfl⟩;go_wp2_with (refine wpList_store_row rfl 56 _ _ rfl (w.heap.size+1) _ rfl rfl 56 _ P1_1.out (by kernel_rfl) rfl (by simp [Value.oneCell']) ?_);refine bodyPost_ret (v:=.agg #[.int .i64 1,.int .i64 (c.base k),.int .u64 0,.int .u64 0,.int .i64 0]) (results_cell_row Tryz.results73 _ _ (w.heap.size+1) 56 _ (0,0) _ rfl (setRow_heap _ _ _ _ 56 (0,0) P1_1.out) Tryz.underlying56 rfl (by kernel_rfl)) rfl ?_;exact ⟨rfl,row_below HB1.out (by omega) _⟩
set_option maxRecDepth 100000 in
set_option maxHeartbeats 16000000 in
theorem pNext2 (c:ConfM) (k:Nat) (hk:k<c.caps.length) (hg:c.good) (val t:Int) (ht:U64 t) (W L:Value) (w:World) (hv:PuV w c k val t W L):Calls Tryz.prog 73 #[.agg (puL 0 2 W L).toArray] w fun e w'=>e=.returned (accV ⟨1,c.base k+1,0,0,0⟩)∧Below w.heap.size w w':=by
 obtain ⟨wb,wo,wc,lb,lo,lc,rfl,rfl,hwb,hlb,hw0,hw1,hl0,hl1,hl2,hls⟩:=hv.open;obtain ⟨ln,hln⟩:∃ln,(ringL c k).length=ln:=⟨_,rfl⟩;have hln5:5≤ln:=by rw [← hln,ringL_length]; have:=hg.size k hk; omega
 rw [hln];have HK0:=Lib.hid (hl1);have hbk0:lb<w.heap.size:=hlb;have HK1:=Lib.hid (hw1);have hbk1:wb<w.heap.size:=hwb;obtain ⟨W,hW,HB,R0,R1,hz⟩:=two_new w (.cells #[.int .i64 0,.int .i64 2,.slice (some ⟨wb,wo,none⟩) 2 wc,.slice (some ⟨lb,lo,none⟩) ln lc,.slice none 0 0] 51) (.cells #[.int .i64 0,.int .i64 0,.int .u64 0,.int .u64 0,.int .i64 0] 56);have HW:=Lib.hid hW;clear hW;have TCM:=Lib.hid fun w'=>complete_run 0 2 wb wo wc lb lo ln lc hln5 w';have TSQ:=Lib.hid fun w'=>seq_any t w';have TQN:=Lib.hid fun w'=>qnext_any (t / 2) 1 w';have TSL:=Lib.hid fun w' (hb:Below w.heap.size w w')=>slotNumber0 0 2 wb wo wc lb lo ln lc t ht c k hk hg hln.symm w' (Nat.lt_of_lt_of_le hwb hb.size) (Nat.lt_of_lt_of_le hlb hb.size) ((hb.cell (p:=⟨wb,wo+1,none⟩) hwb).trans hw1) (fun i hi=>(hb.cell (p:=⟨lb,lo+(3+i),none⟩) hlb).trans (hls i hi));clear hls;unfold puL accV;try dsimp only
 obtain ⟨sq,hsq⟩:∃sq,t / 2=sq:=⟨_,rfl⟩;rw [hsq] at TSQ TQN TSL;try rw [hsq]
 obtain ⟨sx,hsx⟩:∃sx,nextI sq 1=sx:=⟨_,rfl⟩;rw [hsx] at TQN;try rw [hsx]
 have hi0:0<ln:=by omega
 have hi1:1<ln:=by omega
 have hi2:2<ln:=by omega
 have hI0:(0:Int)<(ln:Int):=by omega
 have hI1:(1:Int)<(ln:Int):=by omega
 have hI2:(2:Int)<(ln:Int):=by omega
 clear hsq hsx ht hk hg hln5;go_enter Tryz.func73,Tryz.ntmps73;go_upto_region 1 with fail
 rw [HW.out];clear HW;obtain ⟨x0_0,x0_1,x0_2,x0_3,x0_4⟩:=rowc5 R0.out;have ck0:=(HB.out.cell (p:=⟨lb,lo+1,none⟩) hbk0).trans HK0.out;have ck1:=(HB.out.cell (p:=⟨wb,wo+1,none⟩) hbk1).trans HK1.out;have hsl:=hln;clear hsl;go_wp2_with fail;refine (TCM.out _).mono ?_; rintro e w1 ⟨rfl,hb1⟩;have P1_0:=keepR hb1 R0;have P1_1:=keepR hb1 R1;have HB1:=Lib.hid (below_then HB.out hb1);clear x0_0 x0_1 x0_2 x0_3 x0_4 ck0 ck1;clear hb1;obtain ⟨x0_0,x0_1,x0_2,x0_3,x0_4⟩:=rowc5 P1_0.out;have ck0:=(HB1.out.cell (p:=⟨lb,lo+1,none⟩) hbk0).trans HK0.out;have ck1:=(HB1.out.cell (p:=⟨wb,wo+1,none⟩) hbk1).trans HK1.out;go_wp2_with fail;refine (TSQ.out _).mono ?_; rintro e w' ⟨rfl,rfl⟩;go_wp2_with fail;refine (TQN.out _).mono ?_; rintro e w' ⟨rfl,rfl⟩;go_wp2_with (refine wpList_store_row rfl 56 _ _ rfl (w.heap.size+1) _ rfl rfl 56 _ P1_1.out (by kernel_rfl) rfl (by simp [Value.oneCell']) ?_);refine bodyPost_ret (v:=.agg #[.int .i64 1,.int .i64 (c.base k+1),.int .u64 0,.int .u64 0,.int .i64 0]) (results_cell_row Tryz.results73 _ _ (w.heap.size+1) 56 _ (0,0) _ rfl (setRow_heap _ _ _ _ 56 (0,0) P1_1.out) Tryz.underlying56 rfl (by kernel_rfl)) rfl ?_;exact ⟨rfl,row_below HB1.out (by omega) _⟩
set_option maxRecDepth 100000 in
set_option maxHeartbeats 16000000 in
theorem pNext3 (c:ConfM) (k:Nat) (hk:k<c.caps.length) (hg:c.good) (val t:Int) (ht:U64 t) (W L:Value) (w:World) (hv:PuV w c k val t W L):Calls Tryz.prog 73 #[.agg (puL 0 3 W L).toArray] w fun e w'=>e=.returned (accV ⟨1,c.base k,0,0,0⟩)∧Below w.heap.size w w':=by
 obtain ⟨wb,wo,wc,lb,lo,lc,rfl,rfl,hwb,hlb,hw0,hw1,hl0,hl1,hl2,hls⟩:=hv.open;obtain ⟨ln,hln⟩:∃ln,(ringL c k).length=ln:=⟨_,rfl⟩;have hln5:5≤ln:=by rw [← hln,ringL_length]; have:=hg.size k hk; omega
 rw [hln];have HK0:=Lib.hid (hl0);have hbk0:lb<w.heap.size:=hlb;have HK1:=Lib.hid (hw1);have hbk1:wb<w.heap.size:=hwb;obtain ⟨W,hW,HB,R0,R1,hz⟩:=two_new w (.cells #[.int .i64 0,.int .i64 3,.slice (some ⟨wb,wo,none⟩) 2 wc,.slice (some ⟨lb,lo,none⟩) ln lc,.slice none 0 0] 51) (.cells #[.int .i64 0,.int .i64 0,.int .u64 0,.int .u64 0,.int .i64 0] 56);have HW:=Lib.hid hW;clear hW;have TCM:=Lib.hid fun w'=>complete_run 0 3 wb wo wc lb lo ln lc hln5 w';have TSQ:=Lib.hid fun w'=>seq_any t w';have TQN:=Lib.hid fun w'=>qnext_any (t / 2) 1 w';have TSL:=Lib.hid fun w' (hb:Below w.heap.size w w')=>slotNumber0 0 3 wb wo wc lb lo ln lc t ht c k hk hg hln.symm w' (Nat.lt_of_lt_of_le hwb hb.size) (Nat.lt_of_lt_of_le hlb hb.size) ((hb.cell (p:=⟨wb,wo+1,none⟩) hwb).trans hw1) (fun i hi=>(hb.cell (p:=⟨lb,lo+(3+i),none⟩) hlb).trans (hls i hi));clear hls;unfold puL accV;try dsimp only
 obtain ⟨sq,hsq⟩:∃sq,t / 2=sq:=⟨_,rfl⟩;rw [hsq] at TSQ TQN TSL;try rw [hsq]
 obtain ⟨sx,hsx⟩:∃sx,nextI sq 1=sx:=⟨_,rfl⟩;rw [hsx] at TQN;try rw [hsx]
 have hi0:0<ln:=by omega
 have hi1:1<ln:=by omega
 have hi2:2<ln:=by omega
 have hI0:(0:Int)<(ln:Int):=by omega
 have hI1:(1:Int)<(ln:Int):=by omega
 have hI2:(2:Int)<(ln:Int):=by omega
 clear hsq hsx ht hk hg hln5;go_enter Tryz.func73,Tryz.ntmps73;go_upto_region 1 with fail
 rw [HW.out];clear HW;obtain ⟨x0_0,x0_1,x0_2,x0_3,x0_4⟩:=rowc5 R0.out;have ck0:=(HB.out.cell (p:=⟨lb,lo,none⟩) hbk0).trans HK0.out;have ck1:=(HB.out.cell (p:=⟨wb,wo+1,none⟩) hbk1).trans HK1.out;have hsl:=hln;clear hsl;go_wp2_with fail;refine (TCM.out _).mono ?_; rintro e w1 ⟨rfl,hb1⟩;have P1_0:=keepR hb1 R0;have P1_1:=keepR hb1 R1;have HB1:=Lib.hid (below_then HB.out hb1);clear x0_0 x0_1 x0_2 x0_3 x0_4 ck0 ck1;clear hb1;obtain ⟨x0_0,x0_1,x0_2,x0_3,x0_4⟩:=rowc5 P1_0.out;have ck0:=(HB1.out.cell (p:=⟨lb,lo,none⟩) hbk0).trans HK0.out;have ck1:=(HB1.out.cell (p:=⟨wb,wo+1,none⟩) hbk1).trans HK1.out;go_wp2_with fail;refine (TSQ.out _).mono ?_; rintro e w' ⟨rfl,rfl⟩;go_wp2_with fail;refine (TQN.out _).mono ?_; rintro e w' ⟨rfl,rfl⟩;go_wp2_with (refine wpList_store_row rfl 56 _ _ rfl (w.heap.size+1) _ rfl rfl 56 _ P1_1.out (by kernel_rfl) rfl (by simp [Value.oneCell']) ?_);refine bodyPost_ret (v:=.agg #[.int .i64 1,.int .i64 (c.base k),.int .u64 0,.int .u64 0,.int .i64 0]) (results_cell_row Tryz.results73 _ _ (w.heap.size+1) 56 _ (0,0) _ rfl (setRow_heap _ _ _ _ 56 (0,0) P1_1.out) Tryz.underlying56 rfl (by kernel_rfl)) rfl ?_;exact ⟨rfl,row_below HB1.out (by omega) _⟩
set_option maxRecDepth 100000 in
set_option maxHeartbeats 16000000 in
theorem pNext4 (c:ConfM) (k:Nat) (hk:k<c.caps.length) (hg:c.good) (val t:Int) (ht:U64 t) (W L:Value) (w:World) (hv:PuV w c k val t W L):Calls Tryz.prog 73 #[.agg (puL 0 4 W L).toArray] w fun e w'=>e=.returned (accV ⟨1,c.slotW k (t / 2),0,0,0⟩)∧Below w.heap.size w w':=by
 obtain ⟨wb,wo,wc,lb,lo,lc,rfl,rfl,hwb,hlb,hw0,hw1,hl0,hl1,hl2,hls⟩:=hv.open;obtain ⟨ln,hln⟩:∃ln,(ringL c k).length=ln:=⟨_,rfl⟩;have hln5:5≤ln:=by rw [← hln,ringL_length]; have:=hg.size k hk; omega
 rw [hln];have HK0:=Lib.hid (hw1);have hbk0:wb<w.heap.size:=hwb;obtain ⟨W,hW,HB,R0,R1,hz⟩:=two_new w (.cells #[.int .i64 0,.int .i64 4,.slice (some ⟨wb,wo,none⟩) 2 wc,.slice (some ⟨lb,lo,none⟩) ln lc,.slice none 0 0] 51) (.cells #[.int .i64 0,.int .i64 0,.int .u64 0,.int .u64 0,.int .i64 0] 56);have HW:=Lib.hid hW;clear hW;have TCM:=Lib.hid fun w'=>complete_run 0 4 wb wo wc lb lo ln lc hln5 w';have TSQ:=Lib.hid fun w'=>seq_any t w';have TQN:=Lib.hid fun w'=>qnext_any (t / 2) 1 w';have TSL:=Lib.hid fun w' (hb:Below w.heap.size w w')=>slotNumber0 0 4 wb wo wc lb lo ln lc t ht c k hk hg hln.symm w' (Nat.lt_of_lt_of_le hwb hb.size) (Nat.lt_of_lt_of_le hlb hb.size) ((hb.cell (p:=⟨wb,wo+1,none⟩) hwb).trans hw1) (fun i hi=>(hb.cell (p:=⟨lb,lo+(3+i),none⟩) hlb).trans (hls i hi));clear hls;unfold puL accV;try dsimp only
 obtain ⟨sq,hsq⟩:∃sq,t / 2=sq:=⟨_,rfl⟩;rw [hsq] at TSQ TQN TSL;try rw [hsq]
 obtain ⟨sx,hsx⟩:∃sx,nextI sq 1=sx:=⟨_,rfl⟩;rw [hsx] at TQN;try rw [hsx]
 have hi0:0<ln:=by omega
 have hi1:1<ln:=by omega
 have hi2:2<ln:=by omega
 have hI0:(0:Int)<(ln:Int):=by omega
 have hI1:(1:Int)<(ln:Int):=by omega
 have hI2:(2:Int)<(ln:Int):=by omega
 clear hsq hsx ht hk hg hln5;go_enter Tryz.func73,Tryz.ntmps73;go_upto_region 1 with fail
 rw [HW.out];clear HW;obtain ⟨x0_0,x0_1,x0_2,x0_3,x0_4⟩:=rowc5 R0.out;have ck0:=(HB.out.cell (p:=⟨wb,wo+1,none⟩) hbk0).trans HK0.out;have hsl:=hln;clear hsl;go_wp2_with fail;refine (TCM.out _).mono ?_; rintro e w1 ⟨rfl,hb1⟩;have P1_0:=keepR hb1 R0;have P1_1:=keepR hb1 R1;have HB1:=Lib.hid (below_then HB.out hb1);clear x0_0 x0_1 x0_2 x0_3 x0_4 ck0;clear hb1;obtain ⟨x0_0,x0_1,x0_2,x0_3,x0_4⟩:=rowc5 P1_0.out;have ck0:=(HB1.out.cell (p:=⟨wb,wo+1,none⟩) hbk0).trans HK0.out;go_wp2_with fail;refine (TSQ.out _).mono ?_; rintro e w' ⟨rfl,rfl⟩;go_wp2_with fail;refine (TQN.out _).mono ?_; rintro e w' ⟨rfl,rfl⟩;go_wp2_with fail;refine (TSL.out _ HB1.out).mono ?_; rintro e w2 ⟨rfl,hb2⟩;have P2_0:=keepR hb2 P1_0;have P2_1:=keepR hb2 P1_1;have HB2:=Lib.hid (below_then HB1.out hb2);clear x0_0 x0_1 x0_2 x0_3 x0_4 ck0;clear hb2;obtain ⟨x0_0,x0_1,x0_2,x0_3,x0_4⟩:=rowc5 P2_0.out;have ck0:=(HB2.out.cell (p:=⟨wb,wo+1,none⟩) hbk0).trans HK0.out;go_wp2_with (refine wpList_store_row rfl 56 _ _ rfl (w.heap.size+1) _ rfl rfl 56 _ P2_1.out (by kernel_rfl) rfl (by simp [Value.oneCell']) ?_);refine bodyPost_ret (v:=.agg #[.int .i64 1,.int .i64 (c.slotW k (sq)),.int .u64 0,.int .u64 0,.int .i64 0]) (results_cell_row Tryz.results73 _ _ (w.heap.size+1) 56 _ (0,0) _ rfl (setRow_heap _ _ _ _ 56 (0,0) P2_1.out) Tryz.underlying56 rfl (by kernel_rfl)) rfl ?_;exact ⟨rfl,row_below HB2.out (by omega) _⟩
set_option maxRecDepth 100000 in
set_option maxHeartbeats 16000000 in
theorem pNext5 (c:ConfM) (k:Nat) (hk:k<c.caps.length) (hg:c.good) (val t:Int) (ht:U64 t) (W L:Value) (w:World) (hv:PuV w c k val t W L):Calls Tryz.prog 73 #[.agg (puL 0 5 W L).toArray] w fun e w'=>e=.returned (accV ⟨3,c.base k,t,packI (nextI (t / 2) 1) false,0⟩)∧Below w.heap.size w w':=by
 obtain ⟨wb,wo,wc,lb,lo,lc,rfl,rfl,hwb,hlb,hw0,hw1,hl0,hl1,hl2,hls⟩:=hv.open;obtain ⟨ln,hln⟩:∃ln,(ringL c k).length=ln:=⟨_,rfl⟩;have hln5:5≤ln:=by rw [← hln,ringL_length]; have:=hg.size k hk; omega
 rw [hln];have HK0:=Lib.hid (hw1);have hbk0:wb<w.heap.size:=hwb;have HK1:=Lib.hid (hl0);have hbk1:lb<w.heap.size:=hlb;obtain ⟨W,hW,HB,R0,R1,hz⟩:=two_new w (.cells #[.int .i64 0,.int .i64 5,.slice (some ⟨wb,wo,none⟩) 2 wc,.slice (some ⟨lb,lo,none⟩) ln lc,.slice none 0 0] 51) (.cells #[.int .i64 0,.int .i64 0,.int .u64 0,.int .u64 0,.int .i64 0] 56);have HW:=Lib.hid hW;clear hW;have TCM:=Lib.hid fun w'=>complete_run 0 5 wb wo wc lb lo ln lc hln5 w';have TSQ:=Lib.hid fun w'=>seq_any t w';have TQN:=Lib.hid fun w'=>qnext_any (t / 2) 1 w';have TSL:=Lib.hid fun w' (hb:Below w.heap.size w w')=>slotNumber0 0 5 wb wo wc lb lo ln lc t ht c k hk hg hln.symm w' (Nat.lt_of_lt_of_le hwb hb.size) (Nat.lt_of_lt_of_le hlb hb.size) ((hb.cell (p:=⟨wb,wo+1,none⟩) hwb).trans hw1) (fun i hi=>(hb.cell (p:=⟨lb,lo+(3+i),none⟩) hlb).trans (hls i hi));clear hls;unfold puL accV;try dsimp only
 obtain ⟨sq,hsq⟩:∃sq,t / 2=sq:=⟨_,rfl⟩;rw [hsq] at TSQ TQN TSL;try rw [hsq]
 obtain ⟨sx,hsx⟩:∃sx,nextI sq 1=sx:=⟨_,rfl⟩;rw [hsx] at TQN;try rw [hsx]
 have hi0:0<ln:=by omega
 have hi1:1<ln:=by omega
 have hi2:2<ln:=by omega
 have hI0:(0:Int)<(ln:Int):=by omega
 have hI1:(1:Int)<(ln:Int):=by omega
 have hI2:(2:Int)<(ln:Int):=by omega
 clear hsq hsx ht hk hg hln5;go_enter Tryz.func73,Tryz.ntmps73;go_upto_region 1 with fail
 rw [HW.out];clear HW;obtain ⟨x0_0,x0_1,x0_2,x0_3,x0_4⟩:=rowc5 R0.out;have ck0:=(HB.out.cell (p:=⟨wb,wo+1,none⟩) hbk0).trans HK0.out;have ck1:=(HB.out.cell (p:=⟨lb,lo,none⟩) hbk1).trans HK1.out;have hsl:=hln;clear hsl;go_wp2_with fail;refine (TCM.out _).mono ?_; rintro e w1 ⟨rfl,hb1⟩;have P1_0:=keepR hb1 R0;have P1_1:=keepR hb1 R1;have HB1:=Lib.hid (below_then HB.out hb1);clear x0_0 x0_1 x0_2 x0_3 x0_4 ck0 ck1;clear hb1;obtain ⟨x0_0,x0_1,x0_2,x0_3,x0_4⟩:=rowc5 P1_0.out;have ck0:=(HB1.out.cell (p:=⟨wb,wo+1,none⟩) hbk0).trans HK0.out;have ck1:=(HB1.out.cell (p:=⟨lb,lo,none⟩) hbk1).trans HK1.out;go_wp2_with fail;refine (TSQ.out _).mono ?_; rintro e w' ⟨rfl,rfl⟩;go_wp2_with fail;refine (TQN.out _).mono ?_; rintro e w' ⟨rfl,rfl⟩;go_upto_region 14 with fail
 have KSd:Hid (∀w',Below w1.heap.size w1 w'→(fun w':World=>(w'.cell? ⟨w.heap.size,0,none⟩=some (.int .i64 0)∧w'.cell? ⟨w.heap.size,1,none⟩=some (.int .i64 5)∧w'.cell? ⟨w.heap.size,2,none⟩=some (.slice (some ⟨wb,wo,none⟩) 2 wc)∧w'.cell? ⟨w.heap.size,3,none⟩=some (.slice (some ⟨lb,lo,none⟩) ln lc)∧w'.cell? ⟨w.heap.size,4,none⟩=some (.slice none 0 0))∧w'.cell? ⟨wb,wo+1,none⟩=some (.int .u64 t)∧w'.cell? ⟨lb,lo,none⟩=some (.int .i64 (c.base k))) w'):=fun w' hb=>⟨rowc5 ((hb.block _ (ltR P1_0)).trans P1_0.out),(hb.cell (p:=⟨wb,wo+1,none⟩) (Nat.lt_of_lt_of_le hbk0 HB1.out.size)).trans ((HB1.out.cell (p:=⟨wb,wo+1,none⟩) hbk0).trans HK0.out),(hb.cell (p:=⟨lb,lo,none⟩) (Nat.lt_of_lt_of_le hbk1 HB1.out.size)).trans ((HB1.out.cell (p:=⟨lb,lo,none⟩) hbk1).trans HK1.out)⟩;clear x0_0 x0_1 x0_2 x0_3 x0_4 ck0 ck1;refine untilK KSd 8 9 (by kernel_rfl) rfl ?_;obtain ⟨u0,hu0,HU0⟩:=drew_pack w1;rw [hu0];clear hu0;have hSU0:=KSd.out _ HU0.out;apply tkV 0 hSU0 rfl (by kernel_rfl) (fun _ _ _ h=>h) rfl;intro w hSw;(go_simp<;>with_reducible rfl);simp only [J0,J1,J2,J3,J4];apply tkV 1 hSU0 rfl (by kernel_rfl) (fun _ _ _ h=>h) rfl;intro w hSw;(go_simp<;>with_reducible rfl);simp only [J0,J1,J2,J3,J4];apply tkV 2 hSU0 rfl (by kernel_rfl) (fun _ _ _ h=>h) rfl;intro w hSw;(go_simp<;>with_reducible rfl);simp only [J0,J1,J2,J3,J4];apply tkV 3 hSU0 rfl (by kernel_rfl) (fun _ _ _ h=>h) rfl;intro w hSw;(go_simp<;>with_reducible rfl);simp only [J0,J1,J2,J3,J4];apply tkV 4 hSU0 rfl (by kernel_rfl) (fun _ _ _ h=>h) rfl;intro w hSw;(go_simp<;>with_reducible rfl);simp only [J0,J1,J2,J3,J4];apply tkV 5 hSU0 rfl (by kernel_rfl) (fun _ _ _ h=>h) rfl;intro w hSw;(go_simp<;>with_reducible rfl);simp only [J0,J1,J2,J3,J4];refine consU 6 rfl (by kernel_rfl) rfl fun K hK=>?_;go_simp;go_at_call 101;refine (pack_any _ _ _).mono ?_;rintro e w9 ⟨rfl,rfl⟩;refine hK.out _ _ ?_ fun hSU1=>?_;exact KSd.out _ HU0.out;clear hK K hSU0;(try simp only [J0,J1,J2,J3,J4]);apply tkV 7 hSU1 rfl (by kernel_rfl) (fun _ _ _ h=>h) rfl;intro w hSw;(go_simp<;>with_reducible rfl);simp only [J0,J1,J2,J3,J4]
 refine freeU 8 rfl (by kernel_rfl) rfl (by kernel_rfl) fun K hK=>?_;have ZR:=keepR HU0.out P1_1;refine step_store_row rfl 56 _ _ rfl (w.heap.size+1) _ rfl rfl 56 _ ZR.out (by kernel_rfl) rfl (by simp [Value.oneCell']) ?_;refine hK.out _ _ ?_;clear hK K hSU1;(try simp only [J0,J1,J2,J3,J4]);refine wpAnyU_done (by kernel_rfl) ?_ _;go_wp2_with fail;refine bodyPost_ret (v:=.agg #[.int .i64 3,.int .i64 (c.base k),.int .u64 t,.int .u64 (packI (sx) false),.int .i64 0]) (results_cell_row Tryz.results73 _ _ (w.heap.size+1) 56 _ (0,0) _ rfl (setRow_heap _ _ _ _ 56 (0,0) ZR.out) Tryz.underlying56 rfl (by kernel_rfl)) rfl ?_;exact ⟨rfl,row_below (below_then HB1.out HU0.out) (by omega) _⟩
set_option maxRecDepth 100000 in
set_option maxHeartbeats 16000000 in
theorem pNext6 (c:ConfM) (k:Nat) (hk:k<c.caps.length) (hg:c.good) (val t:Int) (ht:U64 t) (W L:Value) (w:World) (hv:PuV w c k val t W L):Calls Tryz.prog 73 #[.agg (puL 0 6 W L).toArray] w fun e w'=>e=.returned (accV ⟨6,c.slotW k (t / 2)+1,0,val,0⟩)∧Below w.heap.size w w':=by
 obtain ⟨wb,wo,wc,lb,lo,lc,rfl,rfl,hwb,hlb,hw0,hw1,hl0,hl1,hl2,hls⟩:=hv.open;obtain ⟨ln,hln⟩:∃ln,(ringL c k).length=ln:=⟨_,rfl⟩;have hln5:5≤ln:=by rw [← hln,ringL_length]; have:=hg.size k hk; omega
 rw [hln];have HK0:=Lib.hid (hw0);have hbk0:wb<w.heap.size:=hwb;have HK1:=Lib.hid (hw1);have hbk1:wb<w.heap.size:=hwb;obtain ⟨W,hW,HB,R0,R1,hz⟩:=two_new w (.cells #[.int .i64 0,.int .i64 6,.slice (some ⟨wb,wo,none⟩) 2 wc,.slice (some ⟨lb,lo,none⟩) ln lc,.slice none 0 0] 51) (.cells #[.int .i64 0,.int .i64 0,.int .u64 0,.int .u64 0,.int .i64 0] 56);have HW:=Lib.hid hW;clear hW;have TCM:=Lib.hid fun w'=>complete_run 0 6 wb wo wc lb lo ln lc hln5 w';have TSQ:=Lib.hid fun w'=>seq_any t w';have TQN:=Lib.hid fun w'=>qnext_any (t / 2) 1 w';have TSL:=Lib.hid fun w' (hb:Below w.heap.size w w')=>slotNumber1 0 6 wb wo wc lb lo ln lc t ht c k hk hg hln.symm w' (Nat.lt_of_lt_of_le hwb hb.size) (Nat.lt_of_lt_of_le hlb hb.size) ((hb.cell (p:=⟨wb,wo+1,none⟩) hwb).trans hw1) (fun i hi=>(hb.cell (p:=⟨lb,lo+(3+i),none⟩) hlb).trans (hls i hi));clear hls;unfold puL accV;try dsimp only
 obtain ⟨sq,hsq⟩:∃sq,t / 2=sq:=⟨_,rfl⟩;rw [hsq] at TSQ TQN TSL;try rw [hsq]
 obtain ⟨sx,hsx⟩:∃sx,nextI sq 1=sx:=⟨_,rfl⟩;rw [hsx] at TQN;try rw [hsx]
 have hi0:0<ln:=by omega
 have hi1:1<ln:=by omega
 have hi2:2<ln:=by omega
 have hI0:(0:Int)<(ln:Int):=by omega
 have hI1:(1:Int)<(ln:Int):=by omega
 have hI2:(2:Int)<(ln:Int):=by omega
 clear hsq hsx ht hk hg hln5;go_enter Tryz.func73,Tryz.ntmps73;go_upto_region 1 with fail
 rw [HW.out];clear HW;obtain ⟨x0_0,x0_1,x0_2,x0_3,x0_4⟩:=rowc5 R0.out;have ck0:=(HB.out.cell (p:=⟨wb,wo,none⟩) hbk0).trans HK0.out;have ck1:=(HB.out.cell (p:=⟨wb,wo+1,none⟩) hbk1).trans HK1.out;have hsl:=hln;clear hsl;go_wp2_with fail;refine (TCM.out _).mono ?_; rintro e w1 ⟨rfl,hb1⟩;have P1_0:=keepR hb1 R0;have P1_1:=keepR hb1 R1;have HB1:=Lib.hid (below_then HB.out hb1);clear x0_0 x0_1 x0_2 x0_3 x0_4 ck0 ck1;clear hb1;obtain ⟨x0_0,x0_1,x0_2,x0_3,x0_4⟩:=rowc5 P1_0.out;have ck0:=(HB1.out.cell (p:=⟨wb,wo,none⟩) hbk0).trans HK0.out;have ck1:=(HB1.out.cell (p:=⟨wb,wo+1,none⟩) hbk1).trans HK1.out;go_wp2_with fail;refine (TSQ.out _).mono ?_; rintro e w' ⟨rfl,rfl⟩;go_wp2_with fail;refine (TQN.out _).mono ?_; rintro e w' ⟨rfl,rfl⟩;go_upto_region 16 with fail
 have KSd:Hid (∀w',Below w1.heap.size w1 w'→(fun w':World=>(w'.cell? ⟨w.heap.size,0,none⟩=some (.int .i64 0)∧w'.cell? ⟨w.heap.size,1,none⟩=some (.int .i64 6)∧w'.cell? ⟨w.heap.size,2,none⟩=some (.slice (some ⟨wb,wo,none⟩) 2 wc)∧w'.cell? ⟨w.heap.size,3,none⟩=some (.slice (some ⟨lb,lo,none⟩) ln lc)∧w'.cell? ⟨w.heap.size,4,none⟩=some (.slice none 0 0))∧w'.cell? ⟨wb,wo,none⟩=some (.int .u64 val)∧w'.cell? ⟨wb,wo+1,none⟩=some (.int .u64 t)) w'):=fun w' hb=>⟨rowc5 ((hb.block _ (ltR P1_0)).trans P1_0.out),(hb.cell (p:=⟨wb,wo,none⟩) (Nat.lt_of_lt_of_le hbk0 HB1.out.size)).trans ((HB1.out.cell (p:=⟨wb,wo,none⟩) hbk0).trans HK0.out),(hb.cell (p:=⟨wb,wo+1,none⟩) (Nat.lt_of_lt_of_le hbk1 HB1.out.size)).trans ((HB1.out.cell (p:=⟨wb,wo+1,none⟩) hbk1).trans HK1.out)⟩;clear x0_0 x0_1 x0_2 x0_3 x0_4 ck0 ck1;refine untilK KSd 7 8 (by kernel_rfl) rfl ?_;obtain ⟨u0,hu0,HU0⟩:=drew_pack w1;rw [hu0];clear hu0;have hSU0:=KSd.out _ HU0.out;apply tkV 0 hSU0 rfl (by kernel_rfl) (fun _ _ _ h=>h) rfl;intro w hSw;(go_simp<;>with_reducible rfl);simp only [J0,J1,J2,J3,J4];apply tkV 2 hSU0 rfl (by kernel_rfl) (fun _ _ _ h=>h) rfl;intro w hSw;(go_simp<;>with_reducible rfl);simp only [J0,J1,J2,J3,J4];apply tkV 3 hSU0 rfl (by kernel_rfl) (fun _ _ _ h=>h) rfl;intro w hSw;(go_simp<;>with_reducible rfl);simp only [J0,J1,J2,J3,J4];apply tkV 4 hSU0 rfl (by kernel_rfl) (fun _ _ _ h=>h) rfl;intro w hSw;(go_simp<;>with_reducible rfl);simp only [J0,J1,J2,J3,J4];apply tkV 5 hSU0 rfl (by kernel_rfl) (fun _ _ _ h=>h) rfl;intro w hSw;(go_simp<;>with_reducible rfl);simp only [J0,J1,J2,J3,J4];refine consU 1 rfl (by kernel_rfl) rfl fun K hK=>?_;go_simp;go_at_call 100;refine (TSL.out _ (below_then HB1.out HU0.out)).mono ?_;rintro e u1 ⟨rfl,hb⟩;have HU1:=Lib.hid (below_then HU0.out hb);clear hb;refine hK.out _ _ ?_ fun hSU1=>?_;exact KSd.out _ HU1.out;clear hK K hSU0;(try simp only [J0,J1,J2,J3,J4]);apply tkV 6 hSU1 rfl (by kernel_rfl) (fun _ _ _ h=>h) rfl;intro w hSw;(go_simp<;>with_reducible rfl);simp only [J0,J1,J2,J3,J4]
 refine freeU 7 rfl (by kernel_rfl) rfl (by kernel_rfl) fun K hK=>?_;have ZR:=keepR HU1.out P1_1;refine step_store_row rfl 56 _ _ rfl (w.heap.size+1) _ rfl rfl 56 _ ZR.out (by kernel_rfl) rfl (by simp [Value.oneCell']) ?_;refine hK.out _ _ ?_;clear hK K hSU1;(try simp only [J0,J1,J2,J3,J4]);refine wpAnyU_done (by kernel_rfl) ?_ _;go_wp2_with fail;refine bodyPost_ret (v:=.agg #[.int .i64 6,.int .i64 (c.slotW k (sq)+1),.int .u64 0,.int .u64 val,.int .i64 0]) (results_cell_row Tryz.results73 _ _ (w.heap.size+1) 56 _ (0,0) _ rfl (setRow_heap _ _ _ _ 56 (0,0) ZR.out) Tryz.underlying56 rfl (by kernel_rfl)) rfl ?_;exact ⟨rfl,row_below (below_then HB1.out HU1.out) (by omega) _⟩
set_option maxRecDepth 100000 in
set_option maxHeartbeats 16000000 in
theorem pNext7 (c:ConfM) (k:Nat) (hk:k<c.caps.length) (hg:c.good) (val t:Int) (ht:U64 t) (W L:Value) (w:World) (hv:PuV w c k val t W L):Calls Tryz.prog 73 #[.agg (puL 0 7 W L).toArray] w fun e w'=>e=.returned (accV ⟨2,c.slotW k (t / 2),0,nextI (t / 2) 1,0⟩)∧Below w.heap.size w w':=by
 obtain ⟨wb,wo,wc,lb,lo,lc,rfl,rfl,hwb,hlb,hw0,hw1,hl0,hl1,hl2,hls⟩:=hv.open;obtain ⟨ln,hln⟩:∃ln,(ringL c k).length=ln:=⟨_,rfl⟩;have hln5:5≤ln:=by rw [← hln,ringL_length]; have:=hg.size k hk; omega
 rw [hln];have HK0:=Lib.hid (hw1);have hbk0:wb<w.heap.size:=hwb;obtain ⟨W,hW,HB,R0,R1,hz⟩:=two_new w (.cells #[.int .i64 0,.int .i64 7,.slice (some ⟨wb,wo,none⟩) 2 wc,.slice (some ⟨lb,lo,none⟩) ln lc,.slice none 0 0] 51) (.cells #[.int .i64 0,.int .i64 0,.int .u64 0,.int .u64 0,.int .i64 0] 56);have HW:=Lib.hid hW;clear hW;have TCM:=Lib.hid fun w'=>complete_run 0 7 wb wo wc lb lo ln lc hln5 w';have TSQ:=Lib.hid fun w'=>seq_any t w';have TQN:=Lib.hid fun w'=>qnext_any (t / 2) 1 w';have TSL:=Lib.hid fun w' (hb:Below w.heap.size w w')=>slotNumber0 0 7 wb wo wc lb lo ln lc t ht c k hk hg hln.symm w' (Nat.lt_of_lt_of_le hwb hb.size) (Nat.lt_of_lt_of_le hlb hb.size) ((hb.cell (p:=⟨wb,wo+1,none⟩) hwb).trans hw1) (fun i hi=>(hb.cell (p:=⟨lb,lo+(3+i),none⟩) hlb).trans (hls i hi));clear hls;unfold puL accV;try dsimp only
 obtain ⟨sq,hsq⟩:∃sq,t / 2=sq:=⟨_,rfl⟩;rw [hsq] at TSQ TQN TSL;try rw [hsq]
 obtain ⟨sx,hsx⟩:∃sx,nextI sq 1=sx:=⟨_,rfl⟩;rw [hsx] at TQN;try rw [hsx]
 have hi0:0<ln:=by omega
 have hi1:1<ln:=by omega
 have hi2:2<ln:=by omega
 have hI0:(0:Int)<(ln:Int):=by omega
 have hI1:(1:Int)<(ln:Int):=by omega
 have hI2:(2:Int)<(ln:Int):=by omega
 clear hsq hsx ht hk hg hln5;go_enter Tryz.func73,Tryz.ntmps73;go_upto_region 1 with fail
 rw [HW.out];clear HW;obtain ⟨x0_0,x0_1,x0_2,x0_3,x0_4⟩:=rowc5 R0.out;have ck0:=(HB.out.cell (p:=⟨wb,wo+1,none⟩) hbk0).trans HK0.out;have hsl:=hln;clear hsl;go_wp2_with fail;refine (TCM.out _).mono ?_; rintro e w1 ⟨rfl,hb1⟩;have P1_0:=keepR hb1 R0;have P1_1:=keepR hb1 R1;have HB1:=Lib.hid (below_then HB.out hb1);clear x0_0 x0_1 x0_2 x0_3 x0_4 ck0;clear hb1;obtain ⟨x0_0,x0_1,x0_2,x0_3,x0_4⟩:=rowc5 P1_0.out;have ck0:=(HB1.out.cell (p:=⟨wb,wo+1,none⟩) hbk0).trans HK0.out;go_wp2_with fail;refine (TSQ.out _).mono ?_; rintro e w' ⟨rfl,rfl⟩;go_wp2_with fail;refine (TQN.out _).mono ?_; rintro e w' ⟨rfl,rfl⟩;go_wp2_with fail;refine (TSL.out _ HB1.out).mono ?_; rintro e w2 ⟨rfl,hb2⟩;have P2_0:=keepR hb2 P1_0;have P2_1:=keepR hb2 P1_1;have HB2:=Lib.hid (below_then HB1.out hb2);clear x0_0 x0_1 x0_2 x0_3 x0_4 ck0;clear hb2;obtain ⟨x0_0,x0_1,x0_2,x0_3,x0_4⟩:=rowc5 P2_0.out;have ck0:=(HB2.out.cell (p:=⟨wb,wo+1,none⟩) hbk0).trans HK0.out;go_wp2_with (refine wpList_store_row rfl 56 _ _ rfl (w.heap.size+1) _ rfl rfl 56 _ P2_1.out (by kernel_rfl) rfl (by simp [Value.oneCell']) ?_);refine bodyPost_ret (v:=.agg #[.int .i64 2,.int .i64 (c.slotW k (sq)),.int .u64 0,.int .u64 sx,.int .i64 0]) (results_cell_row Tryz.results73 _ _ (w.heap.size+1) 56 _ (0,0) _ rfl (setRow_heap _ _ _ _ 56 (0,0) P2_1.out) Tryz.underlying56 rfl (by kernel_rfl)) rfl ?_;exact ⟨rfl,row_below HB2.out (by omega) _⟩
set_option maxRecDepth 100000 in
set_option maxHeartbeats 16000000 in
theorem pNextE (code:Int) (w:World):Calls Tryz.prog 73 #[.agg (puL code 8 nilS nilS).toArray] w fun e w'=>e=.returned (accV ⟨0,0,0,0,0⟩)∧Below w.heap.size w w':=by
 obtain ⟨W,hW,HB,R0,R1,hz⟩:=two_new w (.cells #[.int .i64 code,.int .i64 8,.slice none 0 0,.slice none 0 0,.slice none 0 0] 51) (.cells #[.int .i64 0,.int .i64 0,.int .u64 0,.int .u64 0,.int .i64 0] 56);have HW:=Lib.hid hW;clear hW;have TCM:=Lib.hid fun w'=>complete_not code 8 (.slice none 0 0) (.slice none 0 0) ⟨_,_,_,rfl⟩ ⟨_,_,_,rfl⟩ w';unfold puL nilS accV;go_enter Tryz.func73,Tryz.ntmps73;go_upto_region 1 with fail
 rw [HW.out];clear HW;obtain ⟨x0_0,x0_1,x0_2,x0_3,x0_4⟩:=rowc5 R0.out;go_wp2_with fail;refine (TCM.out _).mono ?_; rintro e w1 ⟨rfl,hb1⟩;have P1_0:=keepR hb1 R0;have P1_1:=keepR hb1 R1;have HB1:=Lib.hid (below_then HB.out hb1);clear x0_0 x0_1 x0_2 x0_3 x0_4;clear hb1;obtain ⟨x0_0,x0_1,x0_2,x0_3,x0_4⟩:=rowc5 P1_0.out;clear x0_0 x0_1 x0_2 x0_3 x0_4;go_wp2_with (refine wpList_store_row rfl 56 _ _ rfl (w.heap.size+1) _ rfl rfl 56 _ P1_1.out (by kernel_rfl) rfl (by simp [Value.oneCell']) ?_);refine bodyPost_ret (v:=.agg #[.int .i64 0,.int .i64 0,.int .u64 0,.int .u64 0,.int .i64 0]) (results_cell_row Tryz.results73 _ _ (w.heap.size+1) 56 _ (0,0) _ rfl (setRow_heap _ _ _ _ 56 (0,0) P1_1.out) Tryz.underlying56 rfl (by kernel_rfl)) rfl ?_;exact ⟨rfl,row_below HB1.out (by omega) _⟩
end Go.Proofs.YtjnlkemdaffgbaaGreat.Q3
namespace Go.Proofs.YtjnlkemdaffgbaaGreat
open Go.ChangeShapes Go.WideShapes Go.ChangeAt Go.RowKit
set_option maxRecDepth 100000
def scopes (P:Program):Nat→(Nat→Option Code)→(Exit→Act→World→Prop)→Exit→Act→World→Prop
 | 0,_,_,.goto _,_,_=>False
 | n+1,f,Q,.goto l,a,w=>∃rest,f l=some rest∧rest.wp P (scopes P n f Q) a w
 | _,_,Q,.normal,a,w=>Q .normal a w
 | _,_,Q,.exit id,a,w=>Q (.exit id) a w
 | _,_,Q,.ret,a,w=>Q .ret a w
 | _,_,Q,.panic c,a,w=>Q (.panic c) a w
 | _,_,Q,.outgrown,a,w=>Q .outgrown a w
section
variable {P:Program} {a:Act} {w:World} {Q:Exit→Act→World→Prop} {n:Nat} {f:Nat→Option Code}
theorem scopes_ret:scopes P n f Q .ret a w=Q .ret a w:=by cases n <;> rfl
theorem scopes_goto {l:Nat} {rest:Code} (hf:f l=some rest) (h:rest.wp P (scopes P n f Q) a w):scopes P (n+1) f Q (.goto l) a w:=⟨rest,hf,h⟩
theorem wp_scopes {c:Code} (n:Nat) (h:∀f:Nat→Option Code,Hid (∀l,f l=findLabel c l)→c.wp P (scopes P n f Q) a w):(Code.scope c).wp P Q a w:=by
 obtain ⟨f,hf⟩:∃f:Nat→Option Code,∀l,f l=findLabel c l:=⟨_,fun _=>rfl⟩;intro b k cs;have hg:∀l rest,f l=some rest→gotoIn l (.inScope c :: k)=some (.code rest :: .inScope c :: k):=fun l rest h=>by
  rw [hf] at h; simp [gotoIn,h]
 have key:∀(n:Nat) (d:Code) (a:Act) (w:World),d.wp P (scopes P n f Q) a w→∃e a' w',Q e a' w'∧Arrives P (lone (b.at a (.code d :: .inScope c :: k)) cs w) b k cs e a' w':=by
  intro n;induction n with
  | zero=>
   intro d a w hd;obtain ⟨e,a₁,w₁,hq,harr⟩:=hd b (.inScope c :: k) cs;cases e with
   | normal=>exact ⟨.normal,a₁,w₁,hq,Steps.trans harr (.one step_inScope)⟩
   | exit id=>exact ⟨.exit id,a₁,w₁,hq,fun k' hk=>harr k' (by simp [exitTo,hk])⟩
   | goto l'=>exact False.elim hq
   | ret=>exact ⟨_,a₁,w₁,hq,harr⟩
   | panic ch=>exact ⟨_,a₁,w₁,hq,harr⟩
   | outgrown=>exact ⟨_,a₁,w₁,hq,harr⟩
  | succ n ih=>
   intro d a w hd;obtain ⟨e,a₁,w₁,hq,harr⟩:=hd b (.inScope c :: k) cs;cases e with
   | normal=>exact ⟨.normal,a₁,w₁,hq,Steps.trans harr (.one step_inScope)⟩
   | exit id=>exact ⟨.exit id,a₁,w₁,hq,fun k' hk=>harr k' (by simp [exitTo,hk])⟩
   | goto l'=>
    obtain ⟨rest,hr,hw⟩:=hq;obtain ⟨e₂,a₂,w₂,hq₂,harr₂⟩:=ih rest a₁ w₁ hw;exact ⟨e₂,a₂,w₂,hq₂,.of_steps (harr _ (hg _ _ hr)) harr₂⟩
   | ret=>exact ⟨_,a₁,w₁,hq,harr⟩
   | panic ch=>exact ⟨_,a₁,w₁,hq,harr⟩
   | outgrown=>exact ⟨_,a₁,w₁,hq,harr⟩
 obtain ⟨e,a₁,w₁,hq,harr⟩:=key n c a w (h f hf);exact ⟨e,a₁,w₁,hq,.of_steps (.one step_scope) harr⟩
end
end Go.Proofs.YtjnlkemdaffgbaaGreat
