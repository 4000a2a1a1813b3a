import Derived.Deep.DeepCutAuto
import Derived.Deep.RegionLaw
import Derived.Test.YtjnlkemdaffgbaaGreatB12
import Derived.Test.YtjnlkemdaffgbaaGreatB04
import Derived.Test.YtjnlkemdaffgbaaGreatB03
import Derived.Test.YtjnlkemdaffgbaaGreatB02
import Derived.Test.YtjnlkemdaffgbaaGreatB08
set_option linter.unusedVariables false
set_option linter.unusedSimpArgs false
namespace Go.Proofs.YtjnlkemdaffgbaaGreat.Q5
open Go.ChangeShapes Go.WideShapes Go.ChangeAt Go.RowKit
set_option maxRecDepth 100000
set_option maxRecDepth 100000 in
set_option maxHeartbeats 16000000 in
theorem pRes1c (c:ConfM) (k:Nat) (x:Int) (W L:Value) (w:World) (hv:PuV w c k x W L) (b:Int) (p q:Bool) (aa:Option Addr) (n ac:Nat) (h0:0≤b) (h1:b<18446744073709551616) (hcl:closedB b=true):Calls Tryz.prog 78 #[.agg (puL 0 1 W L).toArray,.agg #[.int .u64 b,.bool p,.bool q,.slice aa n ac]] w fun e w'=>e=.returned (.agg (puL 4 3 nilS nilS).toArray)∧Below w.heap.size w w':=by
 obtain ⟨wb,wo,wc,lb,lo,lc,rfl,rfl,hwb,hlb,hw0,hl0⟩:=hv.open;obtain ⟨W,hW,HB,R0,R1,R2,hz⟩:=three_new w (.cells #[.int .i64 0,.int .i64 1,.slice (some ⟨wb,wo,none⟩) 1 wc,.slice (some ⟨lb,lo,none⟩) 1 lc,.slice none 0 0] 51) (.cells #[.int .u64 b,.bool p,.bool q,.slice aa n ac] 86) (.cells #[.int .i64 0,.int .i64 0,.slice none 0 0,.slice none 0 0,.slice none 0 0] 51);have HW:=Lib.hid hW;clear hW;have TCM:=Lib.hid fun w'=>complete_run 0 1 wb wo wc lb lo lc w';have TEN:=Lib.hid fun k w'=>end_any k w';have TCL:=Lib.hid fun w'=>closed_any b w' h0 h1;rw [hcl] at TCL;clear hcl h0 h1;clear hw0 hl0 hwb hlb;unfold puL;try unfold nilS
 try dsimp only
 go_enter Tryz.func78,Tryz.ntmps78;go_wp2_with fail;rw [HW.out];clear HW;refine wp_scopes 4 fun f HF=>?_;obtain ⟨x0_0,x0_1,x0_2,x0_3,x0_4⟩:=rowc5 R0.out;obtain ⟨x1_0,x1_1,x1_2,x1_3⟩:=rowc4 R1.out;go_wp2_with fail;refine (TCM.out _).mono ?_; rintro e w1 ⟨rfl,hb1⟩;have P1_0:=keepR hb1 R0;have P1_1:=keepR hb1 R1;have P1_2:=keepR hb1 R2;have HB1:=Lib.hid (below_then HB.out hb1);clear x0_0 x0_1 x0_2 x0_3 x0_4 x1_0 x1_1 x1_2 x1_3;clear hb1;obtain ⟨x0_0,x0_1,x0_2,x0_3,x0_4⟩:=rowc5 P1_0.out;obtain ⟨x1_0,x1_1,x1_2,x1_3⟩:=rowc4 P1_1.out;go_wp2_with fail;go_step3;refine scopes_goto ((HF.out 0).trans rfl) ?_;go_wp2_with fail;refine (TCL.out _).mono ?_; rintro e w' ⟨rfl,rfl⟩;go_wp2_with fail;refine (TEN.out _ _).mono ?_; rintro e w2 ⟨rfl,hb2⟩;have P2_0:=keepR hb2 P1_0;have P2_1:=keepR hb2 P1_1;have P2_2:=keepR hb2 P1_2;have HB2:=Lib.hid (below_then HB1.out hb2);clear x0_0 x0_1 x0_2 x0_3 x0_4 x1_0 x1_1 x1_2 x1_3;clear hb2;obtain ⟨x0_0,x0_1,x0_2,x0_3,x0_4⟩:=rowc5 P2_0.out;obtain ⟨x1_0,x1_1,x1_2,x1_3⟩:=rowc4 P2_1.out;clear x0_0 x0_1 x0_2 x0_3 x0_4 x1_0 x1_1 x1_2 x1_3;go_wp2_with (refine wpList_store_row rfl 51 _ _ rfl (w.heap.size+2) _ rfl rfl 51 _ P2_2.out (by kernel_rfl) rfl (by simp [Value.oneCell']) ?_);try rw [scopes_ret]
 refine bodyPost_ret (v:=.agg #[.int .i64 4,.int .i64 3,.slice none 0 0,.slice none 0 0,.slice none 0 0]) (results_cell_row Tryz.results78 _ _ (w.heap.size+2) 51 _ (0,0) _ rfl (setRow_heap _ _ _ _ 51 (0,0) P2_2.out) Tryz.underlying51 rfl (by kernel_rfl)) rfl ?_;exact ⟨rfl,row_below HB2.out (by omega) _⟩
set_option maxRecDepth 100000 in
set_option maxHeartbeats 16000000 in
theorem pRes1o (c:ConfM) (k:Nat) (x:Int) (W L:Value) (w:World) (hv:PuV w c k x W L) (b:Int) (p q:Bool) (aa:Option Addr) (n ac:Nat) (h0:0≤b) (h1:b<18446744073709551616) (hcl:closedB b=false):Calls Tryz.prog 78 #[.agg (puL 0 1 W L).toArray,.agg #[.int .u64 b,.bool p,.bool q,.slice aa n ac]] w fun e w'=>∃nb,e=.returned (.agg (puL 0 2 (.slice (some ⟨nb,0,none⟩) 1 1) L).toArray)∧Hid (w'.heap[nb]?=some (.cells #[.int .u64 b] 42 (0,0)))∧Hid (w.heap.size≤nb)∧Hid (Below w.heap.size w w'):=by
 obtain ⟨wb,wo,wc,lb,lo,lc,rfl,rfl,hwb,hlb,hw0,hl0⟩:=hv.open;obtain ⟨W,hW,HB,R0,R1,R2,hz⟩:=three_new w (.cells #[.int .i64 0,.int .i64 1,.slice (some ⟨wb,wo,none⟩) 1 wc,.slice (some ⟨lb,lo,none⟩) 1 lc,.slice none 0 0] 51) (.cells #[.int .u64 b,.bool p,.bool q,.slice aa n ac] 86) (.cells #[.int .i64 0,.int .i64 0,.slice none 0 0,.slice none 0 0,.slice none 0 0] 51);have HW:=Lib.hid hW;clear hW;have TCM:=Lib.hid fun w'=>complete_run 0 1 wb wo wc lb lo lc w';have TEN:=Lib.hid fun k w'=>end_any k w';have TCL:=Lib.hid fun w'=>closed_any b w' h0 h1;rw [hcl] at TCL;clear hcl h0 h1;clear hw0 hl0 hwb hlb;unfold puL;try unfold nilS
 try dsimp only
 go_enter Tryz.func78,Tryz.ntmps78;go_wp2_with fail;rw [HW.out];clear HW;refine wp_scopes 4 fun f HF=>?_;obtain ⟨x0_0,x0_1,x0_2,x0_3,x0_4⟩:=rowc5 R0.out;obtain ⟨x1_0,x1_1,x1_2,x1_3⟩:=rowc4 R1.out;go_wp2_with fail;refine (TCM.out _).mono ?_; rintro e w1 ⟨rfl,hb1⟩;have P1_0:=keepR hb1 R0;have P1_1:=keepR hb1 R1;have P1_2:=keepR hb1 R2;have HB1:=Lib.hid (below_then HB.out hb1);clear x0_0 x0_1 x0_2 x0_3 x0_4 x1_0 x1_1 x1_2 x1_3;clear hb1;obtain ⟨x0_0,x0_1,x0_2,x0_3,x0_4⟩:=rowc5 P1_0.out;obtain ⟨x1_0,x1_1,x1_2,x1_3⟩:=rowc4 P1_1.out;go_wp2_with fail;go_step3;refine scopes_goto ((HF.out 0).trans rfl) ?_;go_wp2_with fail;refine (TCL.out _).mono ?_; rintro e w' ⟨rfl,rfl⟩;go_upto_region 11 with fail
 obtain ⟨nb,hnb⟩:∃nb,w1.heap.size=nb:=⟨_,rfl⟩;have hgen:Hid (w.heap.size+2<nb):=by have h6:=(ltR P1_2); show _<_; omega
 have BNW:=Lib.hid (below_new (Below.refl w1.heap.size w1) (.cells #[.int .u64 b] 42));obtain ⟨Wx,hWx⟩:∃Wx,w1.alloc (.cells #[.int .u64 b] 42)=Wx:=⟨_,rfl⟩;rw [hWx] at BNW;have RN:Hid (Wx.heap[nb]?=some (.cells #[.int .u64 b] 42 (0,0))):=hnb▸hWx▸heap_alloc_new _ _;have P2_0:=keepR BNW.out P1_0;have P2_1:=keepR BNW.out P1_1;have P2_2:=keepR BNW.out P1_2;have HB2:=Lib.hid (below_then HB1.out BNW.out);have fz:=frozen_of_row Wx w.heap.size 2 _ _ P2_0.out;have r1:=heap_setCell_same Wx w.heap.size 2 _ _ (.slice (some ⟨nb,0,none⟩) 1 1) P2_0.out;simp at r1;have S2_0:=Lib.hid r1;clear r1;have S2_1:=Lib.hid ((heap_setCell_other Wx ⟨w.heap.size,2,none⟩ (w.heap.size+1) (.slice (some ⟨nb,0,none⟩) 1 1) (by show w.heap.size+1≠w.heap.size; omega)).trans P2_1.out);have S2_2:=Lib.hid ((heap_setCell_other Wx ⟨w.heap.size,2,none⟩ (w.heap.size+2) (.slice (some ⟨nb,0,none⟩) 1 1) (by show w.heap.size+2≠w.heap.size; omega)).trans P2_2.out);have RN3:=Lib.hid ((heap_setCell_other Wx ⟨w.heap.size,2,none⟩ nb (.slice (some ⟨nb,0,none⟩) 1 1) (by have:=hgen.out; show nb≠w.heap.size; omega)).trans RN.out);have HS2:=Lib.hid (HB2.out.setCell (p:=⟨w.heap.size,2,none⟩) (Nat.le_refl _) (.slice (some ⟨nb,0,none⟩) 1 1));obtain ⟨Wy,hWy⟩:∃Wy,Wx.setCell ⟨w.heap.size,2,none⟩ (.slice (some ⟨nb,0,none⟩) 1 1)=Wy:=⟨_,rfl⟩;rw [hWy] at S2_0 S2_1 S2_2 RN3 HS2;have HWx:=Lib.hid hWx;have HWy:=Lib.hid hWy;have HNB:=Lib.hid hnb;clear hWy;obtain ⟨-,-,cz,-,-⟩:=rowc5 P2_0.out;subst hWx;subst hnb;go_upto_region 12 with fail
 rw [HWy.out];clear x0_0 x0_1 x0_2 x0_3 x0_4 x1_0 x1_1 x1_2 x1_3;clear fz cz HWy HWx HNB BNW;obtain ⟨nb,hnb⟩:∃nb,w1.heap.size=nb:=⟨_,rfl⟩;rw [hnb] at RN3 hgen S2_0;have HNB:=Lib.hid hnb;clear hnb RN P2_0 P2_1 P2_2 HB2;obtain ⟨x0_0,x0_1,x0_2,x0_3,x0_4⟩:=rowc5 S2_0.out;obtain ⟨x1_0,x1_1,x1_2,x1_3⟩:=rowc4 S2_1.out;have RN4:=Lib.hid ((heap_setCell_other Wy ⟨w.heap.size,1,none⟩ nb (.int .i64 2) (by have:=hgen.out; show nb≠w.heap.size; omega)).trans RN3.out);have fz:=frozen_of_row Wy w.heap.size 1 _ _ S2_0.out;have r1:=heap_setCell_same Wy w.heap.size 1 _ _ (.int .i64 2) S2_0.out;simp at r1;have P3_0:=Lib.hid r1;clear r1;have P3_1:=Lib.hid ((heap_setCell_other Wy ⟨w.heap.size,1,none⟩ (w.heap.size+1) (.int .i64 2) (by show w.heap.size+1≠w.heap.size; omega)).trans S2_1.out);have P3_2:=Lib.hid ((heap_setCell_other Wy ⟨w.heap.size,1,none⟩ (w.heap.size+2) (.int .i64 2) (by show w.heap.size+2≠w.heap.size; omega)).trans S2_2.out);have HB3:=Lib.hid (HS2.out.setCell (p:=⟨w.heap.size,1,none⟩) (by show w.heap.size≤w.heap.size; omega) (.int .i64 2));obtain ⟨W3,hW3⟩:∃W3,Wy.setCell ⟨w.heap.size,1,none⟩ (.int .i64 2)=W3:=⟨_,rfl⟩;rw [hW3] at P3_0 P3_1 P3_2 RN4 HB3;have HW3:=Lib.hid hW3;clear hW3;go_upto_region 13 with fail
 rw [HW3.out];clear x0_0 x0_1 x0_2 x0_3 x0_4 x1_0 x1_1 x1_2 x1_3;clear fz HW3;obtain ⟨x0_0,x0_1,x0_2,x0_3,x0_4⟩:=rowc5 P3_0.out;obtain ⟨x1_0,x1_1,x1_2,x1_3⟩:=rowc4 P3_1.out;go_wp2_with (refine wpList_store_row rfl 51 _ _ rfl (w.heap.size+2) _ rfl rfl 51 _ P3_2.out (by kernel_rfl) rfl (by simp [Value.oneCell']) ?_);try rw [scopes_ret]
 refine bodyPost_ret (v:=.agg #[.int .i64 0,.int .i64 2,.slice (some ⟨nb,0,none⟩) 1 1,.slice (some ⟨lb,lo,none⟩) 1 lc,.slice none 0 0]) (results_cell_row Tryz.results78 _ _ (w.heap.size+2) 51 _ (0,0) _ rfl (setRow_heap _ _ _ _ 51 (0,0) P3_2.out) Tryz.underlying51 rfl (by kernel_rfl)) rfl ?_;exact ⟨nb,rfl,Lib.hid ((setRow_other _ (w.heap.size+2) nb _ (by have:=hgen.out; omega)).trans RN4.out),Lib.hid (by have:=hgen.out; show w.heap.size≤nb; omega),Lib.hid (row_below HB3.out (by omega) _)⟩
set_option maxRecDepth 100000 in
set_option maxHeartbeats 16000000 in
theorem pRes2k (c:ConfM) (k:Nat) (x:Int) (W L:Value) (w:World) (hv:PuV w c k x W L) (b:Int) (q:Bool) (aa:Option Addr) (n ac:Nat):Calls Tryz.prog 78 #[.agg (puL 0 2 W L).toArray,.agg #[.int .u64 b,.bool true,.bool q,.slice aa n ac]] w fun e w'=>e=.returned (.agg (puL 1 3 nilS nilS).toArray)∧Below w.heap.size w w':=by
 obtain ⟨wb,wo,wc,lb,lo,lc,rfl,rfl,hwb,hlb,hw0,hl0⟩:=hv.open;obtain ⟨W,hW,HB,R0,R1,R2,hz⟩:=three_new w (.cells #[.int .i64 0,.int .i64 2,.slice (some ⟨wb,wo,none⟩) 1 wc,.slice (some ⟨lb,lo,none⟩) 1 lc,.slice none 0 0] 51) (.cells #[.int .u64 b,.bool true,.bool q,.slice aa n ac] 86) (.cells #[.int .i64 0,.int .i64 0,.slice none 0 0,.slice none 0 0,.slice none 0 0] 51);have HW:=Lib.hid hW;clear hW;have TCM:=Lib.hid fun w'=>complete_run 0 2 wb wo wc lb lo lc w';have TEN:=Lib.hid fun k w'=>end_any k w';clear hw0 hl0 hwb hlb;unfold puL;try unfold nilS
 try dsimp only
 go_enter Tryz.func78,Tryz.ntmps78;go_wp2_with fail;rw [HW.out];clear HW;refine wp_scopes 4 fun f HF=>?_;obtain ⟨x0_0,x0_1,x0_2,x0_3,x0_4⟩:=rowc5 R0.out;obtain ⟨x1_0,x1_1,x1_2,x1_3⟩:=rowc4 R1.out;go_wp2_with fail;refine (TCM.out _).mono ?_; rintro e w1 ⟨rfl,hb1⟩;have P1_0:=keepR hb1 R0;have P1_1:=keepR hb1 R1;have P1_2:=keepR hb1 R2;have HB1:=Lib.hid (below_then HB.out hb1);clear x0_0 x0_1 x0_2 x0_3 x0_4 x1_0 x1_1 x1_2 x1_3;clear hb1;obtain ⟨x0_0,x0_1,x0_2,x0_3,x0_4⟩:=rowc5 P1_0.out;obtain ⟨x1_0,x1_1,x1_2,x1_3⟩:=rowc4 P1_1.out;go_wp2_with fail;go_step3;refine scopes_goto ((HF.out 1).trans rfl) ?_;go_wp2_with fail;refine (TEN.out _ _).mono ?_; rintro e w2 ⟨rfl,hb2⟩;have P2_0:=keepR hb2 P1_0;have P2_1:=keepR hb2 P1_1;have P2_2:=keepR hb2 P1_2;have HB2:=Lib.hid (below_then HB1.out hb2);clear x0_0 x0_1 x0_2 x0_3 x0_4 x1_0 x1_1 x1_2 x1_3;clear hb2;obtain ⟨x0_0,x0_1,x0_2,x0_3,x0_4⟩:=rowc5 P2_0.out;obtain ⟨x1_0,x1_1,x1_2,x1_3⟩:=rowc4 P2_1.out;clear x0_0 x0_1 x0_2 x0_3 x0_4 x1_0 x1_1 x1_2 x1_3;go_wp2_with (refine wpList_store_row rfl 51 _ _ rfl (w.heap.size+2) _ rfl rfl 51 _ P2_2.out (by kernel_rfl) rfl (by simp [Value.oneCell']) ?_);try rw [scopes_ret]
 refine bodyPost_ret (v:=.agg #[.int .i64 1,.int .i64 3,.slice none 0 0,.slice none 0 0,.slice none 0 0]) (results_cell_row Tryz.results78 _ _ (w.heap.size+2) 51 _ (0,0) _ rfl (setRow_heap _ _ _ _ 51 (0,0) P2_2.out) Tryz.underlying51 rfl (by kernel_rfl)) rfl ?_;exact ⟨rfl,row_below HB2.out (by omega) _⟩
set_option maxRecDepth 100000 in
set_option maxHeartbeats 16000000 in
theorem pRes2n (c:ConfM) (k:Nat) (x:Int) (W L:Value) (w:World) (hv:PuV w c k x W L) (b:Int) (q:Bool) (aa:Option Addr) (n ac:Nat):Calls Tryz.prog 78 #[.agg (puL 0 2 W L).toArray,.agg #[.int .u64 b,.bool false,.bool q,.slice aa n ac]] w fun e w'=>e=.returned (.agg (puL 0 1 W L).toArray)∧Below w.heap.size w w':=by
 obtain ⟨wb,wo,wc,lb,lo,lc,rfl,rfl,hwb,hlb,hw0,hl0⟩:=hv.open;obtain ⟨W,hW,HB,R0,R1,R2,hz⟩:=three_new w (.cells #[.int .i64 0,.int .i64 2,.slice (some ⟨wb,wo,none⟩) 1 wc,.slice (some ⟨lb,lo,none⟩) 1 lc,.slice none 0 0] 51) (.cells #[.int .u64 b,.bool false,.bool q,.slice aa n ac] 86) (.cells #[.int .i64 0,.int .i64 0,.slice none 0 0,.slice none 0 0,.slice none 0 0] 51);have HW:=Lib.hid hW;clear hW;have TCM:=Lib.hid fun w'=>complete_run 0 2 wb wo wc lb lo lc w';have TEN:=Lib.hid fun k w'=>end_any k w';clear hw0 hl0 hwb hlb;unfold puL;try unfold nilS
 try dsimp only
 go_enter Tryz.func78,Tryz.ntmps78;go_wp2_with fail;rw [HW.out];clear HW;refine wp_scopes 4 fun f HF=>?_;obtain ⟨x0_0,x0_1,x0_2,x0_3,x0_4⟩:=rowc5 R0.out;obtain ⟨x1_0,x1_1,x1_2,x1_3⟩:=rowc4 R1.out;go_wp2_with fail;refine (TCM.out _).mono ?_; rintro e w1 ⟨rfl,hb1⟩;have P1_0:=keepR hb1 R0;have P1_1:=keepR hb1 R1;have P1_2:=keepR hb1 R2;have HB1:=Lib.hid (below_then HB.out hb1);clear x0_0 x0_1 x0_2 x0_3 x0_4 x1_0 x1_1 x1_2 x1_3;clear hb1;obtain ⟨x0_0,x0_1,x0_2,x0_3,x0_4⟩:=rowc5 P1_0.out;obtain ⟨x1_0,x1_1,x1_2,x1_3⟩:=rowc4 P1_1.out;go_wp2_with fail;go_step3;refine scopes_goto ((HF.out 1).trans rfl) ?_;go_wp2_with fail;go_step3;refine scopes_goto ((HF.out 2).trans rfl) ?_;go_upto_region 7 with fail
 have fz:=frozen_of_row w1 w.heap.size 1 _ _ P1_0.out;have r1:=heap_setCell_same w1 w.heap.size 1 _ _ (.int .i64 1) P1_0.out;simp at r1;have P2_0:=Lib.hid r1;clear r1;have P2_1:=Lib.hid ((heap_setCell_other w1 ⟨w.heap.size,1,none⟩ (w.heap.size+1) (.int .i64 1) (by show w.heap.size+1≠w.heap.size; omega)).trans P1_1.out);have P2_2:=Lib.hid ((heap_setCell_other w1 ⟨w.heap.size,1,none⟩ (w.heap.size+2) (.int .i64 1) (by show w.heap.size+2≠w.heap.size; omega)).trans P1_2.out);have HB2:=Lib.hid (HB1.out.setCell (p:=⟨w.heap.size,1,none⟩) (by show w.heap.size≤w.heap.size; omega) (.int .i64 1));obtain ⟨W2,hW2⟩:∃W2,w1.setCell ⟨w.heap.size,1,none⟩ (.int .i64 1)=W2:=⟨_,rfl⟩;rw [hW2] at P2_0 P2_1 P2_2 HB2;have HW2:=Lib.hid hW2;clear hW2;go_upto_region 8 with fail
 rw [HW2.out];clear x0_0 x0_1 x0_2 x0_3 x0_4 x1_0 x1_1 x1_2 x1_3;clear fz HW2;obtain ⟨x0_0,x0_1,x0_2,x0_3,x0_4⟩:=rowc5 P2_0.out;obtain ⟨x1_0,x1_1,x1_2,x1_3⟩:=rowc4 P2_1.out;go_wp2_with (refine wpList_store_row rfl 51 _ _ rfl (w.heap.size+2) _ rfl rfl 51 _ P2_2.out (by kernel_rfl) rfl (by simp [Value.oneCell']) ?_);try rw [scopes_ret]
 refine bodyPost_ret (v:=.agg #[.int .i64 0,.int .i64 1,.slice (some ⟨wb,wo,none⟩) 1 wc,.slice (some ⟨lb,lo,none⟩) 1 lc,.slice none 0 0]) (results_cell_row Tryz.results78 _ _ (w.heap.size+2) 51 _ (0,0) _ rfl (setRow_heap _ _ _ _ 51 (0,0) P2_2.out) Tryz.underlying51 rfl (by kernel_rfl)) rfl ?_;exact ⟨rfl,row_below HB2.out (by omega) _⟩
end Go.Proofs.YtjnlkemdaffgbaaGreat.Q5
namespace Go.Proofs.YtjnlkemdaffgbaaGreat.Q5
open Go.ChangeShapes Go.WideShapes Go.ChangeAt Go.RowKit
set_option maxRecDepth 100000
theorem NewPart.self (w w':World):NewPart w w' w':=⟨Nat.le_refl _,fun _ _ _=>rfl⟩
set_option maxRecDepth 100000 in
set_option maxHeartbeats 16000000 in
theorem Start_any (a a2:Option Addr) (cap cap2:Nat) (c:ConfM) (k:Nat) (hk:k<c.caps.length) (hg:c.good) (w:World) (hv:ConfV w (.agg #[.slice a c.caps.length cap,.slice a2 c.starts.length cap2,.int .i64 c.threads]) c):Calls Tryz.prog 46 #[.agg #[.slice a c.caps.length cap,.slice a2 c.starts.length cap2,.int .i64 c.threads],.int .i64 k] w fun e w'=>∃W L,e=.returned (.agg (puL 0 1 W L).toArray)∧Hid (∀w2,NewPart w w' w2→PuV w2 c k 0 W L)∧Hid (Below w.heap.size w w'):=by
 have HV:=Lib.hid hv;have hb8:=hg.base8 k (Nat.le_of_lt hk);have TTL:=Lib.hid fun w' (hb:Below w.heap.size w w')=>tailW_any _ c k hk w' (HV.out.below hb) hg;obtain ⟨tl,htl⟩:∃tl,c.base k=tl:=⟨_,rfl⟩;have HTL:=Lib.hid htl;rw [htl] at TTL hb8;rw [Int.add_zero] at TTL;have HTW:Hid (tl=IntKind.i64.wrap tl):=by show _=_; rw [IntKind.wrap_i64]; omega
 have hmk:=make1;clear hv hk hg htl hb8;obtain ⟨W,hW,HB,R0,R1,hz⟩:=two_new w (.cells #[.slice a c.caps.length cap,.slice a2 c.starts.length cap2,.int .i64 c.threads] 30) (.cells #[.int .i64 0,.int .i64 0,.slice none 0 0,.slice none 0 0,.slice none 0 0] 51);have HW:=Lib.hid hW;clear hW;go_enter Tryz.func46,Tryz.ntmps46;go_upto_region 1 with fail
 rw [HW.out];clear HW;obtain ⟨x0_0,x0_1,x0_2⟩:=rowc3 R0.out;have KSs:Hid (∀w',Below W.heap.size W w'→(fun w':World=>(w'.cell? ⟨w.heap.size,0,none⟩=some (.slice a c.caps.length cap)∧w'.cell? ⟨w.heap.size,1,none⟩=some (.slice a2 c.starts.length cap2)∧w'.cell? ⟨w.heap.size,2,none⟩=some (.int .i64 c.threads))) w'):=fun w' hb=>rowc3 ((hb.block _ (ltR R0)).trans R0.out);clear x0_0 x0_1 x0_2;refine untilK KSs 6 7 (by kernel_rfl) rfl ?_;obtain ⟨u0,hu0,HU0⟩:=drew_pack W;rw [hu0];clear hu0;have hSU0:=KSs.out _ HU0.out;apply tkV 1 hSU0 rfl (by kernel_rfl) (fun _ _ _ h=>h) rfl;intro w hSw;(go_simp<;>with_reducible rfl);simp only [J0,J1,J2,J3,J4];apply tkV 2 hSU0 rfl (by kernel_rfl) (fun _ _ _ h=>h) rfl;intro w hSw;(go_simp<;>with_reducible rfl);simp only [J0,J1,J2,J3,J4];refine wpAnyU_ready (rs:=[0,3]) (by kernel_rfl) rfl ?_;refine AllReadyU.cons ListAt.zero rfl (fun K hK=>?_) ?_
 ·go_simp
  obtain ⟨u1,nb,hv1,hX,RN,hbn,ltn⟩:=alloc_pack u0 (.cells #[.int .u64 0] 42);rw [hv1,hX];have gen:Hid (w.heap.size+1<nb):=by have h5:=HU0.out.size; have h6:=(ltR R1); show _<_; omega
  have HU1:=Lib.hid (below_then HU0.out hbn.out);clear hv1 hX hbn ltn;refine hK.out _ _ ?_ fun hSU1=>?_;exact KSs.out _ HU1.out;clear hK K hSU0;(try simp only [J0,J1,J2,J3,J4]);refine consU 3 rfl (by kernel_rfl) rfl fun K hK=>?_;go_simp;go_at_call 65;refine (TTL.out _ (below_then HB.out HU1.out)).mono ?_;rintro e u2 ⟨rfl,hb⟩;have HBT:=Lib.hid hb;clear hb;have RNb:=keepR HBT.out RN;clear RN;have RN:=Lib.hid RNb.out;clear RNb;have HU2:=Lib.hid (below_then HU1.out HBT.out);clear HBT;refine hK.out _ _ ?_ fun hSU2=>?_;exact KSs.out _ HU2.out;clear hK K hSU1;(try simp only [J0,J1,J2,J3,J4]);refine consU 4 rfl (by kernel_rfl) rfl fun K hK=>?_;go_simp;obtain ⟨u3,ng,hv1,hX,RL,hbn,ltn⟩:=alloc_pack u2 (.cells #[.int .i64 tl] 3);rw [hv1,hX];have gel:Hid (w.heap.size+1<ng):=by have h5:=HU2.out.size; have h6:=(ltR R1); show _<_; omega
  have RNb:=keepR hbn.out RN;clear RN;have RN:=Lib.hid RNb.out;clear RNb;have HU3:=Lib.hid (below_then HU2.out hbn.out);clear hv1 hX hbn ltn;refine hK.out _ _ ?_ fun hSU3=>?_;exact KSs.out _ HU3.out;clear hK K hSU2;(try simp only [J0,J1,J2,J3,J4]);apply tkV 5 hSU3 rfl (by kernel_rfl) (fun _ _ _ h=>h) rfl;intro w hSw;(go_simp<;>with_reducible rfl);simp only [J0,J1,J2,J3,J4];refine freeU 6 rfl (by kernel_rfl) rfl (by kernel_rfl) fun K hK=>?_;have ZR:=keepR HU3.out R1;refine step_store_row rfl 51 _ _ rfl (w.heap.size+1) _ rfl rfl 51 _ ZR.out (by kernel_rfl) rfl (by simp [Value.oneCell']) ?_;refine hK.out _ _ ?_;clear hK K hSU3;(try simp only [J0,J1,J2,J3,J4]);refine wpAnyU_done (by kernel_rfl) ?_ _;go_wp2_with fail;refine bodyPost_ret (v:=.agg #[.int .i64 0,.int .i64 1,.slice (some ⟨nb,0,none⟩) 1 1,.slice (some ⟨ng,0,none⟩) 1 1,.slice none 0 0]) (results_cell_row Tryz.results46 _ _ (w.heap.size+1) 51 _ (0,0) _ rfl (setRow_heap _ _ _ _ 51 (0,0) ZR.out) Tryz.underlying51 rfl (by kernel_rfl)) rfl ?_;have hN:=(setRow_other u3 (w.heap.size+1) nb #[.int .i64 0,.int .i64 1,.slice (some ⟨nb,0,none⟩) 1 1,.slice (some ⟨ng,0,none⟩) 1 1,.slice none 0 0] (by have:=gen.out; omega)).trans RN.out;have hL:=(setRow_other u3 (w.heap.size+1) ng #[.int .i64 0,.int .i64 1,.slice (some ⟨nb,0,none⟩) 1 1,.slice (some ⟨ng,0,none⟩) 1 1,.slice none 0 0] (by have:=gel.out; omega)).trans RL.out;refine ⟨.slice (some ⟨nb,0,none⟩) 1 1,.slice (some ⟨ng,0,none⟩) 1 1,rfl,Lib.hid (fun w9 hn=>⟨sl1_at ((hn.same nb (by have:=gen.out; omega) (Array.getElem?_eq_some_iff.1 hN).1).trans hN) (by decide),by rw [HTL.out]; exact sl1_at ((hn.same ng (by have:=gel.out; omega) (Array.getElem?_eq_some_iff.1 hL).1).trans hL) HTW.out⟩),Lib.hid (row_below (below_then HB.out HU3.out) (by omega) _)⟩
 refine AllReadyU.cons la3 rfl (fun K hK=>?_) ?_
 ·go_simp
  go_at_call 65;refine (TTL.out _ (below_then HB.out HU0.out)).mono ?_;rintro e u1 ⟨rfl,hb⟩;have HBT:=Lib.hid hb;clear hb;have HU1:=Lib.hid (below_then HU0.out HBT.out);clear HBT;refine hK.out _ _ ?_ fun hSU4=>?_;exact KSs.out _ HU1.out;clear hK K hSU0;(try simp only [J0,J1,J2,J3,J4]);refine wpAnyU_ready (rs:=[0,4]) (by kernel_rfl) rfl ?_;refine AllReadyU.cons ListAt.zero rfl (fun K hK=>?_) ?_
  ·go_simp
   obtain ⟨u2,nb,hv1,hX,RN,hbn,ltn⟩:=alloc_pack u1 (.cells #[.int .u64 0] 42);rw [hv1,hX];have gen:Hid (w.heap.size+1<nb):=by have h5:=HU1.out.size; have h6:=(ltR R1); show _<_; omega
   have HU2:=Lib.hid (below_then HU1.out hbn.out);clear hv1 hX hbn ltn;refine hK.out _ _ ?_ fun hSU5=>?_;exact KSs.out _ HU2.out;clear hK K hSU4;(try simp only [J0,J1,J2,J3,J4]);refine consU 4 rfl (by kernel_rfl) rfl fun K hK=>?_;go_simp;obtain ⟨u3,ng,hv1,hX,RL,hbn,ltn⟩:=alloc_pack u2 (.cells #[.int .i64 tl] 3);rw [hv1,hX];have gel:Hid (w.heap.size+1<ng):=by have h5:=HU2.out.size; have h6:=(ltR R1); show _<_; omega
   have RNb:=keepR hbn.out RN;clear RN;have RN:=Lib.hid RNb.out;clear RNb;have HU3:=Lib.hid (below_then HU2.out hbn.out);clear hv1 hX hbn ltn;refine hK.out _ _ ?_ fun hSU6=>?_;exact KSs.out _ HU3.out;clear hK K hSU5;(try simp only [J0,J1,J2,J3,J4]);apply tkV 5 hSU6 rfl (by kernel_rfl) (fun _ _ _ h=>h) rfl;intro w hSw;(go_simp<;>with_reducible rfl);simp only [J0,J1,J2,J3,J4];refine freeU 6 rfl (by kernel_rfl) rfl (by kernel_rfl) fun K hK=>?_;have ZR:=keepR HU3.out R1;refine step_store_row rfl 51 _ _ rfl (w.heap.size+1) _ rfl rfl 51 _ ZR.out (by kernel_rfl) rfl (by simp [Value.oneCell']) ?_;refine hK.out _ _ ?_;clear hK K hSU6;(try simp only [J0,J1,J2,J3,J4]);refine wpAnyU_done (by kernel_rfl) ?_ _;go_wp2_with fail;refine bodyPost_ret (v:=.agg #[.int .i64 0,.int .i64 1,.slice (some ⟨nb,0,none⟩) 1 1,.slice (some ⟨ng,0,none⟩) 1 1,.slice none 0 0]) (results_cell_row Tryz.results46 _ _ (w.heap.size+1) 51 _ (0,0) _ rfl (setRow_heap _ _ _ _ 51 (0,0) ZR.out) Tryz.underlying51 rfl (by kernel_rfl)) rfl ?_;have hN:=(setRow_other u3 (w.heap.size+1) nb #[.int .i64 0,.int .i64 1,.slice (some ⟨nb,0,none⟩) 1 1,.slice (some ⟨ng,0,none⟩) 1 1,.slice none 0 0] (by have:=gen.out; omega)).trans RN.out;have hL:=(setRow_other u3 (w.heap.size+1) ng #[.int .i64 0,.int .i64 1,.slice (some ⟨nb,0,none⟩) 1 1,.slice (some ⟨ng,0,none⟩) 1 1,.slice none 0 0] (by have:=gel.out; omega)).trans RL.out;refine ⟨.slice (some ⟨nb,0,none⟩) 1 1,.slice (some ⟨ng,0,none⟩) 1 1,rfl,Lib.hid (fun w9 hn=>⟨sl1_at ((hn.same nb (by have:=gen.out; omega) (Array.getElem?_eq_some_iff.1 hN).1).trans hN) (by decide),by rw [HTL.out]; exact sl1_at ((hn.same ng (by have:=gel.out; omega) (Array.getElem?_eq_some_iff.1 hL).1).trans hL) HTW.out⟩),Lib.hid (row_below (below_then HB.out HU3.out) (by omega) _)⟩
  refine AllReadyU.cons la4 rfl (fun K hK=>?_) ?_
  ·go_simp
   obtain ⟨u2,ng,hv1,hX,RL,hbn,ltn⟩:=alloc_pack u1 (.cells #[.int .i64 tl] 3);rw [hv1,hX];have gel:Hid (w.heap.size+1<ng):=by have h5:=HU1.out.size; have h6:=(ltR R1); show _<_; omega
   have HU2:=Lib.hid (below_then HU1.out hbn.out);clear hv1 hX hbn ltn;refine hK.out _ _ ?_ fun hSU7=>?_;exact KSs.out _ HU2.out;clear hK K hSU4;(try simp only [J0,J1,J2,J3,J4]);refine consU 0 rfl (by kernel_rfl) rfl fun K hK=>?_;go_simp;obtain ⟨u3,nb,hv1,hX,RN,hbn,ltn⟩:=alloc_pack u2 (.cells #[.int .u64 0] 42);rw [hv1,hX];have gen:Hid (w.heap.size+1<nb):=by have h5:=HU2.out.size; have h6:=(ltR R1); show _<_; omega
   have RLb:=keepR hbn.out RL;clear RL;have RL:=Lib.hid RLb.out;clear RLb;have HU3:=Lib.hid (below_then HU2.out hbn.out);clear hv1 hX hbn ltn;refine hK.out _ _ ?_ fun hSU8=>?_;exact KSs.out _ HU3.out;clear hK K hSU7;(try simp only [J0,J1,J2,J3,J4]);apply tkV 5 hSU8 rfl (by kernel_rfl) (fun _ _ _ h=>h) rfl;intro w hSw;(go_simp<;>with_reducible rfl);simp only [J0,J1,J2,J3,J4];refine freeU 6 rfl (by kernel_rfl) rfl (by kernel_rfl) fun K hK=>?_;have ZR:=keepR HU3.out R1;refine step_store_row rfl 51 _ _ rfl (w.heap.size+1) _ rfl rfl 51 _ ZR.out (by kernel_rfl) rfl (by simp [Value.oneCell']) ?_;refine hK.out _ _ ?_;clear hK K hSU8;(try simp only [J0,J1,J2,J3,J4]);refine wpAnyU_done (by kernel_rfl) ?_ _;go_wp2_with fail;refine bodyPost_ret (v:=.agg #[.int .i64 0,.int .i64 1,.slice (some ⟨nb,0,none⟩) 1 1,.slice (some ⟨ng,0,none⟩) 1 1,.slice none 0 0]) (results_cell_row Tryz.results46 _ _ (w.heap.size+1) 51 _ (0,0) _ rfl (setRow_heap _ _ _ _ 51 (0,0) ZR.out) Tryz.underlying51 rfl (by kernel_rfl)) rfl ?_;have hN:=(setRow_other u3 (w.heap.size+1) nb #[.int .i64 0,.int .i64 1,.slice (some ⟨nb,0,none⟩) 1 1,.slice (some ⟨ng,0,none⟩) 1 1,.slice none 0 0] (by have:=gen.out; omega)).trans RN.out;have hL:=(setRow_other u3 (w.heap.size+1) ng #[.int .i64 0,.int .i64 1,.slice (some ⟨nb,0,none⟩) 1 1,.slice (some ⟨ng,0,none⟩) 1 1,.slice none 0 0] (by have:=gel.out; omega)).trans RL.out;refine ⟨.slice (some ⟨nb,0,none⟩) 1 1,.slice (some ⟨ng,0,none⟩) 1 1,rfl,Lib.hid (fun w9 hn=>⟨sl1_at ((hn.same nb (by have:=gen.out; omega) (Array.getElem?_eq_some_iff.1 hN).1).trans hN) (by decide),by rw [HTL.out]; exact sl1_at ((hn.same ng (by have:=gel.out; omega) (Array.getElem?_eq_some_iff.1 hL).1).trans hL) HTW.out⟩),Lib.hid (row_below (below_then HB.out HU3.out) (by omega) _)⟩
  exact AllReadyU.nil
 exact AllReadyU.nil
end Go.Proofs.YtjnlkemdaffgbaaGreat.Q5
namespace Go.Proofs.YtjnlkemdaffgbaaGreat.Q5
open Go.ChangeShapes Go.WideShapes Go.ChangeAt Go.RowKit
set_option maxRecDepth 100000
def ownM (m:MachM):Bool:=m.what == 5
structure Sim (NE:ConfM→MachM→AccM) (RE:ConfM→MachM→AnsM→MachM) (ownB:MachM→Bool) (R:(World→Prop)→ConfM→List Value→MachM→Prop):Prop where
 sub:∀{G H:World→Prop} {c:ConfM} {f:List Value} {m:MachM},R G c f m→(∀w,H w→G w)→R H c f m
 form:∀{G:World→Prop} {c:ConfM} {f:List Value} {m:MachM},R G c f m→ownB m=true→∃r0 r1 a2 n2 c2 a3 n3 c3 a4 n4 c4,f=[.int .i64 r0,.int .i64 r1,.slice a2 n2 c2,.slice a3 n3 c3,.slice a4 n4 c4]
 ends:∀{G:World→Prop} {c:ConfM} {f:List Value} {m:MachM} (w:World),G w→R G c f m→ownB m=true→Calls Tryz.prog 30 #[.agg f.toArray] w fun e w'=>e=.returned (.tuple #[.agg #[.int .i64 m.ok,.int .u64 m.ov],.bool (m.pl == 0)])∧Below w.heap.size w w'
 next:∀{G:World→Prop} {c:ConfM} {f:List Value} {m:MachM} (w:World),G w→R G c f m→ownB m=true→Calls Tryz.prog 75 #[.agg f.toArray] w fun e w'=>e=.returned (accV (NE c m))∧Below w.heap.size w w'
 resume:∀{G:World→Prop} {c:ConfM} {f:List Value} {m:MachM} (w:World) (b:AnsM) (zA:Option Addr) (zn zc:Nat),U64 b.val→G w→R G c f m→ownB m=true→m.pl≠0→Calls Tryz.prog 78 #[.agg f.toArray,.agg #[.int .u64 b.val,.bool b.ok,.bool b.late,.slice zA zn zc]] w fun e w'=>∃f2,e=.returned (.agg f2.toArray)∧R (Nx G w w') c f2 (RE c m b)∧Below w.heap.size w w'
 stays:∀(c:ConfM) (m:MachM) (b:AnsM),ownB (RE c m b)=ownB m
 others:∀(G:World→Prop) (c:ConfM) (f:List Value) (m:MachM),ownB m=false→R G c f m
def PuR (G:World→Prop) (c:ConfM) (f:List Value) (m:MachM):Prop:=
 ownM m=true→c.good∧rgK c m∧((m.pl=0∧m.ov=0∧f=puL m.ok 3 nilS nilS)∨(m.pl≠0∧m.ok=0∧m.ov=0∧∃wa wn wc la ln lc x,f=puL 0 m.pl (.slice wa wn wc) (.slice la ln lc)∧(m.pl=2→x=m.t)∧∀w,G w→PuV w c m.chan.toNat x (.slice wa wn wc) (.slice la ln lc)))
theorem own_what {m:MachM} (h:ownM m=true):m.what=5:=by unfold ownM at h; simpa using h
theorem pu_same {G:World→Prop} {w w':World} {c:ConfM} {m r:MachM} {wa la:Option Addr} {wn wc ln lc:Nat} {x:Int} (hg:c.good) (hK:rgK c r) (hv:∀w,G w→PuV w c m.chan.toNat x (.slice wa wn wc) (.slice la ln lc)) (h0:r.pl≠0) (h2':r.pl≠2) (h1:r.ok=0) (h2:r.ov=0) (h3:r.chan=m.chan) {pc:Int} (hpc:r.pl=pc):PuR (Nx G w w') c (puL 0 pc (.slice wa wn wc) (.slice la ln lc)) r:=fun _=>
 ⟨hg,hK,.inr ⟨h0,h1,h2,wa,wn,wc,la,ln,lc,x,by rw [hpc],fun e=>absurd e h2',fun w2 h=>by rw [h3]; exact hv w2 h.1⟩⟩
theorem pu_end {G:World→Prop} {c:ConfM} {r:MachM} (hg:c.good) (hK:rgK c r) (h0:r.pl=0) (h2:r.ov=0) {k:Int} (hk:r.ok=k):PuR G c (puL k 3 nilS nilS) r:=fun _=>⟨hg,hK,.inl ⟨h0,h2,by rw [hk]⟩⟩
theorem pu_new {G:World→Prop} {w w':World} {c:ConfM} {m r:MachM} {W:Value} {la:Option Addr} {ln lc nb:Nat} {x:Int} (hg:c.good) (hK:rgK c r) (hv:∀w,G w→PuV w c m.chan.toNat x W (.slice la ln lc)) (h0:r.pl=2) (h1:r.ok=0) (h2:r.ov=0) (h3:r.chan=m.chan)
  (hn:w'.heap[nb]?=some (.cells #[.int .u64 r.t] 42 (0,0))) (hb:w.heap.size≤nb):PuR (Nx G w w') c (puL 0 2 (.slice (some ⟨nb,0,none⟩) 1 1) (.slice la ln lc)) r:=fun _=>
 ⟨hg,hK,.inr ⟨by omega,h1,h2,_,_,_,la,ln,lc,r.t,by rw [h0],fun _=>rfl,fun w2 h=>⟨sl1_at ((h.2.same nb hb (Array.getElem?_eq_some_iff.1 hn).1).trans hn) hK.t.wrap,by rw [h3]; exact (hv w2 h.1).L⟩⟩⟩
theorem pu_sim:Sim rgNE rgRE ownM PuR where
 sub:=fun h hw ho=>⟨(h ho).1,(h ho).2.1,(h ho).2.2.imp id fun ⟨h1,h2,h3,wa,wn,wc,la,ln,lc,x,h4,h5,h6⟩=>⟨h1,h2,h3,wa,wn,wc,la,ln,lc,x,h4,h5,fun w hG=>h6 w (hw w hG)⟩⟩
 form:=fun h ho=>by
  obtain ⟨-,-,⟨_,_,rfl⟩ | ⟨_,_,_,wa,wn,wc,la,ln,lc,x,rfl,_⟩⟩:=h ho
  ·exact ⟨_,_,_,_,_,_,_,_,_,_,_,rfl⟩
  ·exact ⟨_,_,_,_,_,_,_,_,_,_,_,rfl⟩
 ends:=fun w hG h ho=>by
  have hw:=own_what ho;obtain ⟨hg,hK,⟨h1,h2,rfl⟩ | ⟨h1,h2,h3,wa,wn,wc,la,ln,lc,x,rfl,hx,hv⟩⟩:=h ho
  ·rw [h1,h2]
   exact End_end _ _ _ _ ⟨_,_,_,rfl⟩ ⟨_,_,_,rfl⟩ ⟨_,_,_,rfl⟩ w
  ·rw [h2,h3,show (_ == (0:Int))=false from by simpa using h1]
   exact End_run _ _ (by have:=hK.pl.2.2.1 hw; omega) _ _ _ ⟨_,_,_,rfl⟩ ⟨_,_,_,rfl⟩ ⟨_,_,_,rfl⟩ w
 next:=fun {G c f m} w hG h ho=>by
  have hw:=own_what ho;obtain ⟨hg,hK,⟨h1,h2,rfl⟩ | ⟨h1,h2,h3,wa,wn,wc,la,ln,lc,x,rfl,hx,hv⟩⟩:=h ho
  ·unfold rgNE
   rw [if_pos h1];exact pNextE _ w
  ·unfold rgNE
   rw [if_neg h1,if_neg (by omega),if_neg (by omega),if_pos hw];have hps:m.pl=1∨m.pl=2:=by have:=hK.pl; have:=hK.pl.2.2.1 hw; omega
   rcases hps with hp | hp
   ·rw [show shutNE c m.chan.toNat m=⟨1,c.base m.chan.toNat,0,0,0⟩ from by unfold shutNE; rw [if_pos hp],hp]; exact pNext1 c _ x _ _ w (hv w hG)
   ·rw [show shutNE c m.chan.toNat m=⟨3,c.base m.chan.toNat,x,packI (x / 2) true,0⟩ from by unfold shutNE; rw [if_neg (by omega),hx hp],hp]; exact pNext2 c _ x _ _ w (hv w hG)
 resume:=fun {G c f m} w b zA zn zc hbv hG h ho hp=>by
  have hw:=own_what ho;obtain ⟨hg,hK,⟨h1,h2,rfl⟩ | ⟨hp2,hok,hov,wa,wn,wc,la,ln,lc,x,rfl,hx,hv⟩⟩:=h ho
  ·exact absurd h1 hp
  have KR:=rgK_RE hK hbv;by_cases h1:m.pl=1
  ·rw [h1]
   cases hcl:closedB b.val with
   | true=>
    have e:rgRE c m b={ m with t:=b.val,pl:=0,ok:=4,ov:=0 }:=by unfold rgRE; rw [if_neg hp,if_neg (by omega),if_neg (by omega),if_pos hw]; unfold shutRE; rw [if_pos h1,if_pos hcl]
    rw [e] at KR ⊢;refine (pRes1c c _ x _ _ w (hv w hG) _ _ _ zA zn zc hbv.1 hbv.2 hcl).mono ?_;rintro e' w' ⟨rfl,hb'⟩;exact ⟨_,rfl,pu_end hg KR rfl rfl rfl,hb'⟩
   | false=>
    have e:rgRE c m b={ m with t:=b.val,pl:=2 }:=by unfold rgRE; rw [if_neg hp,if_neg (by omega),if_neg (by omega),if_pos hw]; unfold shutRE; rw [if_pos h1,if_neg (by simp [hcl])]
    rw [e] at KR ⊢;refine (pRes1o c _ x _ _ w (hv w hG) _ _ _ zA zn zc hbv.1 hbv.2 hcl).mono ?_;rintro e' w' ⟨nb,rfl,hn,hnb,hb'⟩;exact ⟨_,rfl,pu_new (m:=m) hg KR hv rfl hok hov rfl hn.out hnb.out,hb'.out⟩
  have h2:m.pl=2:=by have:=hK.pl; have:=hK.pl.2.2.1 hw; omega
  rw [h2];cases hbo:b.ok with
  | true=>
   have e:rgRE c m b={ m with pl:=0,ok:=1,ov:=0 }:=by unfold rgRE; rw [if_neg hp,if_neg (by omega),if_neg (by omega),if_pos hw]; unfold shutRE; rw [if_neg h1,if_pos hbo]
   rw [e] at KR ⊢;refine (pRes2k c _ x _ _ w (hv w hG) _ _ zA zn zc).mono ?_;rintro e' w' ⟨rfl,hb'⟩;exact ⟨_,rfl,pu_end hg KR rfl rfl rfl,hb'⟩
  | false=>
   have e:rgRE c m b={ m with pl:=1 }:=by unfold rgRE; rw [if_neg hp,if_neg (by omega),if_neg (by omega),if_pos hw]; unfold shutRE; rw [if_neg h1,if_neg (by simp [hbo])]
   rw [e] at KR ⊢;refine (pRes2n c _ x _ _ w (hv w hG) _ _ zA zn zc).mono ?_;rintro e' w' ⟨rfl,hb'⟩;exact ⟨_,rfl,pu_same (m:=m) hg KR hv (by show (1:Int)≠0; decide) (by show (1:Int)≠2; decide) hok hov rfl rfl,hb'⟩
 stays:=fun c m b=>by unfold ownM; rw [rgRE_what]
 others:=fun G c f m h ho=>by rw [h] at ho; cases ho
theorem pu_begin {c:ConfM} (hg:c.good) (k:Nat) (th v:Int) (hv:U64 v) (hk:k<c.caps.length) (a a2:Option Addr) (cap cap2:Nat) (w:World) (hcv:ConfV w (.agg #[.slice a c.caps.length cap,.slice a2 c.starts.length cap2,.int .i64 c.threads]) c):Calls Tryz.prog 46 #[.agg #[.slice a c.caps.length cap,.slice a2 c.starts.length cap2,.int .i64 c.threads],.int .i64 k] w fun e w'=>∃f,e=.returned (.agg f.toArray)∧PuR (NewPart w w') c f ⟨5,1,k,th,v % 4,v % 8,v,0,0,0,0⟩∧Below w.heap.size w w':=by
 refine (Start_any a a2 cap cap2 c k hk hg w hcv).mono ?_;rintro e w' ⟨W,L,rfl,hp,hb⟩;obtain ⟨wb,wo,wc,lb,lo,lc,rfl,rfl,-⟩:=(hp.out w' (NewPart.self _ _)).open;have hK:rgK c ⟨5,1,k,th,v % 4,v % 8,v,0,0,0,0⟩:=rgK_new c 5 k th v (by omega) hk hv;exact ⟨_,rfl,fun _=>⟨hg,hK,.inr ⟨by show (1:Int)≠0; omega,rfl,rfl,_,_,_,_,_,_,0,rfl,fun e9=>absurd (show (1:Int)=2 from e9) (by decide),fun w2 h=>hp.out w2 h⟩⟩,hb.out⟩
end Go.Proofs.YtjnlkemdaffgbaaGreat.Q5
namespace Go.Proofs.YtjnlkemdaffgbaaGreat
open Go.ChangeShapes Go.WideShapes Go.ChangeAt Go.RowKit
set_option maxRecDepth 100000
section
variable {WT:TypeId} {w0 wr w2:World} {E:List (Option Nat)} {B D:Nat} {x:WV} {y:WM}
theorem OwnS.keptB {w:World} {base:Nat} {e:TypeId} {s:Nat} {v u:Value} {rows:List (List Value)} {o:Nat} (h:OwnS w base e s v rows) (hB:B<base):OwnS (w.setCell ⟨B,o,none⟩ u) base e s v rows:=h.kept (grownBy_setCell w ⟨B,o,none⟩ u) (h.ne hB)
theorem WI.addL {a':Option Addr} {c':Nat} {z:MachM} (h:WI WT w0 wr E B D x y) (ho:OwnS w2 D 81 14 (.slice a' (y.l.length+1) c') (y.l.map (machL (x.vc y.c) (x.vs y.c) y.c.threads) ++ [machL (x.vc y.c) (x.vs y.c) y.c.threads z])) (hg:wr.grownBy w2 (x.vl y).ownBlock) (hbk:addrB a'=addrB x.lA∨addrB a'=some wr.heap.size) :
  WI WT w0 (w2.setCell ⟨B,6,none⟩ (.slice a' (y.l.length+1) c')) E B D { x with lA:=a',lc:=c' } { y with l:=y.l ++ [z] }∧∀w3,OffS (WV.S { x with lA:=a',lc:=c' } E B) (w2.setCell ⟨B,6,none⟩ (.slice a' (y.l.length+1) c')) w3→OffS (x.S E B) wr w3:=by
 have h3:=h.BD;have hge:∀j,(x.vl y).ownBlock=some j→D≤j:=fun j hj=>(h.ol.lt j hj).1;have hgB:w2.heap[B]?=wr.heap[B]?:=hg.block B h.lt (fun e=>by have:=hge B e.symm; omega);have hin:∀w3,OffS (WV.S { x with lA:=a',lc:=c' } E B) (w2.setCell ⟨B,6,none⟩ (.slice a' (y.l.length+1) c')) w3→OffS (x.S E B) wr w3:=fun w3 h4=>by
  have o1:OffS (x.S E B) wr w2:=OffS.grown hg (.inr (by rw [WV.vl,own_addr]; simp [WV.S]));have o2:OffS (x.S E B) w2 (w2.setCell ⟨B,6,none⟩ (.slice a' (y.l.length+1) c')):=OffS.grown (grownBy_setCell w2 ⟨B,6,none⟩ _) (.inr (by simp [WV.S]));refine (o1.trans1 o2).trans h4 fun j hj hm=>?_;simp only [WV.S,List.mem_append,List.mem_cons,List.not_mem_nil,or_false] at hm ⊢;rcases hm with e | e | e | e | e | e
  ·exact .inl e
  ·exact .inr (.inl e)
  all_goals first
   | (rcases hbk with hb | hb
      ·rw [hb] at e; simp [e]; done
      ·rw [hb] at e; simp at e; omega)
   | (simp [e]; done)
 refine ⟨⟨h.w0B,fun j hj=>⟨(h.eW j hj).1,Nat.lt_of_lt_of_le (h.eW j hj).2 (by have:=hg.size; simp; omega)⟩,h3,by have:=hg.size; have:=h.Dw; simp; omega,?_,fun w3 h4=>h.conf w3 (hin w3 h4),h.good,h.mem.sub hin,h.fits,?_,?_,?_,?_,fun z hz=>(h.past z hz).sub hin,(h.below.grown hg h.below.size (fun j hj=>by have:=hge j hj; have:=h.w0B; omega)).setCell (p:=⟨B,6,none⟩) (by have:=h.w0B; show w0.heap.size≤B; omega) _⟩,hin⟩
 ·have:=heap_setCell_same w2 B 6 _ _ (.slice a' (y.l.length+1) c') (hgB.trans h.row)
  simpa [WV.row] using this
 ·have ho':OwnS w2 D 81 14 (WV.vl { x with lA:=a',lc:=c' } { y with l:=y.l ++ [z] }) (y.l.map (machL (x.vc y.c) (x.vs y.c) y.c.threads) ++ [machL (x.vc y.c) (x.vs y.c) y.c.threads z]):=by
   have e:(WV.vl { x with lA:=a',lc:=c' } { y with l:=y.l ++ [z] })=.slice a' (y.l.length+1) c':=by simp [WV.vl]
   rw [e]; exact ho
  have h5:=ho'.keptB (o:=6) (u:=.slice a' (y.l.length+1) c') h3;simpa [List.map_append,WV.vc,WV.vs] using h5
 ·exact (h.ot.kept hg (h.ot.apart h.ol (by decide))).keptB h3
 ·exact (h.op.kept hg (h.op.apart h.ol (by decide))).keptB h3
 ·exact (h.of.kept hg (h.of.apart h.ol (by decide))).keptB h3
theorem WI.addT {a':Option Addr} {c':Nat} {z:ItemM} (h:WI WT w0 wr E B D x y) (ho:OwnS w2 D 58 8 (.slice a' (y.t.length+1) c') (y.t.map itemCells ++ [itemCells z])) (hg:wr.grownBy w2 (x.vt y).ownBlock) (hbk:addrB a'=addrB x.tA∨addrB a'=some wr.heap.size) :
  WI WT w0 (w2.setCell ⟨B,7,none⟩ (.slice a' (y.t.length+1) c')) E B D { x with tA:=a',tc:=c' } { y with t:=y.t ++ [z] }∧∀w3,OffS (WV.S { x with tA:=a',tc:=c' } E B) (w2.setCell ⟨B,7,none⟩ (.slice a' (y.t.length+1) c')) w3→OffS (x.S E B) wr w3:=by
 have h3:=h.BD;have hge:∀j,(x.vt y).ownBlock=some j→D≤j:=fun j hj=>(h.ot.lt j hj).1;have hgB:w2.heap[B]?=wr.heap[B]?:=hg.block B h.lt (fun e=>by have:=hge B e.symm; omega);have hin:∀w3,OffS (WV.S { x with tA:=a',tc:=c' } E B) (w2.setCell ⟨B,7,none⟩ (.slice a' (y.t.length+1) c')) w3→OffS (x.S E B) wr w3:=fun w3 h4=>by
  have o1:OffS (x.S E B) wr w2:=OffS.grown hg (.inr (by rw [WV.vt,own_addr]; simp [WV.S]));have o2:OffS (x.S E B) w2 (w2.setCell ⟨B,7,none⟩ (.slice a' (y.t.length+1) c')):=OffS.grown (grownBy_setCell w2 ⟨B,7,none⟩ _) (.inr (by simp [WV.S]));refine (o1.trans1 o2).trans h4 fun j hj hm=>?_;simp only [WV.S,List.mem_append,List.mem_cons,List.not_mem_nil,or_false] at hm ⊢;rcases hm with e | e | e | e | e | e
  ·exact .inl e
  ·exact .inr (.inl e)
  all_goals first
   | (rcases hbk with hb | hb
      ·rw [hb] at e; simp [e]; done
      ·rw [hb] at e; simp at e; omega)
   | (simp [e]; done)
 refine ⟨⟨h.w0B,fun j hj=>⟨(h.eW j hj).1,Nat.lt_of_lt_of_le (h.eW j hj).2 (by have:=hg.size; simp; omega)⟩,h3,by have:=hg.size; have:=h.Dw; simp; omega,?_,fun w3 h4=>h.conf w3 (hin w3 h4),h.good,h.mem.sub hin,h.fits,?_,?_,?_,?_,fun z hz=>(h.past z hz).sub hin,(h.below.grown hg h.below.size (fun j hj=>by have:=hge j hj; have:=h.w0B; omega)).setCell (p:=⟨B,7,none⟩) (by have:=h.w0B; show w0.heap.size≤B; omega) _⟩,hin⟩
 ·have:=heap_setCell_same w2 B 7 _ _ (.slice a' (y.t.length+1) c') (hgB.trans h.row)
  simpa [WV.row] using this
 ·exact (h.ol.kept hg (h.ol.apart h.ot (by decide))).keptB h3
 ·have ho':OwnS w2 D 58 8 (WV.vt { x with tA:=a',tc:=c' } { y with t:=y.t ++ [z] }) (y.t.map itemCells ++ [itemCells z]):=by
   have e:(WV.vt { x with tA:=a',tc:=c' } { y with t:=y.t ++ [z] })=.slice a' (y.t.length+1) c':=by simp [WV.vt]
   rw [e]; exact ho
  have h5:=ho'.keptB (o:=7) (u:=.slice a' (y.t.length+1) c') h3;simpa [List.map_append,WV.vc,WV.vs] using h5
 ·exact (h.op.kept hg (h.op.apart h.ot (by decide))).keptB h3
 ·exact (h.of.kept hg (h.of.apart h.ot (by decide))).keptB h3
theorem WI.addP {a':Option Addr} {c':Nat} {z:List Value × MemM} (h:WI WT w0 wr E B D x y) (ho:OwnS w2 D 33 3 (.slice a' (y.p.length+1) c') (y.p.map Prod.fst ++ [z.1])) (hg:wr.grownBy w2 (x.vp y).ownBlock) (hbk:addrB a'=addrB x.pA∨addrB a'=some wr.heap.size) (hz:StM (OffS (x.S E B) wr) (.agg z.1.toArray) z.2) :
  WI WT w0 (w2.setCell ⟨B,8,none⟩ (.slice a' (y.p.length+1) c')) E B D { x with pA:=a',pc:=c' } { y with p:=y.p ++ [z] }∧∀w3,OffS (WV.S { x with pA:=a',pc:=c' } E B) (w2.setCell ⟨B,8,none⟩ (.slice a' (y.p.length+1) c')) w3→OffS (x.S E B) wr w3:=by
 have h3:=h.BD;have hge:∀j,(x.vp y).ownBlock=some j→D≤j:=fun j hj=>(h.op.lt j hj).1;have hgB:w2.heap[B]?=wr.heap[B]?:=hg.block B h.lt (fun e=>by have:=hge B e.symm; omega);have hin:∀w3,OffS (WV.S { x with pA:=a',pc:=c' } E B) (w2.setCell ⟨B,8,none⟩ (.slice a' (y.p.length+1) c')) w3→OffS (x.S E B) wr w3:=fun w3 h4=>by
  have o1:OffS (x.S E B) wr w2:=OffS.grown hg (.inr (by rw [WV.vp,own_addr]; simp [WV.S]));have o2:OffS (x.S E B) w2 (w2.setCell ⟨B,8,none⟩ (.slice a' (y.p.length+1) c')):=OffS.grown (grownBy_setCell w2 ⟨B,8,none⟩ _) (.inr (by simp [WV.S]));refine (o1.trans1 o2).trans h4 fun j hj hm=>?_;simp only [WV.S,List.mem_append,List.mem_cons,List.not_mem_nil,or_false] at hm ⊢;rcases hm with e | e | e | e | e | e
  ·exact .inl e
  ·exact .inr (.inl e)
  all_goals first
   | (rcases hbk with hb | hb
      ·rw [hb] at e; simp [e]; done
      ·rw [hb] at e; simp at e; omega)
   | (simp [e]; done)
 refine ⟨⟨h.w0B,fun j hj=>⟨(h.eW j hj).1,Nat.lt_of_lt_of_le (h.eW j hj).2 (by have:=hg.size; simp; omega)⟩,h3,by have:=hg.size; have:=h.Dw; simp; omega,?_,fun w3 h4=>h.conf w3 (hin w3 h4),h.good,h.mem.sub hin,h.fits,?_,?_,?_,?_,fun q hq=>by
  rw [List.mem_append,List.mem_singleton] at hq;rcases hq with hq | rfl
  ·exact (h.past q hq).sub hin
  ·exact hz.sub hin,(h.below.grown hg h.below.size (fun j hj=>by have:=hge j hj; have:=h.w0B; omega)).setCell (p:=⟨B,8,none⟩) (by have:=h.w0B; show w0.heap.size≤B; omega) _⟩,hin⟩
 ·have:=heap_setCell_same w2 B 8 _ _ (.slice a' (y.p.length+1) c') (hgB.trans h.row)
  simpa [WV.row] using this
 ·exact (h.ol.kept hg (h.ol.apart h.op (by decide))).keptB h3
 ·exact (h.ot.kept hg (h.ot.apart h.op (by decide))).keptB h3
 ·have ho':OwnS w2 D 33 3 (WV.vp { x with pA:=a',pc:=c' } { y with p:=y.p ++ [z] }) (y.p.map Prod.fst ++ [z.1]):=by
   have e:(WV.vp { x with pA:=a',pc:=c' } { y with p:=y.p ++ [z] })=.slice a' (y.p.length+1) c':=by simp [WV.vp]
   rw [e]; exact ho
  have h5:=ho'.keptB (o:=8) (u:=.slice a' (y.p.length+1) c') h3;simpa [List.map_append,WV.vc,WV.vs] using h5
 ·exact (h.of.kept hg (h.of.apart h.op (by decide))).keptB h3
theorem WI.addF {a':Option Addr} {c':Nat} {z:List Value} (h:WI WT w0 wr E B D x y) (ho:OwnS w2 D 51 5 (.slice a' (y.f.length+1) c') (y.f ++ [z])) (hg:wr.grownBy w2 (x.vf y).ownBlock) (hbk:addrB a'=addrB x.fA∨addrB a'=some wr.heap.size) :
  WI WT w0 (w2.setCell ⟨B,9,none⟩ (.slice a' (y.f.length+1) c')) E B D { x with fA:=a',fc:=c' } { y with f:=y.f ++ [z] }∧∀w3,OffS (WV.S { x with fA:=a',fc:=c' } E B) (w2.setCell ⟨B,9,none⟩ (.slice a' (y.f.length+1) c')) w3→OffS (x.S E B) wr w3:=by
 have h3:=h.BD;have hge:∀j,(x.vf y).ownBlock=some j→D≤j:=fun j hj=>(h.of.lt j hj).1;have hgB:w2.heap[B]?=wr.heap[B]?:=hg.block B h.lt (fun e=>by have:=hge B e.symm; omega);have hin:∀w3,OffS (WV.S { x with fA:=a',fc:=c' } E B) (w2.setCell ⟨B,9,none⟩ (.slice a' (y.f.length+1) c')) w3→OffS (x.S E B) wr w3:=fun w3 h4=>by
  have o1:OffS (x.S E B) wr w2:=OffS.grown hg (.inr (by rw [WV.vf,own_addr]; simp [WV.S]));have o2:OffS (x.S E B) w2 (w2.setCell ⟨B,9,none⟩ (.slice a' (y.f.length+1) c')):=OffS.grown (grownBy_setCell w2 ⟨B,9,none⟩ _) (.inr (by simp [WV.S]));refine (o1.trans1 o2).trans h4 fun j hj hm=>?_;simp only [WV.S,List.mem_append,List.mem_cons,List.not_mem_nil,or_false] at hm ⊢;rcases hm with e | e | e | e | e | e
  ·exact .inl e
  ·exact .inr (.inl e)
  all_goals first
   | (rcases hbk with hb | hb
      ·rw [hb] at e; simp [e]; done
      ·rw [hb] at e; simp at e; omega)
   | (simp [e]; done)
 refine ⟨⟨h.w0B,fun j hj=>⟨(h.eW j hj).1,Nat.lt_of_lt_of_le (h.eW j hj).2 (by have:=hg.size; simp; omega)⟩,h3,by have:=hg.size; have:=h.Dw; simp; omega,?_,fun w3 h4=>h.conf w3 (hin w3 h4),h.good,h.mem.sub hin,h.fits,?_,?_,?_,?_,fun z hz=>(h.past z hz).sub hin,(h.below.grown hg h.below.size (fun j hj=>by have:=hge j hj; have:=h.w0B; omega)).setCell (p:=⟨B,9,none⟩) (by have:=h.w0B; show w0.heap.size≤B; omega) _⟩,hin⟩
 ·have:=heap_setCell_same w2 B 9 _ _ (.slice a' (y.f.length+1) c') (hgB.trans h.row)
  simpa [WV.row] using this
 ·exact (h.ol.kept hg (h.ol.apart h.of (by decide))).keptB h3
 ·exact (h.ot.kept hg (h.ot.apart h.of (by decide))).keptB h3
 ·exact (h.op.kept hg (h.op.apart h.of (by decide))).keptB h3
 ·have ho':OwnS w2 D 51 5 (WV.vf { x with fA:=a',fc:=c' } { y with f:=y.f ++ [z] }) (y.f ++ [z]):=by
   have e:(WV.vf { x with fA:=a',fc:=c' } { y with f:=y.f ++ [z] })=.slice a' (y.f.length+1) c':=by simp [WV.vf]
   rw [e]; exact ho
  exact ho'.keptB h3
theorem WI.setL {b n cap i:Nat} {z:MachM} (h:WI WT w0 wr E B D x y) (hv:x.vl y=.slice (some ⟨b,0,none⟩) n cap) (hi:i<y.l.length) (hz:(machL (x.vc y.c) (x.vs y.c) y.c.threads z).length=14) (hz1:∀u∈(machL (x.vc y.c) (x.vs y.c) y.c.threads z),u.oneCell'=true) :
  WI WT w0 (wr.setCells b (i * 14) (machL (x.vc y.c) (x.vs y.c) y.c.threads z)) E B D x { y with l:=y.l.set i z }∧∀w3,OffS (x.S E B) (wr.setCells b (i * 14) (machL (x.vc y.c) (x.vs y.c) y.c.threads z)) w3→OffS (x.S E B) wr w3:=by
 have h3:=h.BD;have hbo:(x.vl y).ownBlock=some b:=by rw [hv]; rfl
 have hb:=h.ol.lt b hbo;have hg:wr.grownBy (wr.setCells b (i * 14) (machL (x.vc y.c) (x.vs y.c) y.c.threads z)) (x.vl y).ownBlock:=by rw [hbo]; exact setCells_grown b _ _ wr
 have hin:∀w3,OffS (x.S E B) (wr.setCells b (i * 14) (machL (x.vc y.c) (x.vs y.c) y.c.threads z)) w3→OffS (x.S E B) wr w3:=fun w3 h4=>
  (OffS.grown hg (.inr (by rw [WV.vl,own_addr]; simp [WV.S]))).trans1 h4
 have ho:=h.ol;rw [hv] at ho;have hs:=ho.setRow (r:=machL (x.vc y.c) (x.vs y.c) y.c.threads z) i (by simpa using hi) hz hz1;refine ⟨⟨h.w0B,fun j hj=>⟨(h.eW j hj).1,Nat.lt_of_lt_of_le (h.eW j hj).2 hg.size⟩,h3,by rw [setCells_size]; exact h.Dw,?_,fun w3 h4=>h.conf w3 (hin w3 h4),h.good,h.mem.sub hin,h.fits,?_,?_,?_,?_,fun z hz=>(h.past z hz).sub hin,h.below.grown hg h.below.size (fun j hj=>by rw [hbo] at hj; cases hj; have:=h.w0B; omega)⟩,hin⟩
 ·rw [setCells_other _ _ _ _ _ (by omega),h.row]
  simp [WV.row]
 ·have e:WV.vl x { y with l:=y.l.set i z }=.slice (some ⟨b,0,none⟩) n cap:=by rw [← hv]; simp [WV.vl]
  rw [e];simpa [List.map_set,WV.vc,WV.vs] using hs
 ·exact h.ot.kept hg (h.ot.apart h.ol (by decide))
 ·exact h.op.kept hg (h.op.apart h.ol (by decide))
 ·exact h.of.kept hg (h.of.apart h.ol (by decide))
theorem WI.setF {b n cap i:Nat} {z:List Value} (h:WI WT w0 wr E B D x y) (hv:x.vf y=.slice (some ⟨b,0,none⟩) n cap) (hi:i<y.f.length) (hz:(z).length=5) (hz1:∀u∈(z),u.oneCell'=true) :
  WI WT w0 (wr.setCells b (i * 5) (z)) E B D x { y with f:=y.f.set i z }∧∀w3,OffS (x.S E B) (wr.setCells b (i * 5) (z)) w3→OffS (x.S E B) wr w3:=by
 have h3:=h.BD;have hbo:(x.vf y).ownBlock=some b:=by rw [hv]; rfl
 have hb:=h.of.lt b hbo;have hg:wr.grownBy (wr.setCells b (i * 5) (z)) (x.vf y).ownBlock:=by rw [hbo]; exact setCells_grown b _ _ wr
 have hin:∀w3,OffS (x.S E B) (wr.setCells b (i * 5) (z)) w3→OffS (x.S E B) wr w3:=fun w3 h4=>
  (OffS.grown hg (.inr (by rw [WV.vf,own_addr]; simp [WV.S]))).trans1 h4
 have ho:=h.of;rw [hv] at ho;have hs:=ho.setRow (r:=z) i (by simpa using hi) hz hz1;refine ⟨⟨h.w0B,fun j hj=>⟨(h.eW j hj).1,Nat.lt_of_lt_of_le (h.eW j hj).2 hg.size⟩,h3,by rw [setCells_size]; exact h.Dw,?_,fun w3 h4=>h.conf w3 (hin w3 h4),h.good,h.mem.sub hin,h.fits,?_,?_,?_,?_,fun z hz=>(h.past z hz).sub hin,h.below.grown hg h.below.size (fun j hj=>by rw [hbo] at hj; cases hj; have:=h.w0B; omega)⟩,hin⟩
 ·rw [setCells_other _ _ _ _ _ (by omega),h.row]
  simp [WV.row]
 ·exact h.ol.kept hg (h.ol.apart h.of (by decide))
 ·exact h.ot.kept hg (h.ot.apart h.of (by decide))
 ·exact h.op.kept hg (h.op.apart h.of (by decide))
 ·have e:WV.vf x { y with f:=y.f.set i z }=.slice (some ⟨b,0,none⟩) n cap:=by rw [← hv]; simp [WV.vf]
  rw [e];exact hs
theorem WI.setM {ma na:Option Addr} {mc nc:Nat} {m2:MemM} (h:WI WT w0 wr E B D x y) (hm:StM (OffS (x.S E B) wr) (.agg #[.slice ma m2.words.length mc,.slice na m2.lists.length nc,.int .i64 m2.tick]) m2) (hf:m2.fits) :
  WI WT w0 (((wr.setCell ⟨B,3,none⟩ (.slice ma m2.words.length mc)).setCell ⟨B,4,none⟩ (.slice na m2.lists.length nc)).setCell ⟨B,5,none⟩ (.int .i64 m2.tick)) E B D { x with mA:=ma,mc:=mc,nA:=na,nc:=nc } { y with m:=m2 }∧∀w3,OffS (WV.S { x with mA:=ma,mc:=mc,nA:=na,nc:=nc } E B) (((wr.setCell ⟨B,3,none⟩ (.slice ma m2.words.length mc)).setCell ⟨B,4,none⟩ (.slice na m2.lists.length nc)).setCell ⟨B,5,none⟩ (.int .i64 m2.tick)) w3→OffS (x.S E B) wr w3:=by
 have h3:=h.BD;have hg:wr.grownBy (((wr.setCell ⟨B,3,none⟩ (.slice ma m2.words.length mc)).setCell ⟨B,4,none⟩ (.slice na m2.lists.length nc)).setCell ⟨B,5,none⟩ (.int .i64 m2.tick)) (some B):=grownBy_trans (grownBy_trans (grownBy_setCell wr ⟨B,3,none⟩ _) (grownBy_setCell _ ⟨B,4,none⟩ _)) (grownBy_setCell _ ⟨B,5,none⟩ _);have hin:∀w3,OffS (WV.S { x with mA:=ma,mc:=mc,nA:=na,nc:=nc } E B) (((wr.setCell ⟨B,3,none⟩ (.slice ma m2.words.length mc)).setCell ⟨B,4,none⟩ (.slice na m2.lists.length nc)).setCell ⟨B,5,none⟩ (.int .i64 m2.tick)) w3→OffS (x.S E B) wr w3:=fun w3 h4=>
  (OffS.grown (S:=x.S E B) hg (.inr (by simp [WV.S]))).trans1 h4
 refine ⟨⟨h.w0B,fun j hj=>⟨(h.eW j hj).1,Nat.lt_of_lt_of_le (h.eW j hj).2 hg.size⟩,h3,by have:=h.Dw; simp; omega,?_,fun w3 h4=>h.conf w3 (hin w3 h4),h.good,hm.sub hin,hf,h.ol.kept hg (h.ol.ne h3),h.ot.kept hg (h.ot.ne h3),h.op.kept hg (h.op.ne h3),h.of.kept hg (h.of.ne h3),fun z hz=>(h.past z hz).sub hin,h.below.grown hg h.below.size (fun j hj=>by cases hj; have:=h.w0B; omega)⟩,hin⟩;have r1:=heap_setCell_same wr B 3 _ _ (.slice ma m2.words.length mc) h.row;have r2:=heap_setCell_same _ B 4 _ _ (.slice na m2.lists.length nc) r1;have r3:=heap_setCell_same _ B 5 _ _ (.int .i64 m2.tick) r2;simpa [WV.row] using r3
end
theorem list_none {m:MemM} {a:AccM} (h:hasB m.lists.length a.addr=false):listE m a=(m,ansZ):=by simp [listE,h]
theorem list_read {m:MemM} {i:Nat} {old nw til:Int} (h:hasB m.lists.length i=true):listE m ⟨7,i,old,nw,til⟩=(m,⟨0,false,false,m.lists.getD i []⟩):=by simp [listE,h]
theorem list_next {m:MemM} {k:Int} {i:Nat} {old nw til:Int} (h:hasB m.lists.length i=true) (hk:k≠7) (l':List Int) (hl:nextL k (IntKind.i64.wrap nw) (m.lists.getD i [])=l'):listE m ⟨k,i,old,nw,til⟩=(⟨m.words,m.lists.set i l',m.tick⟩,⟨l'.length,false,false,[]⟩):=by
 unfold listE; simp only [h]; simp only [Bool.true_eq_false,if_false,hk,Int.toNat_natCast,hl]
theorem SlI.empty (w:World) (k:IntKind) (A:Option Addr) (c:Nat):SlI w k (.slice A 0 c) []:=⟨by simp,by simp,A,c,rfl,Nat.zero_le _,fun t ht=>by simp at ht⟩
theorem SlI.take {w:World} {k:IntKind} {b off n cap:Nat} {l:List Int} (h:SlI w k (.slice (some ⟨b,off,none⟩) n cap) l) (i:Nat) (hi:i≤l.length):SlI w k (.slice (some ⟨b,off,none⟩) i cap) (l.take i):=by
 obtain ⟨h1,h2,a,cap',e,h4,h5⟩:=h;simp only [Value.slice.injEq] at e;obtain ⟨rfl,rfl,rfl⟩:=e;have hl:(l.take i).length=i:=by simp; omega
 refine ⟨by omega,fun x hx=>h2 x (List.mem_of_mem_take hx),_,cap,by rw [hl],by omega,fun t ht=>?_⟩;obtain ⟨b',off',e,h6,h7⟩:=h5 t (by omega);refine ⟨b',off',e,h6,?_⟩;rw [h7];simp [List.getD_eq_getElem?_getD,show t<i by omega]
theorem SlI.drop {w:World} {k:IntKind} {b off n cap:Nat} {l:List Int} (h:SlI w k (.slice (some ⟨b,off,none⟩) n cap) l) (i:Nat) (hi:i≤l.length):SlI w k (.slice (some ⟨b,off+i,none⟩) (l.length - i) (cap - i)) (l.drop i):=by
 obtain ⟨h1,h2,a,cap',e,h4,h5⟩:=h;simp only [Value.slice.injEq] at e;obtain ⟨rfl,rfl,rfl⟩:=e;refine ⟨by simp; omega,fun x hx=>h2 x (List.mem_of_mem_drop hx),_,cap - i,by rw [List.length_drop],by rw [List.length_drop]; omega,fun t ht=>?_⟩;rw [List.length_drop] at ht;obtain ⟨b',off',e,h6,h7⟩:=h5 (i+t) (by omega);simp only [Option.some.injEq,Addr.mk.injEq,and_true] at e;obtain ⟨rfl,rfl⟩:=e;refine ⟨b,off+i,rfl,h6,?_⟩;rw [Nat.add_assoc,h7];simp [List.getD_eq_getElem?_getD]
theorem wrap_wrap (x:Int):IntKind.i64.wrap x=IntKind.i64.wrap (IntKind.i64.wrap x):=by rw [IntKind.wrap_i64,IntKind.wrap_i64]; omega
theorem wrap64_eq (x:Int):wrap64 x=IntKind.i64.wrap x:=by rw [IntKind.wrap_i64]; unfold wrap64; omega
theorem grant_wait {m:MemM} {a:AccM} (h:a.kind=4):grantB m a=(!hasB m.words.length a.addr || m.words.getD a.addr.toNat 0 != a.old || comeB m.tick a.til):=by simp [grantB,h]
theorem grant_other {m:MemM} {a:AccM} (h:a.kind≠4):grantB m a=(decide (1≤a.kind) && decide (a.kind≤9)):=by simp [grantB,h]
set_option maxHeartbeats 2000000 in
theorem rgranted_any (v:Value) (m:MemM) (a:AccM) (w:World) (h:MemV w v m) (hm:m.fits) (ha:a.ok) :
  Calls Tryz.prog 67 #[v,accV a] w fun e w'=>e=.returned (.bool (grantB m a))∧Below w.heap.size w w':=by
 have hasword:=rword_any;obtain ⟨vw,vl,us,rfl,h1,h2⟩:=h;have hwl:=hm.words;obtain ⟨a1,cap,rfl,-⟩:=h1.len;obtain ⟨a2,cap2,rfl,-⟩:=h2.len;have HT:=Lib.hid ha.til;obtain ⟨W,hW⟩:∃W,(w.alloc (.cells #[.slice a1 m.words.length cap,.slice a2 m.lists.length cap2,.int .i64 m.tick] 33)).alloc (.cells #[.int .i64 a.kind,.int .i64 a.addr,.int .u64 a.old,.int .u64 a.new,.int .i64 a.til] 56)=W:=⟨_,rfl⟩;have HB:Hid (Below w.heap.size w W):=hW▸below_new (below_new (Below.refl w.heap.size w) _) _;have hz:w.heap.size+2≤W.heap.size:=by rw [← hW]; simp
 have R0:Hid (W.heap[w.heap.size]?=some (.cells #[.slice a1 m.words.length cap,.slice a2 m.lists.length cap2,.int .i64 m.tick] 33 (0,0))):=hW▸heap_alloc2_old _ _ _;have R1:Hid (W.heap[w.heap.size+1]?=some (.cells #[.int .i64 a.kind,.int .i64 a.addr,.int .u64 a.old,.int .u64 a.new,.int .i64 a.til] 56 (0,0))):=hW▸heap_alloc2_new _ _ _;have HW:=Lib.hid hW;have HV:Hid (MemV W (.agg #[.slice a1 m.words.length cap,.slice a2 m.lists.length cap2,.int .i64 m.tick]) m):=⟨_,_,us,rfl,h1.below HB.out,h2.below HB.out⟩;have H1:=Lib.hid (h1.below HB.out);have HHW:=Lib.hid fun v w' h=>hasword v m a.addr w' h;clear h1 h2 hm ha hW;obtain ⟨x0,x1,x2⟩:=rowc3 R0.out;obtain ⟨y0,y1,y2,y3,y4⟩:=rowc5 R1.out;by_cases h4:a.kind=4
 ·have HG:=Lib.hid (grant_wait (m:=m) h4)
  obtain ⟨k,ad,old,nw,til⟩:=a;simp only at h4;subst h4;unfold accV;dsimp only at *;go_enter Tryz.func67,Tryz.ntmps67;go_upto_region 1 with fail
  rw [HW.out];clear HW;go_upto_region 2 with fail
  have X0:=ext_cell _ _ (by omega) _ x0;have X1:=ext_cell _ _ (by omega) _ x1;have X2:=ext_cell _ _ (by omega) _ x2;have Y1:=ext_cell _ _ (by omega) _ y1;have Y2:=ext_cell _ _ (by omega) _ y2;have Y4:=ext_cell _ _ (by omega) _ y4;cases hb:hasB m.words.length ad with
  | false=>
   rw [hb] at HHW;have HGV:Hid (grantB m ⟨4,ad,old,nw,til⟩=true):=HG.out.trans (by rw [hb]; simp);clear hb HG;refine wp_region_ext W (by kernel_rfl) (by kernel_rfl) (Below.refl _ _) ?_
   repeat (go_big_quiet_step (first | (go_at_call 71; exact calls_ext (HHW.out _ _ (HV.out.below (Ext.below _))))))
   refine wpQuiet_nil ?_;intro _ hw';obtain ⟨⟨w2,hw2⟩,hw''⟩:=hw';subst hw'';have HB2:=Lib.hid (HB.out.trans (hw2.mono (by omega)));clear hw2;go_wp2;go_ret;exact ⟨ret_bool HGV.out.symm,HB2.out⟩
  | true=>
   obtain ⟨i,rfl,hi⟩:=hasB_true hb;rw [hb] at HHW;have HGV:Hid (grantB m ⟨4,i,old,nw,til⟩=(m.words.getD i 0 != old || comeB m.tick til)):=HG.out.trans (by rw [hb]; simp);clear hb HG;obtain ⟨b,off,cap',e,hcap,hblt,hcells⟩:=H1.out.open (by rintro h0; rw [h0] at hi; simp at hi);have hck:=hcells i hi;simp only [Value.slice.injEq] at e;obtain ⟨rfl,-,rfl⟩:=e;have hiI:(i:Int)<m.words.length:=by omega
   have hi0:(0:Int)≤i:=by omega
   obtain ⟨y,hy⟩:∃y,m.words.getD i 0=y:=⟨_,rfl⟩;rw [hy] at hck;rw [hy] at HGV;have K0:=ext_cell _ _ hblt _ hck;clear hcells hy;by_cases hyo:y=old
   ·subst hyo
    have hne:(y != y)=false:=by simp
    have HGW:=Lib.hid (HGV.out.trans (by rw [hne]; rfl:(y != y || comeB m.tick til)=comeB m.tick til));clear HGV;have HTW:=HT.out;by_cases h0:0<til
    ·have hd:decide (0<til)=true:=by simpa using h0
     have hwi:IntKind.i64.wrap (til - 1)=til - 1:=by rw [IntKind.wrap_i64] at HTW ⊢; omega
     have HGX:=Lib.hid (HGW.out.trans (by simp [comeB,h0]:comeB m.tick til=decide (til - 1≤m.tick)));clear HTW HGW HT;refine wp_region_ext W (by kernel_rfl) (by kernel_rfl) (Below.refl _ _) ?_
     repeat (go_big_quiet_step (first | (go_at_call 71; exact calls_ext (HHW.out _ _ (HV.out.below (Ext.below _))))))
     refine wpQuiet_nil ?_;intro _ hw';obtain ⟨⟨w2,hw2⟩,hw''⟩:=hw';subst hw'';have HB2:=Lib.hid (HB.out.trans (hw2.mono (by omega)));clear hw2;go_wp2;go_ret;exact ⟨ret_bool HGX.out.symm,HB2.out⟩
    ·have hd:decide (0<til)=false:=by simpa using h0
     have HGX:=Lib.hid (HGW.out.trans (by simp only [comeB,hd,Bool.false_and]:comeB m.tick til=false));clear HTW HGW HT;refine wp_region_ext W (by kernel_rfl) (by kernel_rfl) (Below.refl _ _) ?_
     repeat (go_big_quiet_step (first | (go_at_call 71; exact calls_ext (HHW.out _ _ (HV.out.below (Ext.below _))))))
     refine wpQuiet_nil ?_;intro _ hw';obtain ⟨⟨w2,hw2⟩,hw''⟩:=hw';subst hw'';have HB2:=Lib.hid (HB.out.trans (hw2.mono (by omega)));clear hw2;go_wp2;go_ret;exact ⟨ret_bool HGX.out.symm,HB2.out⟩
   ·have hne:(y != old)=true:=by simpa using hyo
    have HGW:=Lib.hid (HGV.out.trans (by rw [hne]; rfl:(y != old || comeB m.tick til)=true));clear hyo HGV;refine wp_region_ext W (by kernel_rfl) (by kernel_rfl) (Below.refl _ _) ?_
    repeat (go_big_quiet_step (first | (go_at_call 71; exact calls_ext (HHW.out _ _ (HV.out.below (Ext.below _))))))
    refine wpQuiet_nil ?_;intro _ hw';obtain ⟨⟨w2,hw2⟩,hw''⟩:=hw';subst hw'';have HB2:=Lib.hid (HB.out.trans (hw2.mono (by omega)));clear hw2;go_wp2;go_ret;exact ⟨ret_bool HGW.out.symm,HB2.out⟩
 ·have HG:=Lib.hid (grant_other (m:=m) h4)
  obtain ⟨k,ad,old,nw,til⟩:=a;dsimp only at *;unfold accV;dsimp only;have k4:=ne_beq h4;clear h4;by_cases h1:1≤k
  ·have hd:decide (1≤k)=true:=by simpa using h1
   go_enter Tryz.func67,Tryz.ntmps67;go_upto_region 1 with fail
   rw [HW.out];clear HW;go_wp2;go_ret;exact ⟨ret_bool (by rw [HG.out,hd]; simp),HB.out⟩
  ·have hd:decide (1≤k)=false:=by simpa using h1
   go_enter Tryz.func67,Tryz.ntmps67;go_upto_region 1 with fail
   rw [HW.out];clear HW;go_wp2;go_ret;exact ⟨ret_bool (by rw [HG.out,hd]; simp),HB.out⟩
def TripR (G:World→Prop) (w:World) (r:MemM × AnsM × Bool) (e:Ending) (w':World):Prop:=
 ∃v' b',e=.returned (.tuple #[v',b',.bool r.2.2])∧StM (Nx G w w') v' r.1∧StA (Nx G w w') b' r.2.1∧Below w.heap.size w w'
theorem apply_not {m:MemM} {a:AccM} (h:grantB m a=false):applyE m a=(m,ansZ,false):=by simp [applyE,h]
theorem apply_list {m:MemM} {a:AccM} (h:grantB m a=true) (hk:7≤a.kind):applyE m a=((listE m a).1,(listE m a).2,true):=by simp [applyE,h,hk]
theorem apply_word {m:MemM} {a:AccM} (h:grantB m a=true) (hk:¬7≤a.kind):applyE m a=((wordE m a).1,(wordE m a).2,true):=by simp [applyE,h,hk]
theorem grant_kind {m:MemM} {a:AccM} (h:grantB m a=true):1≤a.kind∧a.kind≤9:=by
 by_cases h4:a.kind=4
 ·omega
 ·simp only [grantB,h4,if_false,Bool.and_eq_true,decide_eq_true_eq] at h
  exact h
theorem StM.shape {G:World→Prop} {v:Value} {m:MemM} (h:StM G v m) (w:World) (hG:G w):∃A n c A2 n2 c2 t,v=.agg #[.slice A n c,.slice A2 n2 c2,.int .i64 t]:=by
 obtain ⟨a,cap,a2,cap2,rfl⟩:=h.open w hG;exact ⟨_,_,_,_,_,_,_,rfl⟩
theorem StA.shape {G:World→Prop} {v:Value} {b:AnsM} (h:StA G v b) (w:World) (hG:G w):∃x p q A n c,v=.agg #[.int .u64 x,.bool p,.bool q,.slice A n c]:=by
 obtain ⟨vl,rfl,hl⟩:=h;obtain ⟨A,c,rfl,-⟩:=(hl w hG).len;exact ⟨_,_,_,_,_,_,rfl⟩
end Go.Proofs.YtjnlkemdaffgbaaGreat
