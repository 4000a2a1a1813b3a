import Derived.Deep.DeepCutAuto
import Derived.Deep.CutBlock
import Derived.Lib.Overlaps
import Derived.Lib.AppendZerosOnto
import Derived.Shelf.Spec.SlicesInsert
import Derived.Test.YtiekicailidhcaaB16
import Derived.Test.YtiekicailidhcaaB12
import Derived.Test.YtiekicailidhcaaB13
import Derived.Test.YtiekicailidhcaaB14
import Derived.Test.YtiekicailidhcaaB15
import Derived.Test.YtiekicailidhcaaB07
set_option linter.unusedVariables false
set_option linter.unusedSimpArgs false
namespace Go.Proofs.Ytiekicailidhcaa
open Go.ChangeShapes Go.WideShapes Go.ChangeAt Go.RowKit
set_option maxRecDepth 100000
def awC:ConfM:=⟨[0],[0],2⟩
def awS:OpM:=⟨1,0,0,5,0,[],[]⟩
def awR:OpM:=⟨2,0,0,0,0,[],[]⟩
def awD0:DeskM:=⟨[⟨0,[],false⟩],[],0⟩
def awD1:DeskM:=⟨[⟨0,[],false⟩],[⟨0,awS⟩],0⟩
def awD2:DeskM:=⟨[⟨0,[],false⟩],[],0⟩
theorem awC_good:awC.good:=⟨by decide,rfl,by decide,by decide,by decide⟩
theorem aw_new:nchE awC.caps=awD0.chans:=by rfl
theorem aw_do1:doD awD0 0 awS=(awD1,[],true):=by rfl
theorem aw_do2:doD awD1 1 awR=(awD2,[⟨0,⟨1,-1,0,false,0⟩⟩,⟨1,⟨2,-1,5,true,0⟩⟩],false):=by rfl
theorem awS_fine:awS.fine:=⟨⟨rfl,rfl⟩,(fun x hx=>by cases hx),by decide⟩
theorem awR_fine:awR.fine:=⟨⟨rfl,rfl⟩,(fun x hx=>by cases hx),by decide⟩
theorem awS_y (P:Nat→Prop) (w:World):OpY P w (.agg #[.int .i64 1,.int .i64 0,.int .i64 0,.int .u64 5,.int .i64 0,.slice none 0 0,.slice none 0 0]) awS:=⟨_,_,rfl,SlC.nil _,SlI.nil _ _,fun a n c e=>by simp at e,fun a n c e=>by simp at e⟩
theorem awR_y (P:Nat→Prop) (w:World):OpY P w (.agg #[.int .i64 2,.int .i64 0,.int .i64 0,.int .u64 0,.int .i64 0,.slice none 0 0,.slice none 0 0]) awR:=⟨_,_,rfl,SlC.nil _,SlI.nil _ _,fun a n c e=>by simp at e,fun a n c e=>by simp at e⟩
theorem awD0_ok:awD0.ok:=⟨by decide,by decide,(fun c hc=>by rw [List.mem_singleton.1 hc]; decide),(fun x hx=>by cases hx)⟩
theorem awD1_ok:awD1.ok:=⟨by decide,by decide,(fun c hc=>by rw [List.mem_singleton.1 hc]; decide),(fun x hx=>by rw [List.mem_singleton.1 hx]; exact awS_fine)⟩
set_option maxRecDepth 100000 in
set_option maxHeartbeats 16000000 in
theorem awakeD_any (w:World):Calls Try.prog 9 #[] w fun e w'=>e=.returned (.bool true)∧Below w.heap.size w w':=by
 obtain ⟨W,hW⟩:∃W,(w.alloc (.cells #[.int .i64 0] 3)).alloc (.cells #[.int .u64 0] 41)=W:=⟨_,rfl⟩;have hs1:(w.alloc (.cells #[.int .i64 0] 3)).heap.size=w.heap.size+1:=by simp
 have HB:Hid (Below w.heap.size w W):=hW▸below_new (below_new (Below.refl _ _) _) _;have hl1:=(SlI.lit w .i64 3 [0] (by decide) (by simp)).below (below_new (Below.refl (w.alloc (.cells #[.int .i64 0] 3)).heap.size _) (.cells #[.int .u64 0] 41));have hl2:=SlI.lit (w.alloc (.cells #[.int .i64 0] 3)) .u64 41 [0] (by decide) (by simp);have hz:w.heap.size+2=W.heap.size:=by rw [← hW]; simp
 have HC:Hid (ConfV W (.agg #[.slice (some ⟨w.heap.size,0,none⟩) 1 1,.slice (some ⟨w.heap.size+1,0,none⟩) 1 1,.int .i64 2]) awC):=by
  rw [hs1] at hl2;rw [← hW];exact ⟨_,_,rfl,hl1,hl2⟩
 have HW:=Lib.hid hW;clear hW hs1 hl1 hl2;go_enter Try.func9,Try.ntmps9;go_wp2_with fail;rw [HW.out];clear HW;refine (pNewD_any _ awC W HC.out awC_good).mono ?_; rintro e w2 ⟨u,rfl,hx,hb2⟩;rw [aw_new] at hx;have HB2:=Lib.hid (below_then HB.out hb2);have hx:=hx.tight;obtain ⟨vc,vw,rfl,hc,hw⟩:=hx;have HX:=Lib.hid (⟨vc,vw,rfl,hc,hw⟩:DeskX _ w2 (.agg #[vc,vw,.int .i64 0]) awD0);obtain ⟨pc,nc,kc,rfl⟩:=SlHX.sh hc;obtain ⟨aw,kw,rfl,-⟩:=hw.slW.len;have hn0:([]:List WaitM).length=0:=rfl;rw [hn0] at HX ⊢;clear hc hw hb2 hn0;obtain ⟨Wd,hWd⟩:∃Wd,(w2.alloc (.cells #[.slice none 0 0,.slice none 0 0,.int .i64 0] 34)).setRow w2.heap.size #[.slice pc nc kc,.slice aw 0 kw,.int .i64 0]=Wd:=⟨_,rfl⟩;have Nd:Hid ((w2.alloc (.cells #[.slice none 0 0,.slice none 0 0,.int .i64 0] 34)).heap[w2.heap.size]?=some (.cells #[.slice none 0 0,.slice none 0 0,.int .i64 0] 34 (0,0))):=heap_alloc_new _ _;have HBd:Hid (Below w2.heap.size w2 Wd):=hWd▸row_below (below_new (Below.refl _ _) _) (Nat.le_refl _) _;have Rd:Hid (Wd.heap[w2.heap.size]?=some (.cells #[.slice pc nc kc,.slice aw 0 kw,.int .i64 0] 34 (0,0))):=hWd▸setRow_heap _ _ _ _ _ (0,0) Nd.out;have HWd:=Lib.hid hWd;clear hWd;go_upto_region 2 with (refine wpList_store_row rfl 34 _ _ rfl (w2.heap.size) _ rfl rfl 34 _ Nd.out (by kernel_rfl) rfl (by simp [Value.oneCell']) ?_)
 rw [HWd.out];try simp only [Act.put]
 clear HWd Nd;obtain ⟨D,hD⟩:∃D,w2.heap.size=D:=⟨_,rfl⟩;rw [hD] at Rd;rw [hD];have hDp:w2.heap.size=D:=hD;clear hD;have HBD:=Lib.hid (below_then HB2.out HBd.out);have hwD:w.heap.size≤D:=by have:=HB2.out.size; omega
 have hDl:D<Wd.heap.size:=(ltR Rd);have HX0:Hid (DeskX (fun b=>W.heap.size≤b∧b<w2.heap.size) w2 (.agg #[.slice pc nc kc,.slice aw 0 kw,.int .i64 0]) awD0):=HX.out;have T1:=Lib.hid (pDoA_any (fun b=>b≠D) (.agg #[.slice pc nc kc,.slice aw 0 kw,.int .i64 0]) (.agg #[.int .i64 1,.int .i64 0,.int .i64 0,.int .u64 5,.int .i64 0,.slice none 0 0,.slice none 0 0]) awD0 0 awS Wd ((HX0.out.below HBd.out).mono fun b hb=>by omega) awD0_ok (awS_y _ _) awS_fine (.inl rfl) (by decide) (fun b hb=>by omega));rw [aw_do1] at T1;unfold DoRQ at T1;dsimp only at T1;obtain ⟨x0,x1,x2⟩:=rowc3 Rd.out;go_wp2_with fail;refine T1.out.mono ?_; rintro e w3 ⟨u,lv,rfl,hx,hs,hn,ha,hb3⟩;have hlv:lv=.slice none 0 0:=by
  rcases hn with h | h
  ·exact h
  ·exact absurd rfl h
 subst hlv;have HB3:=Lib.hid (below_then HBD.out hb3);have S0:=Lib.hid (row_below3 hb3 Rd.out);obtain ⟨vc,vw,rfl,hc,hw⟩:=hx;have HX3:=Lib.hid (⟨vc,vw,rfl,hc,hw⟩:DeskX _ w3 (.agg #[vc,vw,.int .i64 0]) awD1);obtain ⟨pc3,nc3,kc3,rfl⟩:=SlHX.sh hc;obtain ⟨aw3,kw3,rfl,-⟩:=hw.slW.len;have hn1:([⟨0,awS⟩]:List WaitM).length=1:=rfl;have hn2:awD1.wait.length=1:=rfl;have hn3:awD1.tick=0:=rfl;try rw [hn2] at HX3 ⊢
 try rw [hn3]
 clear hc hw hs hn ha x0 x1 x2 T1 hb3 hn1 hn2 hn3 HX HX0;obtain ⟨x0,x1,x2⟩:=rowc3 S0.out;obtain ⟨X3,hX3⟩:∃X3,w3.setRow D #[.slice pc3 nc3 kc3,.slice aw3 1 kw3,.int .i64 0]=X3:=⟨_,rfl⟩;have hg3:w3.grownBy X3 (some D):=hX3▸row_grown w3 D #[.slice pc3 nc3 kc3,.slice aw3 1 kw3,.int .i64 0];have K0:Hid (X3.heap[D]?=some (.cells #[.slice pc3 nc3 kc3,.slice aw3 1 kw3,.int .i64 0] 34 (0,0))):=hX3▸setRow_heap _ _ _ _ _ (0,0) S0.out;have HX3b:DeskX (fun b=>b≠D) w3 (.agg #[.slice pc3 nc3 kc3,.slice aw3 1 kw3,.int .i64 0]) awD1:=HX3.out;have HX4:=Lib.hid (HX3b.off hg3 (fun b hb=>hb));have HB4:Hid (Below w.heap.size w X3):=below_grown HB3.out hg3 (by omega);have hD3:D<X3.heap.size:=(ltR K0);have HSX:=Lib.hid hX3;have T2:=Lib.hid (pDoA_any (fun b=>True) (.agg #[.slice pc3 nc3 kc3,.slice aw3 1 kw3,.int .i64 0]) (.agg #[.int .i64 2,.int .i64 0,.int .i64 0,.int .u64 0,.int .i64 0,.slice none 0 0,.slice none 0 0]) awD1 1 awR X3 (HX4.out.mono fun b hb=>trivial) awD1_ok (awR_y _ _) awR_fine (.inr (.inl rfl)) (by decide) (fun b hb=>trivial));rw [aw_do2] at T2;unfold DoRQ at T2;dsimp only at T2;clear hX3 hg3 HX3 HX3b x0 x1 x2;go_upto_region 3 with (refine wpList_store_row rfl 34 _ _ rfl D _ rfl rfl 34 _ S0.out (by kernel_rfl) rfl (by simp [Value.oneCell']) ?_)
 rw [HSX.out];try simp only [Act.put]
 clear HSX S0;obtain ⟨x0,x1,x2⟩:=rowc3 K0.out;go_wp2_with fail;refine T2.out.mono ?_; rintro e w4 ⟨u,lv,rfl,hx,hs,hn,ha,hb4⟩;try dsimp only at hx hs
 have HB5:=Lib.hid (below_then HB4.out hb4);obtain ⟨vc,vw,rfl,hc,hw⟩:=hx;obtain ⟨pc5,nc5,kc5,rfl⟩:=SlHX.sh hc;obtain ⟨aw5,kw5,rfl,-⟩:=hw.slW.len;have hn2:awD2.wait.length=0:=rfl;have hn3:awD2.tick=0:=rfl;try rw [hn2]
 try rw [hn3]
 have HS:=Lib.hid hs;clear hc hw hs hn ha x0 x1 x2 T2 hb4 hn2 hn3;obtain ⟨We,hWe⟩:∃We,(w4.alloc (.cells #[.slice none 0 0,.slice none 0 0,.int .i64 0] 34)).setRow w4.heap.size #[.slice pc5 nc5 kc5,.slice aw5 0 kw5,.int .i64 0]=We:=⟨_,rfl⟩;have Ne:Hid ((w4.alloc (.cells #[.slice none 0 0,.slice none 0 0,.int .i64 0] 34)).heap[w4.heap.size]?=some (.cells #[.slice none 0 0,.slice none 0 0,.int .i64 0] 34 (0,0))):=heap_alloc_new _ _;have HBe:Hid (Below w4.heap.size w4 We):=hWe▸row_below (below_new (Below.refl _ _) _) (Nat.le_refl _) _;have Re:Hid (We.heap[w4.heap.size]?=some (.cells #[.slice pc5 nc5 kc5,.slice aw5 0 kw5,.int .i64 0] 34 (0,0))):=hWe▸setRow_heap _ _ _ _ _ (0,0) Ne.out;have HWe:=Lib.hid hWe;clear hWe;go_upto_region 4 with (refine wpList_store_row rfl 34 _ _ rfl (w4.heap.size) _ rfl rfl 34 _ Ne.out (by kernel_rfl) rfl (by simp [Value.oneCell']) ?_)
 rw [HWe.out];try simp only [Act.put]
 clear HWe Ne;obtain ⟨E,hE⟩:∃E,w4.heap.size=E:=⟨_,rfl⟩;rw [hE] at Re;rw [hE];clear hE;have HBF:=Lib.hid (below_then HB5.out HBe.out);obtain ⟨b,off,cap,rfl,hbl,k0,k1,k2,k3,k4,k5⟩:=(HS.out.below HBe.out).done 0 (by decide) (x:=⟨0,⟨1,-1,0,false,0⟩⟩) rfl;obtain ⟨b',off',cap',hve,-,m0,m1,m2,m3,m4,m5⟩:=(HS.out.below HBe.out).done 1 (by decide) (x:=⟨1,⟨2,-1,5,true,0⟩⟩) rfl;simp only [Value.slice.injEq,Option.some.injEq,Addr.mk.injEq] at hve;obtain ⟨⟨rfl,rfl,-⟩,-,rfl⟩:=hve;dsimp only at k1 m3;simp only [List.length_cons,List.length_nil] at *;simp only [Nat.zero_mul,Nat.add_zero,Nat.one_mul] at k1 m3;clear k0 k2 k3 k4 k5 m0 m1 m2 m4 m5;go_wp2
 all_goals (go_ret; exact ⟨rfl,HBF.out⟩)
theorem below_poke {w a b:World} {g:Nat} (h:Below w.heap.size w a) (hg:a.grownBy b (some g)) (hw:w.heap.size≤g):Below w.heap.size w b:=below_grown h hg hw
theorem DeskX.val {P:Nat→Prop} {w:World} {u:Value} {d:DeskM} (h:DeskX P w u d):∃pc nc kc aw kw,u=.agg #[.slice pc nc kc,.slice aw d.wait.length kw,.int .i64 d.tick]:=by
 obtain ⟨vc,vw,rfl,hc,hw⟩:=h;obtain ⟨pc,nc,kc,rfl⟩:=SlHX.sh hc;obtain ⟨aw,kw,rfl,-⟩:=hw.slW.len;exact ⟨_,_,_,_,_,rfl⟩
theorem Try.info_op7m:(Try.prog.info? 44).map (fun i=>(i.zero,i.size,i.bytes))=some (some (.agg #[.int .i64 0,.int .i64 0,.int .i64 0,.int .u64 0,.int .i64 0,.slice none 0 0,.slice none 0 0]),7,88):=by kernel_rfl
theorem getD_setM {α:Type} (l:List α) (i j:Nat) (x d:α):(l.set i x).getD j d=if i=j∧j<l.length then x else l.getD j d:=by
 rw [List.getD_eq_getElem?_getD,List.getD_eq_getElem?_getD,List.getElem?_set];by_cases h:i=j
 ·subst h
  by_cases h2:i<l.length
  ·simp [h2]
  ·simp [h2]
 ·simp [h]
theorem below_setCellsM {n b:Nat} {w:World} (hb:n≤b):∀(r:List Value) (o:Nat) (w':World),Below n w w'→Below n w (w'.setCells b o r)
 | [],_,_,h=>h
 | u :: r,o,w',h=>below_setCellsM hb r (o+1) _ (h.setCell (p:=⟨b,o,none⟩) hb u)
theorem doD_wait {d:DeskM} {thr:Int} {op:OpM}:∀x∈(doD d thr op).1.wait,x∈d.wait∨x=⟨thr,op⟩:=by
 intro x hx;have hl:∀k,x∈(leaveD d k).wait→x∈d.wait:=fun k h=>(leaveD_sub d k).subset h;unfold doD at hx;split at hx
 ·unfold shutE at hx
  split at hx
  ·exact .inl (List.mem_filter.1 (List.mem_filter.1 hx).1).1
  ·exact .inl hx
 ·split at hx
  ·exact .inl hx
  ·split at hx
   ·obtain ⟨c,hc⟩:∃c,(casesE op).getD (pickD d thr op).toNat noCase=c:=⟨_,rfl⟩
    rw [hc] at hx;have hx:x∈(doG d thr op (pickD d thr op) c).1.wait:=hx;unfold doG at hx;split at hx
    ·unfold sendG at hx
     split at hx
     ·exact .inl hx
     ·split at hx
      ·exact .inl (hl _ hx)
      ·exact .inl hx
    ·unfold recvG at hx
     split at hx
     ·split at hx
      ·exact .inl (hl _ hx)
      ·exact .inl hx
     ·split at hx
      ·exact .inl (hl _ hx)
      ·exact .inl hx
   ·split at hx
    ·exact .inl hx
    ·split at hx
     ·exact .inl hx
     ·rcases List.mem_append.1 hx with h | h
      ·exact .inl h
      ·exact .inr (List.mem_singleton.1 h)
structure MdK (c:ConfM) (d:DeskM):Prop where
 qt:Qt c.caps d
 inv:DInv d
 thr:∀x∈d.wait,0≤x.thr∧x.thr<c.threads
theorem MdK.start {c:ConfM} (h:c.good):MdK c ⟨nchE c.caps,[],0⟩:=
 ⟨new_qt c.caps fun x hx=>(h.caps x hx).1,⟨List.Pairwise.nil,fun x hx=>by simp at hx⟩,fun x hx=>by simp at hx⟩
theorem MdK.ticks {c:ConfM} {d:DeskM} (h:MdK c d) (n:Int):MdK c (tickD d n).1:=
 ⟨h.qt.tick n,h.inv.tick n,fun x hx=>h.thr x (by
  unfold tickD at hx;split at hx
  ·exact hx
  ·exact (List.mem_filter.1 hx).1)⟩
theorem MdK.does {c:ConfM} {d:DeskM} (h:MdK c d) {thr:Int} {op:OpM} (hw:waitsD d thr=false) (hg:op.good) (h0:0≤thr) (h1:thr<c.threads):MdK c (doD d thr op).1:=
 ⟨h.qt.does hg (waitsD_mem hw),h.inv.does op hw,fun x hx=>by
  rcases doD_wait x hx with hx | rfl
  ·exact h.thr x hx
  ·exact ⟨h0,h1⟩⟩
theorem DeskX.lits {P:Nat→Prop} {w:World} {pa qa:Option Addr} {na ka wa la:Nat} {t:Int} {d:DeskM} (h:DeskX P w (.agg #[.slice pa na ka,.slice qa wa la,.int .i64 t]) d):na=d.chans.length∧wa=d.wait.length∧SlH w (.slice pa na ka) d.chans∧SlW w (.slice qa wa la) d.wait:=by
 obtain ⟨vc,vw,e,hc,hw⟩:=h.deskV;simp only [Value.agg.injEq,Array.mk.injEq,List.cons.injEq] at e;obtain ⟨rfl,rfl,-⟩:=e;obtain ⟨a,cap,e2,-⟩:=hc.len;simp only [Value.slice.injEq] at e2;obtain ⟨a3,cap3,e3,-⟩:=hw.len;simp only [Value.slice.injEq] at e3;exact ⟨e2.2.1,e3.2.1,hc,hw⟩
def zOpL:List Value:=[.int .i64 0,.int .i64 0,.int .i64 0,.int .u64 0,.int .i64 0,.slice none 0 0,.slice none 0 0]
theorem zOpL_rows (n:Nat):Rows' 7 (List.replicate n zOpL):=fun r hr=>by
 rw [(List.mem_replicate.1 hr).2];refine ⟨rfl,fun u hu=>?_⟩;simp only [zOpL,List.mem_cons,List.not_mem_nil,or_false] at hu;rcases hu with rfl | rfl | rfl | rfl | rfl | rfl | rfl <;> rfl
theorem madeOp_flat:∀n:Nat,n≤8→(madeCells (Value.agg #[.int .i64 0,.int .i64 0,.int .i64 0,.int .u64 0,.int .i64 0,.slice none 0 0,.slice none 0 0]).cells (n * 7)).toList=(List.replicate n zOpL).flatten:=by
 intro n hn;rcases (show n=0∨n=1∨n=2∨n=3∨n=4∨n=5∨n=6∨n=7∨n=8 by omega) with rfl | rfl | rfl | rfl | rfl | rfl | rfl | rfl | rfl <;> kernel_rfl
theorem makeOp (n:Nat) (hn:n≤8) (w:World):∃w',(Instr.makeSlice 64 (.int .i64 (n:Int)) (.int .i64 (n:Int))).run Try.prog w=.ok (.slice (some ⟨w.heap.size,0,none⟩) n n) w'∧OwnS w' w.heap.size 44 7 (.slice (some ⟨w.heap.size,0,none⟩) n n) (List.replicate n zOpL)∧Below w.heap.size w w':=by
 obtain ⟨i0,hi,hz0,hz1,hz2⟩:=info_parts Try.info_op7m;obtain ⟨w',h1,h2,h3⟩:=run_makeSlice_full (P:=Try.prog) (w:=w) w.heap.size 64 44 i0 _ 7 (by kernel_rfl) hi hz0 hz1 .i64 .i64 n (by omega) (by rw [hz2]; omega) (by unfold maxLen; omega) (Nat.le_refl _);refine ⟨w',h1,⟨zOpL_rows n,?_⟩,below_none h3⟩;rw [List.length_replicate,← madeOp_flat n hn];exact h2
structure MdI (W wr:World) (B th:Nat) (ol:List OpM) (rows:List (List Value)):Prop where
 bw:Below W.heap.size W wr
 own:OwnS wr W.heap.size 44 7 (.slice (some ⟨B,0,none⟩) th th) rows
 rl:rows.length=th
 ll:ol.length=th
 fin:∀op∈ol,op.fine
 rd:∀i,i<th→∃vc vd,rows.getD i []=opRw (ol.getD i opZ) vc vd∧SlC W vc (ol.getD i opZ).cases∧SlI W .i64 vd (ol.getD i opZ).draws
theorem MdI.below {W wr w2:World} {B th:Nat} {ol:List OpM} {rows:List (List Value)} (h:MdI W wr B th ol rows) (hb:Below wr.heap.size wr w2):MdI W w2 B th ol rows:=
 ⟨below_then h.bw hb,h.own.below hb,h.rl,h.ll,h.fin,h.rd⟩
theorem setOp_keeps {d:DeskM} (hd:Dist d.wait) (h0:∀x∈d.wait,0≤x.thr) {ol:List OpM} {j t:Nat} (hj:j<d.wait.length) (ht:(wat d.wait j).thr=t) (hl:t<ol.length) (h:∀q,q<j→ol.getD (wat d.wait q).thr.toNat opZ=(wat d.wait q).op):∀q,q<j+1→(ol.set t (wat d.wait j).op).getD (wat d.wait q).thr.toNat opZ=(wat d.wait q).op:=fun q hq=>by
 rw [getD_setM];by_cases e:q=j
 ·subst e
  rw [if_pos ⟨by omega,by omega⟩]
 ·have hql:q<d.wait.length:=by omega
  have e1:wat d.wait q=d.wait[q]:=getD_lt hql;have e2:wat d.wait j=d.wait[j]:=getD_lt hj;have h1:=List.pairwise_iff_getElem.1 hd q j hql hj (by omega);have h2:=h0 _ (List.getElem_mem hql);have h3:=h0 _ (List.getElem_mem hj);rw [e2] at ht;rw [if_neg (fun h4=>h1 (by rw [e1] at h4; omega))];exact h q (by omega)
theorem ops_all {d:DeskM} (h0:∀x∈d.wait,0≤x.thr) {ol:List OpM} {t:Nat} {op:OpM} (hn:∀x∈d.wait,x.thr≠(t:Int)) (hl:t<ol.length) (h:∀q,q<d.wait.length→ol.getD (wat d.wait q).thr.toNat opZ=(wat d.wait q).op):opsL (ol.set t op) (t:Int)=op∧∀y∈d.wait,opsL (ol.set t op) y.thr=y.op:=by
 unfold opsL;refine ⟨by rw [getD_setM,if_pos ⟨by omega,by omega⟩],fun y hy=>?_⟩;have h2:=h0 y hy;have h3:=hn y hy;rw [getD_setM,if_neg (fun h4=>h3 (by omega))];obtain ⟨q,hq,rfl⟩:=List.mem_iff_getElem.1 hy;have e1:wat d.wait q=d.wait[q]:=getD_lt hq;rw [← e1];exact h q hq
theorem opZ_fine:opZ.fine:=⟨⟨by decide,by decide⟩,fun x hx=>by simp [opZ] at hx,by unfold casesE opZ; simp [oneB]⟩
theorem MdI.start {W w':World} {n:Nat} (h:OwnS w' W.heap.size 44 7 (.slice (some ⟨W.heap.size,0,none⟩) n n) (List.replicate n zOpL)) (hb:Below W.heap.size W w'):MdI W w' W.heap.size n (List.replicate n opZ) (List.replicate n zOpL):=
 ⟨hb,h,List.length_replicate,List.length_replicate,fun op hop=>by rw [(List.mem_replicate.1 hop).2]; exact opZ_fine,fun i hi=>by
  have e:(List.replicate n opZ).getD i opZ=opZ:=by simp [List.getD_eq_getElem?_getD,hi]
  refine ⟨.slice none 0 0,.slice none 0 0,by simp [List.getD_eq_getElem?_getD,hi]; rfl,?_,?_⟩
  ·rw [e]; exact SlC.nil _
  ·rw [e]; exact SlI.nil _ _⟩
theorem MdI.put {W wr:World} {B th i:Nat} {ol:List OpM} {rows:List (List Value)} (h:MdI W wr B th ol rows) (hi:i<th) {x:OpM} {vc vd:Value} (hx:x.fine) (hc:SlC W vc x.cases) (hd:SlI W .i64 vd x.draws) (h1:∀u∈opRw x vc vd,u.oneCell'=true):MdI W (wr.setCells B (i * 7) (opRw x vc vd)) B th (ol.set i x) (rows.set i (opRw x vc vd)):=by
 have hB:W.heap.size≤B:=(h.own.lt B rfl).1;refine ⟨?_,h.own.setRow i (by rw [h.rl]; exact hi) rfl h1,by rw [List.length_set,h.rl],by rw [List.length_set,h.ll],fun op hop=>?_,fun j hj=>?_⟩
 ·exact below_setCellsM hB _ _ _ h.bw
 ·rcases List.mem_or_eq_of_mem_set hop with h2 | rfl
  ·exact h.fin op h2
  ·exact hx
 ·by_cases e:i=j
  ·subst e
   have e1:(ol.set i x).getD i opZ=x:=by rw [getD_setM]; simp [h.ll,hi]
   have e2:(rows.set i (opRw x vc vd)).getD i []=opRw x vc vd:=by rw [getD_setM]; simp [h.rl,hi]
   rw [e1,e2];exact ⟨vc,vd,rfl,hc,hd⟩
  ·have e1:(ol.set i x).getD j opZ=ol.getD j opZ:=by rw [getD_setM]; simp [e]
   have e2:(rows.set i (opRw x vc vd)).getD j []=rows.getD j []:=by rw [getD_setM]; simp [e]
   rw [e1,e2];exact h.rd j hj
theorem MdI.slOp {W wr:World} {B th:Nat} {ol:List OpM} {rows:List (List Value)} (h:MdI W wr B th ol rows) (ht:th≤1000):SlOp wr (.slice (some ⟨B,0,none⟩) th th) ol:=by
 refine ⟨rows,by rw [h.rl,h.ll],h.own.sls (by rw [h.rl]; omega),fun i hi=>?_⟩;obtain ⟨vc,vd,e,h1,h2⟩:=h.rd i (by rw [← h.ll]; exact hi);exact ⟨vc,vd,e,h1.below h.bw,h2.below h.bw⟩
set_option maxRecDepth 100000 in
set_option maxHeartbeats 16000000 in
theorem insEndB_any (base:Nat) (v vx:Value) (rows rows2:List (List Value)) (w:World) (ho:OwnS w base 75 6 v rows) (hx:SlS w 6 vx rows2) (h1:rows.length≤100000) (h2:0<rows2.length) (h3:rows2.length≤100000) (hb:base≤w.heap.size):Calls Try.prog 79 #[v,.int .i64 (rows.length:Int),vx] w fun e w'=>∃v',e=.returned v'∧OwnS w' base 75 6 v' (rows ++ rows2)∧w.grownBy w' v.ownBlock∧(v'.ownBlock=v.ownBlock∨v'.ownBlock=some w.heap.size):=by
 have HO:=Lib.hid ho;obtain ⟨v',w',hrun,ho2,hg2,hon⟩:=run_app_ss w 37 37 (by kernel_rfl) Try.info_done rfl (by decide) (by decide) ho hx (by omega) hb;have hsh:∃a c,v=.slice a rows.length c∧rows.length≤c:=by
  rcases ho.shape with ⟨rfl,rfl⟩ | ⟨g,c,e,-,-,hc⟩
  ·exact ⟨none,0,rfl,Nat.le_refl _⟩
  ·exact ⟨_,c,e,hc⟩
 obtain ⟨a,c,rfl,hc⟩:=hsh;obtain ⟨b,d,rfl,-⟩:=hx.len;obtain ⟨n,hn⟩:∃z,rows.length=z:=⟨_,rfl⟩;obtain ⟨m,hm⟩:∃z,rows2.length=z:=⟨_,rfl⟩;obtain ⟨TQ,hTQ⟩:∃z:Ending→World→Prop,(fun e w'=>∃v',e=.returned v'∧OwnS w' base 75 6 v' (rows ++ rows2)∧w.grownBy w' (Value.slice a rows.length c).ownBlock∧(v'.ownBlock=(Value.slice a rows.length c).ownBlock∨v'.ownBlock=some w.heap.size))=z:=⟨_,rfl⟩;have HT:Hid (TQ (.returned v') w'):=by rw [← hTQ]; exact ⟨_,rfl,ho2,hg2,hon⟩
 rw [hTQ];rw [hn,hm] at hrun;rw [hn] at hc ⊢;rw [hm] at h2 ⊢;have hHR:=Lib.hid hrun;have hnc:(n:Int)≤(c:Int):=by omega
 have hm0:¬(m:Int)=0:=by omega
 clear ho hx hrun ho2 hg2 hon hn hm hTQ HO;go_enter Try.func79,Try.ntmps79;go_wp2_with (at_builtin; refine Lib.wpList_append_run _ rfl _ _ _ _ rfl _ _ rfl rfl _ _ hHR.out ?_)
 all_goals exact HT.out
set_option maxRecDepth 100000 in
set_option maxHeartbeats 16000000 in
theorem insRoomB_any (base g vb c i:Nat) (rows:List (List Value)) (r:List Value) (w:World) (ho:OwnS w base 75 6 (.slice (some ⟨g,0,none⟩) rows.length c) rows) (hi:i<rows.length) (hr:r.length=6) (hr1:∀u∈r,u.oneCell'=true) (hvb:w.heap[vb]?=some (.cells r.toArray 75 (0,0))) (hne:vb≠g) (hroom:rows.length+1≤c) :
  Calls Try.prog 79 #[.slice (some ⟨g,0,none⟩) rows.length c,.int .i64 (i:Int),.slice (some ⟨vb,0,none⟩) 1 1] w fun e w'=>∃v',e=.returned v'∧OwnS w' base 75 6 v' (rows.take i ++ [r] ++ rows.drop i)∧w.grownBy w' (some g)∧(v'.ownBlock=some g∨v'.ownBlock=some w.heap.size):=by
 obtain ⟨hrw,hxl,hor⟩:=ho;rcases hor with ⟨h,-⟩ | ⟨g',c',cur,he,hbg,hg,hnc,hcm,hcs,hct⟩
 ·simp at h
 simp only [Value.slice.injEq,Option.some.injEq,Addr.mk.injEq] at he;obtain ⟨⟨rfl,-,-⟩,-,rfl⟩:=he;obtain ⟨n,hn⟩:∃n,rows.length=n:=⟨_,rfl⟩;obtain ⟨xs,hxs⟩:∃xs,rows.flatten=xs:=⟨_,rfl⟩;rw [hn,hxs] at hxl hct;rw [hn] at hi hnc hroom ⊢;have hx1:∀u∈xs,u.oneCell'=true:=fun u hu=>by
  rw [← hxs] at hu;obtain ⟨r2,h2,h3⟩:=List.mem_flatten.1 hu;exact (hrw r2 h2).2 u h3
 have hsz:(Try.prog.info? 75).map (·.size)=some 6:=by
  obtain ⟨i0,hi0,h0,h1,h2⟩:=info_parts Try.info_dn2;rw [hi0]; simp [h1]
 have hzz:∀w,(Go.sizeOf 75).run Try.prog w=.ok 6 w:=fun w=>by
  obtain ⟨i0,hi0,h0,h1,h2⟩:=info_parts Try.info_dn2;simp [Go.sizeOf,typeInfo,hi0,h1]
 have hu:Try.prog.underlying 37=some (.slice 75):=by kernel_rfl
 have hcell:∀j v,xs[j]?=some v→w.cell? ⟨g,j,none⟩=some v:=fun j v h=>by
  have hj:=(List.getElem?_eq_some_iff.1 h).1;rw [← hct,List.getElem?_take] at h;split at h
  ·rw [cell_of_row _ _ j _ _ _ hg]; simpa using h
  ·cases h
 have hrc:∀j v,r[j]?=some v→w.cell? ⟨vb,j,none⟩=some v:=fun j v h=>by rw [cell_of_row _ _ j _ _ _ hvb]; simpa using h
 have hdl:(xs.drop (i * 6)).length=(n - i) * 6:=by rw [List.length_drop,hxl,Nat.sub_mul]
 have hcl:cur.toList.length=c * 6:=by simpa using hcs
 obtain ⟨cur1,hcur1⟩:∃z:List Value,cur.toList.take ((i+1) * 6) ++ xs.drop (i * 6) ++ cur.toList.drop ((i+1) * 6+(xs.drop (i * 6)).length)=z:=⟨_,rfl⟩;have hc1l:cur1.length=c * 6:=by
  rw [← hcur1,List.length_append,List.length_append,List.length_take,hdl,List.length_drop,hcl];omega
 have hcp1:∀ty dc sc,(Builtin.copy_ #[37,37] ty #[.slice (some ⟨g,(i+1) * 6,none⟩) (n - i) dc,.slice (some ⟨g,i * 6,none⟩) (n+1 - i) sc]).run Try.prog w.drew=.ok (goInt ((n - i:Nat):Int)) (w.drew.setRow g cur1.toArray):=fun ty dc sc=>by
  have hm:Nat.min (n+1 - i) (n - i)=n - i:=by simp only [Nat.min_def]; split <;> omega
  have h:=run_copy_wide w.drew 37 37 ty 75 g ((i+1) * 6) (n - i) dc 6 ⟨g,i * 6,none⟩ (n+1 - i) sc cur _ (xs.drop (i * 6)) hu hsz hg (by rw [hdl,hm])
   (fun j v hj=>by rw [Addr.add_lit]; exact hcell (i * 6+j) v (by rwa [List.getElem?_drop] at hj)) (by rw [hdl,hcs]; omega) (fun v hv=>hx1 v (List.mem_of_mem_drop hv))
  rw [hm,hcur1] at h;exact h
 have hg1:(w.drew.setRow g cur1.toArray).heap[g]?=some (.cells cur1.toArray 75 (0,0)):=setRow_heap _ _ _ _ _ (0,0) hg;obtain ⟨W1,hW1⟩:∃W1,w.drew.setRow g cur1.toArray=W1:=⟨_,rfl⟩;have hvb1:W1.heap[vb]?=some (.cells r.toArray 75 (0,0)):=by rw [← hW1]; exact (setRow_other _ _ _ _ hne).trans hvb
 have hgr1:w.grownBy W1 (some g):=by rw [← hW1]; exact ⟨rfl,rfl,rfl,(row_grown w.drew g cur1.toArray).size,(row_grown w.drew g cur1.toArray).block⟩
 rw [hW1] at hcp1 hg1;have hcp2:∀(W:World),W.heap=W1.heap→∀ty dc,(Builtin.copy_ #[37,37] ty #[.slice (some ⟨g,i * 6,none⟩) (n+1 - i) dc,.slice (some ⟨vb,0,none⟩) 1 1]).run Try.prog W=.ok (goInt 1) (W.setRow g (cur1.take (i * 6) ++ r ++ cur1.drop (i * 6+r.length)).toArray):=fun W hWh ty dc=>by
  have hm:Nat.min 1 (n+1 - i)=1:=by simp only [Nat.min_def]; split <;> omega
  have h:=run_copy_wide W 37 37 ty 75 g (i * 6) (n+1 - i) dc 6 ⟨vb,0,none⟩ 1 1 cur1.toArray _ r hu hsz (by rw [hWh]; exact hg1) (by rw [hr,hm])
   (fun j v hj=>by rw [Addr.add_lit,cell_of_row _ _ (0+j) _ _ _ (by rw [hWh]; exact hvb1)]; simpa using hj) (by rw [hr]; simp; omega) hr1
  rw [hm] at h;exact h
 have hov:∀lb cb,(callFunc 99 #[.slice (some ⟨vb,0,none⟩) 1 1,.slice (some ⟨g,(i+1) * 6,none⟩) lb cb]).run Try.prog w=.ok (.value (.bool false)) w:=fun lb cb=>by
  rw [run_callFunc_extern Try.func99 (by kernel_rfl) (by kernel_rfl) (by kernel_rfl) (e:=Extern.SlicesOverlaps.overlaps #[37,37] #[4]) (by kernel_rfl),
   Lib.run_overlaps_apart w 37 4 75 hu 6 hzz ⟨vb,0,none⟩ ⟨g,(i+1) * 6,none⟩ 1 1 lb cb hne 75 75 6 (c * 6) (by simp [World.shape?,hvb,hr]) (by simp [World.shape?,hg,hcs]) (by omega) (by simp [World.frozen?,hvb]) (by simp [World.frozen?,hvb])]
  rfl
 obtain ⟨W2,hW2⟩:∃W2,W1.setRow g (cur1.take (i * 6) ++ r ++ cur1.drop (i * 6+r.length)).toArray=W2:=⟨_,rfl⟩;have hg2:W2.heap[g]?=some (.cells (cur1.take (i * 6) ++ r ++ cur1.drop (i * 6+r.length)).toArray 75 (0,0)):=by rw [← hW2]; exact setRow_heap _ _ _ _ _ (0,0) hg1
 have hgr2:w.grownBy W2 (some g):=by rw [← hW2]; exact grownBy_trans hgr1 (row_grown W1 g _)
 have hfl:(rows.take i ++ [r] ++ rows.drop i).flatten=xs.take (i * 6) ++ r ++ xs.drop (i * 6):=by
  have h1:(rows.take i).flatten.length=i * 6:=by rw [flatS_length (s:=6) _ (fun q hq=>hrw q (List.mem_of_mem_take hq)),List.length_take]; congr 1; omega
  have h2:xs=(rows.take i).flatten ++ (rows.drop i).flatten:=by rw [← hxs,← List.flatten_append,List.take_append_drop]
  rw [h2,List.take_left' h1,List.drop_left' h1];simp
 have hown:OwnS W2 base 75 6 (.slice (some ⟨g,0,none⟩) (n+1) c) (rows.take i ++ [r] ++ rows.drop i):=by
  have hlen:(rows.take i ++ [r] ++ rows.drop i).length=n+1:=by simp; omega
  refine ⟨fun q hq=>?_,?_⟩
  ·rcases List.mem_append.1 hq with h | h
   ·rcases List.mem_append.1 h with h | h
    ·exact hrw q (List.mem_of_mem_take h)
    ·rw [List.mem_singleton.1 h]; exact ⟨hr,hr1⟩
   ·exact hrw q (List.mem_of_mem_drop h)
  ·rw [hlen,hfl]
   refine ⟨by simp [hr]; omega,.inr ⟨g,c,_,rfl,hbg,hg2,hroom,hcm,?_,?_⟩⟩
   ·simp [hr,hc1l]; omega
   ·have h:=take_mid xs r cur.toList (i * 6) (c * 6) 6 hr (by omega) (by omega) (by rw [hxl]; exact hct) (by omega)
    rw [show i * 6+6=(i+1) * 6 by omega,hcur1,hxl,show n * 6+6=(n+1) * 6 by omega] at h;simpa using h
 obtain ⟨TQ,hTQ⟩:∃z:Ending→World→Prop,(fun e w'=>∃v',e=.returned v'∧OwnS w' base 75 6 v' (rows.take i ++ [r] ++ rows.drop i)∧w.grownBy w' (some g)∧(v'.ownBlock=some g∨v'.ownBlock=some w.heap.size))=z:=⟨_,rfl⟩;have HT:Hid (TQ (.returned (.slice (some ⟨g,0,none⟩) (n+1) c)) W2):=by rw [← hTQ]; exact ⟨_,rfl,hown,hgr2,.inl rfl⟩
 have HC2:=Lib.hid hcp2;have HW2:=Lib.hid hW2;rw [hTQ];have hw1:IntKind.i64.wrap ((i:Int)+1)=(i:Int)+1:=by rw [IntKind.wrap_i64]; unfold maxLen at hcm; omega
 have hw2:IntKind.i64.wrap ((n:Int)+1)=(n:Int)+1:=by rw [IntKind.wrap_i64]; unfold maxLen at hcm; omega
 have hz2:¬((i:Int)=(n:Int)):=by omega
 have hin:i≤n:=by omega
 have mixed:Try.prog.follows .mixedOrders=true:=by kernel_rfl
 have hb1:(0:Int)≤(i:Int)+1:=by omega
 have htn:((i:Int)+1).toNat=i+1:=by omega
 have hb2:¬(c=i+1):=by omega
 have hb3:(i:Int)≤(n:Int)+1:=by omega
 have hb4:¬(c=i):=by omega
 have HW1:=Lib.hid hW1;have HCP1:=Lib.hid hcp1;clear hown hgr2 hfl hg2 hgr1 hvb1 hg1 hcp1 hcp2 hc1l hcur1 hcl hdl hrc hcell hu hzz hsz hx1 hct hxl hxs hrw hg hcs hcm hTQ hW2 hW1 hvb hr1 hn hbg;go_enter Try.func79,Try.ntmps79;go_wp2_with (simp only [hov]);have hcp1:=HCP1.out;go_region_law_o (refine step_copy_runI rfl _ _ 37 37 rfl _ _ (by simp [Act.eval,Act.put]) (by simp [Act.eval,Act.put]) (hcp1 _ _ _) ?_);clear hcp1;have hc2:=HC2.out _ rfl;rw [HW2.out] at hc2;go_wp2_with fail;exact HT.out
set_option maxRecDepth 100000 in
set_option maxHeartbeats 16000000 in
theorem insGrowB_any (base g vb c i:Nat) (rows:List (List Value)) (r:List Value) (w:World) (ho:OwnS w base 75 6 (.slice (some ⟨g,0,none⟩) rows.length c) rows) (hi:i<rows.length) (hr:r.length=6) (hr1:∀u∈r,u.oneCell'=true) (hvb:w.heap[vb]?=some (.cells r.toArray 75 (0,0))) (hroom:¬rows.length+1≤c) (hbw:base≤w.heap.size) (hsm:rows.length≤100000) :
  Calls Try.prog 79 #[.slice (some ⟨g,0,none⟩) rows.length c,.int .i64 (i:Int),.slice (some ⟨vb,0,none⟩) 1 1] w fun e w'=>∃v',e=.returned v'∧OwnS w' base 75 6 v' (rows.take i ++ [r] ++ rows.drop i)∧w.grownBy w' (some g)∧(v'.ownBlock=some g∨v'.ownBlock=some w.heap.size):=by
 obtain ⟨hrw,hxl,hor⟩:=ho;rcases hor with ⟨h,-⟩ | ⟨g',c',cur,he,hbg,hg,hnc,hcm,hcs,hct⟩
 ·simp at h
 simp only [Value.slice.injEq,Option.some.injEq,Addr.mk.injEq] at he;obtain ⟨⟨rfl,-,-⟩,-,rfl⟩:=he;obtain ⟨n,hn⟩:∃n,rows.length=n:=⟨_,rfl⟩;obtain ⟨xs,hxs⟩:∃xs,rows.flatten=xs:=⟨_,rfl⟩;rw [hn,hxs] at hxl hct;rw [hn] at hi hnc hroom hsm ⊢;have hcn:c=n:=by omega
 subst hcn;have hx1:∀u∈xs,u.oneCell'=true:=fun u hu=>by
  rw [← hxs] at hu;obtain ⟨r2,h2,h3⟩:=List.mem_flatten.1 hu;exact (hrw r2 h2).2 u h3
 obtain ⟨i0,hi0,hz0,hz1,hz2⟩:=info_parts Try.info_dn2;have hsz:(Try.prog.info? 75).map (·.size)=some 6:=by rw [hi0]; simp [hz1]
 have hu:Try.prog.underlying 37=some (.slice 75):=by kernel_rfl
 have hui:Try.prog.underlying 3=some (.int .i64):=by kernel_rfl
 have hcell:∀j v,xs[j]?=some v→w.cell? ⟨g,j,none⟩=some v:=fun j v h=>by
  have hj:=(List.getElem?_eq_some_iff.1 h).1;rw [← hct,List.getElem?_take] at h;split at h
  ·rw [cell_of_row _ _ j _ _ _ hg]; simpa using h
  ·cases h
 have hgw:g<w.heap.size:=(Array.getElem?_eq_some_iff.1 hg).1;have hvw:vb<w.heap.size:=(Array.getElem?_eq_some_iff.1 hvb).1;have hdl:(xs.drop (i * 6)).length=(c - i) * 6:=by rw [List.length_drop,hxl,Nat.sub_mul]
 have hold:(Builtin.firstCells i0.size i (.slice (some ⟨g,0,none⟩) i c)).run Try.prog w.drew=.ok (xs.take (i * 6)).toArray w.drew:=by
  rw [hz1];exact run_firstCells_some w.drew 6 i ⟨g,0,none⟩ i c (xs.take (i * 6)) (by rw [List.length_take]; omega) (fun j v hj=>by
   rw [Addr.add_lit];rw [List.getElem?_take] at hj;split at hj
   ·rw [Nat.zero_add]; exact hcell j v hj
   ·cases hj)
 obtain ⟨G,hG⟩:∃G,G=grownCap w (c+1) c 75:=⟨_,rfl⟩;obtain ⟨Z,hZ⟩:∃Z:Array Value,Z=Builtin.zeroCells (Value.agg #[.int .i64 0,.int .i64 0,.int .i64 0,.int .u64 0,.bool false,.int .i64 0]).cells (c+1 - i) ++ Builtin.zeroCells (Value.agg #[.int .i64 0,.int .i64 0,.int .i64 0,.int .u64 0,.bool false,.int .i64 0]).cells (G - (c+1)):=⟨_,rfl⟩;have hGn:c+1≤G:=by rw [hG]; exact grownCap_ge w _ _ _
 have hGm:G≤maxLen:=by rw [hG]; exact grownCap_le_maxLen w _ _ _ (by unfold maxLen; omega)
 have hZl:Z.size=(G - i) * 6:=by
  rw [hZ];simp [Builtin.zeroCells,Value.cells];omega
 obtain ⟨N,hN⟩:∃N,w.heap.size=N:=⟨_,rfl⟩;have hrz:∀ty,(Builtin.append_ #[37,3] ty #[.slice (some ⟨g,0,none⟩) i c,.int .i64 ((c:Int)+1 - (i:Int))]).run Try.prog w =
   .ok (.slice (some ⟨N,0,none⟩) (c+1) G) (w.drew.alloc (.cells ((xs.take (i * 6)) ++ Z.toList).toArray 75)):=fun ty=>by
  have h:=Lib.run_append_grow_zeros w 37 3 ty 75 i0 _ .i64 .i64 hu hui hi0 hz0 (some ⟨g,0,none⟩) i c (xs.take (i * 6)) hold (c+1 - i) (by omega) (by omega) (by omega) (by omega) (by rw [hz2]; omega) (by rw [hz2,show i+(c+1 - i)=c+1 by omega]; exact growslice_fits (by omega) (by omega));rw [show i+(c+1 - i)=c+1 by omega,← hG,hN] at h;rw [show (c:Int)+1 - (i:Int)=((c+1 - i:Nat):Int) by omega,h,hZ,← hN];congr 3;simp [Array.append_assoc]
 obtain ⟨W0,hW0⟩:∃W0,w.drew.alloc (.cells ((xs.take (i * 6)) ++ Z.toList).toArray 75)=W0:=⟨_,rfl⟩;have hb0:Below w.heap.size w W0:=by rw [← hW0]; exact ⟨rfl,rfl,rfl,(below_new (Below.refl w.drew.heap.size w.drew) _).size,(below_new (Below.refl w.drew.heap.size w.drew) _).block⟩
 have h0:W0.heap[N]?=some (.cells ((xs.take (i * 6)) ++ Z.toList).toArray 75 (0,0)):=by rw [← hW0,← hN]; exact heap_alloc_new w.drew _
 rw [hW0] at hrz;have hvb0:W0.heap[vb]?=some (.cells r.toArray 75 (0,0)):=(hb0.block _ hvw).trans hvb;have hg0:W0.heap[g]?=some (.cells cur 75 (0,0)):=(hb0.block _ hgw).trans hg;have htl:(xs.take (i * 6)).length=i * 6:=by rw [List.length_take]; omega
 obtain ⟨cur1,hcur1⟩:∃z:List Value,((xs.take (i * 6)) ++ Z.toList).take (i * 6) ++ r ++ ((xs.take (i * 6)) ++ Z.toList).drop (i * 6+r.length)=z:=⟨_,rfl⟩;have hc1l:cur1.length=G * 6:=by
  rw [← hcur1];simp [htl,hr,hZl];omega
 have hcpA:∀(W:World),W.heap=W0.heap→∀ty dc,(Builtin.copy_ #[37,37] ty #[.slice (some ⟨N,i * 6,none⟩) (c+1 - i) dc,.slice (some ⟨vb,0,none⟩) 1 1]).run Try.prog W=.ok (goInt 1) (W.setRow N cur1.toArray):=fun W hWh ty dc=>by
  have hm:Nat.min 1 (c+1 - i)=1:=by simp only [Nat.min_def]; split <;> omega
  have h:=run_copy_wide W 37 37 ty 75 N (i * 6) (c+1 - i) dc 6 ⟨vb,0,none⟩ 1 1 _ _ r hu hsz (by rw [hWh]; exact h0) (by rw [hr,hm])
   (fun j v hj=>by rw [Addr.add_lit,cell_of_row _ _ (0+j) _ _ _ (by rw [hWh]; exact hvb0)]; simpa using hj) (by rw [hr]; simp [htl,hZl]; omega) hr1
  rw [hm,hcur1] at h;exact h
 obtain ⟨cur2,hcur2⟩:∃z:List Value,cur1.take ((i+1) * 6) ++ xs.drop (i * 6) ++ cur1.drop ((i+1) * 6+(xs.drop (i * 6)).length)=z:=⟨_,rfl⟩;have hc2l:cur2.length=G * 6:=by
  rw [← hcur2,List.length_append,List.length_append,List.length_take,hdl,List.length_drop,hc1l];omega
 have hcpB:∀(W:World),W.heap=(W0.setRow N cur1.toArray).heap→∀ty dc sc,(Builtin.copy_ #[37,37] ty #[.slice (some ⟨N,(i+1) * 6,none⟩) (c - i) dc,.slice (some ⟨g,i * 6,none⟩) (c - i) sc]).run Try.prog W=.ok (goInt ((c - i:Nat):Int)) (W.setRow N cur2.toArray):=fun W hWh ty dc sc=>by
  have hm:Nat.min (c - i) (c - i)=c - i:=Nat.min_self _;have hgW:W.heap[g]?=some (.cells cur 75 (0,0)):=by rw [hWh]; exact (setRow_other _ _ _ _ (by omega)).trans hg0
  have h:=run_copy_wide W 37 37 ty 75 N ((i+1) * 6) (c - i) dc 6 ⟨g,i * 6,none⟩ (c - i) sc _ _ (xs.drop (i * 6)) hu hsz (by rw [hWh]; exact setRow_heap _ _ _ _ _ (0,0) h0) (by rw [hdl,hm])
   (fun j v hj=>by
    rw [List.getElem?_drop,← hct,List.getElem?_take] at hj;split at hj
    ·rw [Addr.add_lit,cell_of_row _ _ (i * 6+j) _ _ _ hgW]; simpa using hj
    ·cases hj) (by rw [hdl]; simp [hc1l]; omega) (fun v hv=>hx1 v (List.mem_of_mem_drop hv))
  rw [hm,List.toList_toArray,hcur2] at h;exact h
 have hfl:(rows.take i ++ [r] ++ rows.drop i).flatten=xs.take (i * 6) ++ r ++ xs.drop (i * 6):=by
  have h1:(rows.take i).flatten.length=i * 6:=by rw [flatS_length (s:=6) _ (fun q hq=>hrw q (List.mem_of_mem_take hq)),List.length_take]; congr 1; omega
  have h2:xs=(rows.take i).flatten ++ (rows.drop i).flatten:=by rw [← hxs,← List.flatten_append,List.take_append_drop]
  rw [h2,List.take_left' h1,List.drop_left' h1];simp
 have hown:∀W:World,W.heap[N]?=some (.cells cur2.toArray 75 (0,0))→OwnS W base 75 6 (.slice (some ⟨N,0,none⟩) (c+1) G) (rows.take i ++ [r] ++ rows.drop i):=fun W hWN=>by
  have hlen:(rows.take i ++ [r] ++ rows.drop i).length=c+1:=by simp; omega
  refine ⟨fun q hq=>?_,?_⟩
  ·rcases List.mem_append.1 hq with h | h
   ·rcases List.mem_append.1 h with h | h
    ·exact hrw q (List.mem_of_mem_take h)
    ·rw [List.mem_singleton.1 h]; exact ⟨hr,hr1⟩
   ·exact hrw q (List.mem_of_mem_drop h)
  ·rw [hlen,hfl]
   refine ⟨by simp [hr]; omega,.inr ⟨N,G,_,rfl,by omega,hWN,hGn,hGm,by simp [hc2l],?_⟩⟩;have h:=take_grow xs r Z.toList (i * 6) 6 hr (by omega) (by simp [hZl]; omega);rw [hcur1,show i * 6+6=(i+1) * 6 by omega,hcur2,hxl,show c * 6+6=(c+1) * 6 by omega] at h;simpa using h
 obtain ⟨TQ,hTQ⟩:∃z:Ending→World→Prop,(fun e w'=>∃v',e=.returned v'∧OwnS w' base 75 6 v' (rows.take i ++ [r] ++ rows.drop i)∧w.grownBy w' (some g)∧(v'.ownBlock=some g∨v'.ownBlock=some w.heap.size))=z:=⟨_,rfl⟩;have HT:Hid (∀W:World,W.os=w.os→W.tape=w.tape→W.output=w.output→W.heap=((W0.setRow N cur1.toArray).setRow N cur2.toArray).heap→TQ (.returned (.slice (some ⟨N,0,none⟩) (c+1) G)) W):=fun W ha hb hc hd=>by
  rw [← hTQ];have hBB:=row_below (row_below hb0 (show w.heap.size≤N by omega) cur1.toArray) (show w.heap.size≤N by omega) cur2.toArray;exact ⟨_,rfl,hown W (by rw [hd]; exact setRow_heap _ _ _ _ _ (0,0) (setRow_heap _ _ _ _ _ (0,0) h0)),⟨ha,hb,hc,by rw [hd]; exact hBB.size,fun k hk hk2=>by rw [hd]; exact hBB.block k hk⟩,.inr (by rw [hN]; rfl)⟩
 have HOS:Hid (W0.os=w.os∧W0.tape=w.tape∧W0.output=w.output):=⟨hb0.os,hb0.tape,hb0.output⟩;have HA:=Lib.hid hcpA;have HB2:=Lib.hid hcpB;have HZ:=Lib.hid hrz;rw [hTQ];have hw1:IntKind.i64.wrap ((i:Int)+1)=(i:Int)+1:=by rw [IntKind.wrap_i64]; omega
 have hw2:IntKind.i64.wrap ((c:Int)+1)=(c:Int)+1:=by rw [IntKind.wrap_i64]; omega
 have hw3:IntKind.i64.wrap ((c:Int)+1 - (i:Int))=(c:Int)+1 - (i:Int):=by rw [IntKind.wrap_i64]; omega
 have hzz2:¬((i:Int)=(c:Int)):=by omega
 have hin:i≤c:=by omega
 have mixed:Try.prog.follows .mixedOrders=true:=by kernel_rfl
 have hb1:(0:Int)≤(i:Int)+1:=by omega
 have htn:((i:Int)+1).toNat=i+1:=by omega
 have hb2:¬(G=i+1):=by omega
 have hb3:(i:Int)≤(c:Int)+1:=by omega
 have hb4:¬(G=i):=by omega
 have hb5:¬(c=i):=by omega
 have hW1:(W0.setRow N cur1.toArray).heap=(W0.setRow N cur1.toArray).heap:=rfl;clear hown hfl hcpA hcpB hc2l hcur2 hc1l hcur1 htl hvb0 hg0 h0 hb0 hW0 hrz hZl hGm hZ hG hold hdl hcell hu hui hsz hx1 hct hxl hxs hrw hg hcs hcm hTQ hvb hr1 hn hbg hi0 hz0 hz1 hz2 hN hW1;go_enter Try.func79,Try.ntmps79;have hcA:=HA.out _ rfl;go_wp2_with (at_builtin; refine Lib.wpList_append_run _ rfl _ _ _ _ rfl _ _ rfl rfl _ _ (HZ.out _) ?_);trace_state
 have hcB:=HB2.out (W0.setRow N cur1.toArray).drew rfl;go_region_law_o (refine step_copy_runI rfl _ _ 37 37 rfl _ _ (by simp [Act.eval,Act.put]) (by simp [Act.eval,Act.put]) (hcB _ _ _) ?_);obtain ⟨q1,q2,q3⟩:=HOS.out;have HF:=Lib.hid (HT.out ((W0.setRow N cur1.toArray).drew.setRow N cur2.toArray) q1 q2 q3 rfl);clear hcA hcB q1 q2 q3;go_wp2_with fail;exact HF.out
theorem insB_any (base vb i:Nat) (v:Value) (rows:List (List Value)) (r:List Value) (w:World) (ho:OwnS w base 75 6 v rows) (hi:i≤rows.length) (hr:r.length=6) (hr1:∀u∈r,u.oneCell'=true) (hvb:w.heap[vb]?=some (.cells r.toArray 75 (0,0))) (hne:v.ownBlock≠some vb) (hsm:rows.length≤100000) (hbw:base≤w.heap.size) :
  Calls Try.prog 79 #[v,.int .i64 (i:Int),.slice (some ⟨vb,0,none⟩) 1 1] w fun e w'=>∃v',e=.returned v'∧OwnS w' base 75 6 v' (rows.take i ++ [r] ++ rows.drop i)∧w.grownBy w' v.ownBlock∧(v'.ownBlock=v.ownBlock∨v'.ownBlock=some w.heap.size):=by
 rcases Nat.lt_or_eq_of_le hi with hlt | rfl
 ·obtain ⟨g,c,rfl,h1,h2,h3⟩:=ho.open (by omega)
  by_cases hroom:rows.length+1≤c
  ·exact insRoomB_any base g vb c i rows r w ho hlt hr hr1 hvb (fun e=>hne (by rw [e]; rfl)) hroom
  ·exact insGrowB_any base g vb c i rows r w ho hlt hr hr1 hvb hroom hbw hsm
 ·rw [List.take_length,List.drop_length,List.append_nil]
  exact insEndB_any base v _ rows [r] w ho (SlS.row1 hvb hr hr1) hsm (by simp) (by simp) hbw
set_option maxRecDepth 100000 in
set_option maxHeartbeats 16000000 in
theorem withB_any (base:Nat) (v:Value) (l:List DoneM) (t:Int) (r:ResM) (w:World) (ho:OwnS w base 75 6 v (doneRows l)) (hl:l.length≤10000) (hs:Asc l) (hnt:∀x∈l,x.thr≠t) (hb:base≤w.heap.size):Calls Try.prog 50 #[v,.int .i64 t,resW r] w fun e w'=>∃v',e=.returned v'∧OwnS w' base 75 6 v' (doneRows (addE l t r))∧w.grownBy w' v.ownBlock∧(v'.ownBlock=v.ownBlock∨∃k,v'.ownBlock=some k∧w.heap.size≤k):=by
 have HO:=Lib.hid ho;have hll:=doneRows_length l;obtain ⟨a,c,rfl⟩:=ho.len;rw [hll];rw [hll] at HO;have TB:=Lib.hid fun w' (hb:Below w.heap.size w w')=>bsF_any (.slice a l.length c) l t w' ((HO.out.below hb).sls (by rw [hll]; omega)) (by omega) (fun i j=>hs.le i j);have HOL0:=ho.lt;rw [hll] at HOL0;have HOL:=Lib.hid HOL0;clear HOL0;have TI:=Lib.hid fun w' vb i r2 (hb2:Below w.heap.size w w') (hi:i≤l.length) h2 h3 h4 (h5:w.heap.size≤vb)=>insB_any base vb i (.slice a l.length c) (doneRows l) r2 w' (HO.out.below hb2) (by rw [hll]; exact hi) h2 h3 h4 (fun e=>by have:=(HOL.out vb e).2; omega) (by rw [hll]; omega) (Nat.le_trans hb hb2.size);obtain ⟨k1,k2,k3,k4,k5⟩:=r;unfold resW;dsimp only;obtain ⟨TQ,hTQ⟩:∃z:Ending→World→Prop,(fun e w'=>∃v',e=.returned v'∧OwnS w' base 75 6 v' (doneRows (addE l t ⟨k1,k2,k3,k4,k5⟩))∧w.grownBy w' (Value.slice a l.length c).ownBlock∧(v'.ownBlock=(Value.slice a l.length c).ownBlock∨∃k,v'.ownBlock=some k∧w.heap.size≤k))=z:=⟨_,rfl⟩;have HT:Hid (∀w1 w2 v' (i:Nat),i≤l.length→(∀j,j<i→(l.getD j doneZ).thr<t)→(∀j,i≤j→j<l.length→t≤(l.getD j doneZ).thr)→Below w.heap.size w w1→w1.grownBy w2 (Value.slice a l.length c).ownBlock→OwnS w2 base 75 6 v' ((doneRows l).take i ++ [[.int .i64 t,.int .i64 k1,.int .i64 k2,.int .u64 k3,.bool k4,.int .i64 k5]] ++ (doneRows l).drop i)→(v'.ownBlock=(Value.slice a l.length c).ownBlock∨v'.ownBlock=some w1.heap.size)→TQ (.returned v') w2):=fun w1 w2 v' i hi h1 h2 h3 h4 h5 h6=>by rw [← hTQ]; exact ⟨_,rfl,by rw [addE_rows,addK_eq hs hi h1 h2 hnt]; exact h5,grownBy_trans (grown_belowD h3) h4,h6.imp id fun h=>⟨_,h,h3.size⟩⟩
 rw [hTQ];obtain ⟨n,hn⟩:∃z,l.length=z:=⟨_,rfl⟩;have HN:=Lib.hid hn;rw [hn] at TB TI hl ⊢;rw [hn] at HT;clear ho hs hnt hb hn hll hTQ HO HOL;obtain ⟨W,hW,HB,R0,hz⟩:=one_new w (.cells #[.int .i64 k1,.int .i64 k2,.int .u64 k3,.bool k4,.int .i64 k5] 73);have HW:=Lib.hid hW;clear hW;go_enter Try.func50,Try.ntmps50;go_upto_region 1 with fail
 rw [HW.out];clear HW;obtain ⟨x0_0,x0_1,x0_2,x0_3,x0_4⟩:=rowc5s R0.out;go_wp2_with fail;refine (TB.out _ HB.out).mono ?_;rintro e w1 ⟨i,f,rfl,hi,hi1,hi2,hb1⟩;rw [HN.out] at hi;have HI1:=Lib.hid hi1;have HI2:=Lib.hid hi2;have R1:=Lib.hid (row_below3 hb1 R0.out);have HB1:=Lib.hid (below_then HB.out hb1);clear x0_0 x0_1 x0_2 x0_3 x0_4 TB hi1 hi2 hb1;obtain ⟨x0,x1,x2,x3,x4⟩:=rowc5s R1.out;have hbn:Below w1.heap.size w1 (w1.alloc (.cells #[.int .i64 t,.int .i64 k1,.int .i64 k2,.int .u64 k3,.bool k4,.int .i64 k5] 75)):=below_new (Below.refl _ _) _;have HBn:=Lib.hid (below_then HB1.out hbn);have HVB:Hid ((w1.alloc (.cells #[.int .i64 t,.int .i64 k1,.int .i64 k2,.int .u64 k3,.bool k4,.int .i64 k5] 75)).heap[w1.heap.size]?=some (.cells #[.int .i64 t,.int .i64 k1,.int .i64 k2,.int .u64 k3,.bool k4,.int .i64 k5] 75 (0,0))):=heap_alloc_new _ _;have hws:w.heap.size≤w1.heap.size:=HB1.out.size;clear hbn;go_wp2_with fail;refine (TI.out _ _ i [.int .i64 t,.int .i64 k1,.int .i64 k2,.int .u64 k3,.bool k4,.int .i64 k5] HBn.out hi rfl (by intro u hu; simp only [List.mem_cons,List.not_mem_nil,or_false] at hu; rcases hu with rfl | rfl | rfl | rfl | rfl | rfl <;> rfl) HVB.out hws).mono ?_;rintro e w2 ⟨v',rfl,ho2,hg2,hon2⟩;have HF:=Lib.hid (HT.out _ _ _ i hi HI1.out (fun j h1 h2=>HI2.out j h1 (by rw [HN.out]; exact h2)) HBn.out hg2 ho2 hon2);clear HT ho2 hg2 hon2;go_wp2_with fail;exact HF.out
structure DsI (P:Nat→Prop) (w:World) (vc vw:Value) (rows:List (List Value)) (d:DeskM):Prop where
 ch:SlHX P w vc d.chans
 rl:rows.length=d.wait.length
 ss:SlS w 8 vw rows
 rr:∀i,i<d.wait.length→∃vc vd,rows.getD i []=wtL (wat d.wait i) vc vd∧SlC w vc (wat d.wait i).op.cases∧SlI w .i64 vd (wat d.wait i).op.draws∧atP P vc∧atP P vd
 at_:atP P vw
theorem DsI.below {P:Nat→Prop} {w w':World} {vc vw:Value} {rows:List (List Value)} {d:DeskM} (h:DsI P w vc vw rows d) (hb:Below w.heap.size w w'):DsI P w' vc vw rows d:=
 ⟨h.ch.below hb,h.rl,h.ss.below hb,fun i hi=>by
  obtain ⟨vc,vd,e,h1,h2,h3,h4⟩:=h.rr i hi;exact ⟨vc,vd,e,h1.below hb,h2.below hb,h3,h4⟩,h.at_⟩
theorem DsI.off {P:Nat→Prop} {w w':World} {g:Nat} {vc vw:Value} {rows:List (List Value)} {d:DeskM} (h:DsI P w vc vw rows d) (hg:w.grownBy w' (some g)) (hP:∀b,P b→b≠g):DsI P w' vc vw rows d:=
 ⟨h.ch.off hg hP,h.rl,h.ss.off hg h.at_ hP,fun i hi=>by
  obtain ⟨vc,vd,e,h1,h2,h3,h4⟩:=h.rr i hi;exact ⟨vc,vd,e,h1.grown hg (h3.off hP),h2.grown hg (h4.off hP),h3,h4⟩,h.at_⟩
theorem DsI.own {P:Nat→Prop} {w w':World} {vc vw v:Value} {rows:List (List Value)} {d:DeskM} (h:DsI P w vc vw rows d) (hg:w.grownBy w' v.ownBlock) (hP:∀k,v.ownBlock=some k→∀b,P b→b≠k):DsI P w' vc vw rows d:=by
 cases hv:v.ownBlock with
 | none=>rw [hv] at hg; exact h.below (below_none hg)
 | some k=>rw [hv] at hg; exact h.off hg (hP k hv)
theorem row_own {a b:World} {j:Nat} {ob:Obj} {v:Value} (hg:a.grownBy b v.ownBlock) (h:a.heap[j]?=some ob) (hj:v.ownBlock≠some j):b.heap[j]?=some ob:=
 (hg.block j (Array.getElem?_eq_some_iff.1 h).1 (fun e=>hj e.symm)).trans h
theorem OwnS.neT {w:World} {base s:Nat} {e T:TypeId} {v:Value} {rows:List (List Value)} {k:Nat} {c:Array Value} {f:Nat × Nat} (h:OwnS w base e s v rows) (hr:w.heap[k]?=some (.cells c T f)) (ht:T≠e):v.ownBlock≠some k:=by
 rcases h.2.2 with ⟨rfl,-⟩ | ⟨g,cap,cur,rfl,-,hg,-⟩
 ·simp [Value.ownBlock]
 ·intro e2
  simp only [Value.ownBlock,Option.some.injEq] at e2;rw [e2,hr] at hg;simp only [Option.some.injEq,Obj.cells.injEq] at hg;exact ht hg.2.1
theorem OwnS.keptN {w w':World} {base s:Nat} {e:TypeId} {v v2:Value} {rows:List (List Value)} (h:OwnS w base e s v rows) (hg:w.grownBy w' v2.ownBlock) (hne:v.ownBlock=none∨v.ownBlock≠v2.ownBlock):OwnS w' base e s v rows:=h.kept hg hne
theorem below_own {B:Nat} {w a b:World} {base s:Nat} {e:TypeId} {v:Value} {rows:List (List Value)} (h:Below B w a) (hg:a.grownBy b v.ownBlock) (ho:OwnS a base e s v rows) (hB:B≤base) (hs:B≤a.heap.size):Below B w b:=h.grown hg hs fun k hk=>by have:=(ho.lt k hk).1; omega
def stR (q:WaitM→Bool) (l:List WaitM) (rows:List (List Value)) (i:Nat):List (List Value):=((List.range i).filter fun j=>q (wat l j)).map fun j=>rows.getD j []
theorem stR_next (q:WaitM→Bool) (l:List WaitM) (rows:List (List Value)) (i:Nat):stR q l rows (i+1)=stR q l rows i ++ (if q (wat l i)=true then [rows.getD i []] else []):=by
 unfold stR;rw [List.range_succ,List.filter_append,List.map_append];congr 1;cases h:q (wat l i) <;> simp [h]
theorem stR_len (q:WaitM→Bool) (l:List WaitM) (rows:List (List Value)) (i:Nat):(stR q l rows i).length≤i:=by
 unfold stR;rw [List.length_map];have:=List.length_filter_le (fun j=>q (wat l j)) (List.range i);rwa [List.length_range] at this
theorem wat_range (l:List WaitM):(List.range l.length).map (wat l)=l:=by
 refine List.ext_getElem (by simp) fun i h1 h2=>?_;simp only [List.getElem_map,List.getElem_range];exact getD_lt h2
theorem stW_end (q:WaitM→Bool) (l:List WaitM):((List.range l.length).filter fun j=>q (wat l j)).map (wat l)=l.filter q:=by
 conv=>rhs; rw [← wat_range l]
 rw [List.filter_map];rfl
theorem SlWX.pick {P Q:Nat→Prop} {w:World} {v:Value} {l:List WaitM} {rows:List (List Value)} (q:WaitM→Bool) (hr:∀i,i<l.length→∃vc vd,rows.getD i []=wtL (wat l i) vc vd∧SlC w vc (wat l i).op.cases∧SlI w .i64 vd (wat l i).op.draws∧atP Q vc∧atP Q vd) (hQ:∀b,Q b→P b) (hs:SlS w 8 v (stR q l rows l.length)) (ha:atP P v):SlWX P w v (l.filter q):=by
 rw [← stW_end];unfold stR at hs;generalize hL:(List.range l.length).filter (fun j=>q (wat l j))=L at hs ⊢;refine ⟨L.map fun j=>rows.getD j [],by simp,hs,fun i hi=>?_,ha⟩;have hi':i<L.length:=by simpa using hi
 have hm:L[i]<l.length:=by
  have h9:∀z,z∈L→z<l.length:=fun z hz=>by
   rw [← hL] at hz;exact List.mem_range.1 (List.mem_filter.1 hz).1
  exact h9 _ (List.getElem_mem hi')
 obtain ⟨vc,vd,e,h1,h2,h3,h4⟩:=hr _ hm;have e1:(L.map fun j=>rows.getD j []).getD i []=rows.getD L[i] []:=by
  rw [getD_lt (by simpa using hi')];simp
 have e2:wat (L.map (wat l)) i=wat l L[i]:=by
  unfold wat;rw [getD_lt (by simpa using hi')];simp
 rw [e1,e2];exact ⟨vc,vd,e,h1,h2,h3.mono hQ,h4.mono hQ⟩
theorem Dist.ne {l:List WaitM} (h:Dist l) {i j:Nat} (hi:i<l.length) (hj:j<l.length) (hij:i≠j):(wat l i).thr≠(wat l j).thr:=by
 unfold wat;rw [getD_lt hi,getD_lt hj];rcases Nat.lt_or_ge i j with h1 | h1
 ·exact List.pairwise_iff_getElem.1 h i j hi hj h1
 ·exact fun e=>List.pairwise_iff_getElem.1 h j i hj hi (by omega) e.symm
theorem gone_fresh {p:WaitM→Bool} {r:WaitM→ResM} {o:List DoneM} {l:List WaitM} (hd:Dist l) (hn:∀x∈l,∀z∈o,z.thr≠x.thr) {i:Nat} (hi:i<l.length):∀z∈goneP p r o l i,z.thr≠(wat l i).thr:=fun z hz=>by
 rw [goneP_goF,goF_mem] at hz;have hm:wat l i∈l:=by unfold wat; rw [getD_lt hi]; exact List.getElem_mem hi
 rcases hz with hz | ⟨y,hy,rfl⟩
 ·exact hn _ hm z hz
 ·have hy2:=(List.mem_filter.1 hy).1
  obtain ⟨j,hj,rfl⟩:=List.mem_iff_getElem.1 hy2;rw [List.length_take] at hj;have:=hd.ne (i:=j) (by omega) hi (by omega);unfold wat at this ⊢;rw [getD_lt (by omega)] at this;rw [List.getElem_take];exact this
theorem gone_asc {p:WaitM→Bool} {r:WaitM→ResM} {o:List DoneM} {l:List WaitM} (ha:Asc o) (hd:Dist l) (hn:∀x∈l,∀z∈o,z.thr≠x.thr) (i:Nat):Asc (goneP p r o l i):=by
 rw [goneP_goF];exact goF_asc r _ o ha (List.Pairwise.sublist ((List.filter_sublist ..).trans (List.take_sublist ..)) hd) fun x hx=>hn x (List.mem_of_mem_take (List.mem_filter.1 hx).1)
def DsmQ (P:Nat→Prop) (base:Nat) (d:DeskM) (l:List DoneM) (w:World) (e:Ending) (w':World):Prop:=∃u v,e=.returned (.tuple #[u,v])∧DeskX P w' u d∧OwnS w' base 75 6 v (doneRows l)∧Below base w w'
set_option maxRecDepth 100000 in
set_option maxHeartbeats 16000000 in
theorem dismiss_any (P:Nat→Prop) (v lv cv:Value) (f:FuncId) (d:DeskM) (l:List DoneM) (p:WaitM→Bool) (r:WaitM→ResM) (base:Nat) (w:World) (h:DeskX P w v d) (hd:d.ok) (ho:OwnS w base 75 6 lv (doneRows l)) (hbs:base≤w.heap.size) (hl:l.length≤1000) (ha:Asc l) (hdi:Dist d.wait) (hn:∀x∈d.wait,∀z∈l,z.thr≠x.thr) (hg:∀b,P b→b<w.heap.size→lv.ownBlock≠some b) (hP:∀b,w.heap.size≤b→P b)
  (hcf:∀args w,(callFunc f args).run Try.prog w=.ok (.enter f args) w) (hc:∀w' vo x,Below base w w'→x∈d.wait→OpV w' vo x.op→Calls Try.prog f #[vo,cv] w' fun e w2=>e=.returned (.tuple #[resW (r x),.bool (p x)])∧Below w'.heap.size w' w2):Calls Try.prog 40 #[v,lv,.func (.func f) #[] #[cv]] w (DsmQ P base ⟨d.chans,d.wait.filter (fun x=>!p x),d.tick⟩ (goF r l (d.wait.filter p)) w):=by
 have hX:=h.tight;obtain ⟨vc,vw,rfl,hch,rows,hrl,hss,hrr,hat⟩:=hX;obtain ⟨PT,hPT⟩:∃z:Nat→Prop,(fun b=>P b∧b<w.heap.size)=z:=⟨_,rfl⟩;have hDI:DsI PT w vc vw rows d:=by rw [← hPT]; exact ⟨hch,hrl,hss,hrr,hat⟩
 have HPT:Hid ((∀b,PT b→b<w.heap.size)∧(∀b,PT b→P b)∧(∀b,PT b→lv.ownBlock≠some b)):=by rw [← hPT]; exact ⟨fun b hb=>hb.2,fun b hb=>hb.1,fun b hb=>hg b hb.1 hb.2⟩
 obtain ⟨pc,nc,kc,rfl⟩:=SlHX.sh hch;obtain ⟨aw,kw,rfl,-⟩:=hss.len;have HDI:=Lib.hid hDI;have HO:=Lib.hid ho;have HP:=Lib.hid hP;have HC:=Lib.hid hc;have hwl:=hd.wl;obtain ⟨t,htt⟩:∃z,d.tick=z:=⟨_,rfl⟩;obtain ⟨n,hnn⟩:∃z,d.wait.length=z:=⟨_,rfl⟩;have HN:=Lib.hid hnn;have HRL:Hid (rows.length=n):=by show _=_; rw [hrl,hnn]
 have HAS:=Lib.hid fun i=>gone_asc (p:=p) (r:=r) ha hdi hn i;have HFR:=Lib.hid fun i (hi:i<d.wait.length)=>gone_fresh (p:=p) (r:=r) hdi hn hi;have HGL:=Lib.hid fun i=>goneP_len p r l d.wait i;have HGN:=Lib.hid fun i (hi:i<d.wait.length)=>goneP_next (p:=p) (r:=r) (o:=l) hi;have HSN:=Lib.hid fun i=>stR_next (fun x=>!p x) d.wait rows i;have HSL:=Lib.hid fun i=>stR_len (fun x=>!p x) d.wait rows i;have HG0:Hid (goneP p r l d.wait 0=l):=rfl;have HS0:Hid (stR (fun x=>!p x) d.wait rows 0=[]):=rfl;have HGE:Hid (goneP p r l d.wait n=goF r l (d.wait.filter p)):=by show _=_; rw [← hnn,goneP_end]; rfl
 obtain ⟨gL,hgL⟩:∃z,goneP p r l d.wait=z:=⟨_,rfl⟩;obtain ⟨sL,hsL⟩:∃z,stR (fun x=>!p x) d.wait rows=z:=⟨_,rfl⟩;have HSE:Hid (sL n=stR (fun x=>!p x) d.wait rows d.wait.length):=by show _=_; rw [← hsL,hnn]
 rw [hgL] at HAS HFR HGL HGN HG0 HGE;rw [hsL] at HSN HSL HS0;rw [hrl,htt,hnn];rw [hrl,hnn] at HDI;rw [hnn] at hwl HFR HGN;obtain ⟨TQ,hTQ⟩:∃z,DsmQ P base ⟨d.chans,d.wait.filter (fun x=>!p x),t⟩ (goF r l (d.wait.filter p)) w=z:=⟨_,rfl⟩;have HT:Hid (∀w' uw u1,DsI PT w' (.slice pc nc kc) (.slice aw n kw) rows d→SlS w' 8 uw (sL n)→atP P uw→OwnS w' base 75 6 u1 (doneRows (gL n))→Below base w w'→TQ (.returned (.tuple #[.agg #[.slice pc nc kc,uw,.int .i64 t],u1])) w'):=fun w' uw u1 h1 h2 h3 h4 h5=>by
  rw [← hTQ];rw [HSE.out] at h2;exact ⟨_,_,rfl,⟨_,_,rfl,h1.ch.mono HPT.out.2.1,SlWX.pick (fun x=>!p x) h1.rr HPT.out.2.1 h2 h3⟩,HGE.out▸h4,h5⟩
 rw [hTQ];have HMEM:Hid (∀i,i<n→wat d.wait i∈d.wait):=fun i hi=>by unfold wat; rw [getD_lt (by omega)]; exact List.getElem_mem _
 clear hTQ hgL hsL hnn htt hrl hss hrr hat hch hDI hPT ho hP hc hd ha hdi hn hg h HSE HGE;obtain ⟨W,hW,HB,R0,R1,hz⟩:=two_new w (.cells #[.slice pc nc kc,.slice aw n kw,.int .i64 t] 34) (.cells #[.slice none 0 0,.slice none 0 0,.int .i64 0] 34);have HW:=Lib.hid hW;clear hW;go_enter Try.func40,Try.ntmps40;go_upto_region 1 with fail
 rw [HW.out];clear HW;obtain ⟨x0_0,x0_1,x0_2⟩:=rowc3 R0.out;have HBB:Hid (Below base w W):=HB.out.mono hbs;have HDW:=Lib.hid (HDI.out.below HB.out);have HOW:=Lib.hid (HO.out.below HB.out);go_wp2_with fail;clear x0_0 x0_1 x0_2;go_loopw [1,8,16] (fun u1 u8 u16 wr=>∃i:Nat,u16=.int .i64 i∧i≤n∧w.heap.size+2≤wr.heap.size∧Hid (OwnS wr base 75 6 u1 (doneRows (gL i)))∧Hid (OwnS wr (w.heap.size+2) 66 8 u8 (sL i))∧Hid (Below base w wr)∧Hid (∀k,u1.ownBlock=some k→∀b,PT b→b≠k)∧Hid (DsI PT wr (.slice pc nc kc) (.slice aw n kw) rows d)∧Hid (wr.heap[w.heap.size]?=some (.cells #[.slice pc nc kc,.slice aw n kw,.int .i64 t] 34 (0,0)))∧Hid (wr.heap[w.heap.size+1]?=some (.cells #[.slice none 0 0,.slice none 0 0,.int .i64 0] 34 (0,0)))) (fun _ _ u16 _=>n - (intOf u16).toNat)
 case atStart=>exact ⟨0,rfl,by omega,by omega,by rw [HG0.out]; exact HOW.out,by rw [HS0.out]; exact OwnS.nil _ _ _ _,HBB,(fun k hk b hb e=>HPT.out.2.2 b hb (by rw [hk,e])),HDW,R0,R1⟩
 case round=>
  obtain ⟨i,rfl,hi,hsz,HO1,HO8,HBi,HNE,HDi,D0,D1⟩:=hrel;obtain ⟨wo,rfl⟩:∃wo:World,wo=wr:=⟨_,rfl⟩;clear HB HBB HDW HOW HO R0 R1;by_cases hlt:i<n
  ·have hltI:(i:Int)<(n:Int):=by omega
   have hw1:IntKind.i64.wrap ((i:Int)+1)=(i:Int)+1:=by rw [IntKind.wrap_i64]; omega
   obtain ⟨vcs,vds,hrow,hcs,hds,-,-⟩:=HDi.out.rr i (by rw [HN.out]; exact hlt);obtain ⟨b3,o3,kw3,hve,hb3,hcell⟩:=HDi.out.ss.open (by rw [HRL.out]; omega);have hce:=hcell i (by rw [HRL.out]; exact hlt);rw [HRL.out] at hve;simp only [Value.slice.injEq] at hve;obtain ⟨rfl,-,rfl⟩:=hve;have HROW:=Lib.hid hrow;have hmem:=HMEM.out i hlt;have HCX:=Lib.hid (fun w' vo (hb:Below base w w') (ho:OpV w' vo (wat d.wait i).op)=>HC.out w' vo _ hb hmem ho);have HFX:=Lib.hid (HFR.out i hlt);have HGX:=Lib.hid (HGN.out i hlt);have HSX:=Lib.hid (HSN.out i);obtain ⟨⟨tt,⟨kd,md,oc,ov,odl,cs,ds⟩⟩,hx⟩:∃x,wat d.wait i=x:=⟨_,rfl⟩;rw [hx] at hrow hcs hds HCX HFX HGX HSX HROW;dsimp only at hcs hds HCX HFX;rw [hrow] at hce;unfold wtL at hce;have c0:wo.cell? ⟨b3,o3+i * 8,none⟩=some (.int .i64 tt):=hce 0 _ rfl;have c1:=hce 1 _ rfl;have c2:=hce 2 _ rfl;have c3:=hce 3 _ rfl;have c4:=hce 4 _ rfl;have c5:=hce 5 _ rfl;have c6:=hce 6 _ rfl;have c7:=hce 7 _ rfl;dsimp only at c0 c1 c2 c3 c4 c5 c6 c7;obtain ⟨a5,k5,rfl⟩:=hcs.len;obtain ⟨a6,k6,rfl,-⟩:=hds.len;have HCS:=Lib.hid hcs;have HDS:=Lib.hid hds;obtain ⟨⟨k1,k2,k3,k4,k9⟩,hr⟩:∃z,r ⟨tt,⟨kd,md,oc,ov,odl,cs,ds⟩⟩=z:=⟨_,rfl⟩;obtain ⟨bp,hbp⟩:∃z,p ⟨tt,⟨kd,md,oc,ov,odl,cs,ds⟩⟩=z:=⟨_,rfl⟩;rw [hr,hbp] at HCX HGX;rw [hbp] at HSX;unfold resW at HCX;dsimp only at HCX;have hbase2:base≤wo.heap.size:=by omega
   obtain ⟨d0,d1,d2⟩:=rowc3 D0.out;clear hcell hce hrow hcs hds hx hmem hr hbp;obtain ⟨Wq,hWq⟩:∃Wq,(wo.alloc (.cells #[.int .i64 0,.int .i64 0,.int .i64 0,.int .i64 0,.int .u64 0,.int .i64 0,.slice none 0 0,.slice none 0 0] 66)).setRow wo.heap.size #[.int .i64 tt,.int .i64 kd,.int .i64 md,.int .i64 oc,.int .u64 ov,.int .i64 odl,.slice a5 cs.length k5,.slice a6 ds.length k6]=Wq:=⟨_,rfl⟩;have Nq:Hid ((wo.alloc (.cells #[.int .i64 0,.int .i64 0,.int .i64 0,.int .i64 0,.int .u64 0,.int .i64 0,.slice none 0 0,.slice none 0 0] 66)).heap[wo.heap.size]?=some (.cells #[.int .i64 0,.int .i64 0,.int .i64 0,.int .i64 0,.int .u64 0,.int .i64 0,.slice none 0 0,.slice none 0 0] 66 (0,0))):=heap_alloc_new _ _;have HBq:Hid (Below wo.heap.size wo Wq):=hWq▸row_below (below_new (Below.refl _ _) _) (Nat.le_refl _) _;have Rq:Hid (Wq.heap[wo.heap.size]?=some (.cells #[.int .i64 tt,.int .i64 kd,.int .i64 md,.int .i64 oc,.int .u64 ov,.int .i64 odl,.slice a5 cs.length k5,.slice a6 ds.length k6] 66 (0,0))):=hWq▸setRow_heap _ _ _ _ _ (0,0) Nq.out;have HWq:=Lib.hid hWq;clear hWq;go_upto_region 5 with (refine wpList_store_row rfl 66 _ _ rfl (wo.heap.size) _ rfl rfl 66 _ Nq.out (by kernel_rfl) rfl (by simp [Value.oneCell']) ?_)
   rw [HWq.out];try simp only [Act.put]
   clear HWq Nq;obtain ⟨WB,hWB⟩:∃WB,wo.heap.size=WB:=⟨_,rfl⟩;rw [hWB] at Rq;rw [hWB];have hwb:w.heap.size+2≤WB:=by omega
   clear hWB;have HBq2:Hid (Below base w Wq):=HBi.out.trans (HBq.out.mono hbase2);have HOPV:Hid (OpV Wq (.agg #[.int .i64 kd,.int .i64 md,.int .i64 oc,.int .u64 ov,.int .i64 odl,.slice a5 cs.length k5,.slice a6 ds.length k6]) ⟨kd,md,oc,ov,odl,cs,ds⟩):=⟨_,_,rfl,HCS.out.below HBq.out,HDS.out.below HBq.out⟩;have hsq:wo.heap.size≤Wq.heap.size:=HBq.out.size;clear c0 c1 c2 c3 c4 c5 c6 c7 d0 d1 d2 HCS HDS;obtain ⟨q0,q1,q2,q3,q4,q5,q6,q7⟩:=rowc8 Rq.out;go_wp2_with fail;refine (HCX.out Wq _ HBq2.out HOPV.out).mono ?_; rintro e w5 ⟨rfl,hb5⟩;have Q5:=Lib.hid (row_below3 hb5 Rq.out);have HBw:Hid (Below wo.heap.size wo w5):=below_then HBq.out hb5;have hs5:wo.heap.size≤w5.heap.size:=HBw.out.size;clear q0 q1 q2 q3 q4 q5 q6 q7 hb5 HBq HBq2 HOPV HCX Rq;obtain ⟨Wm,hWm⟩:∃Wm,(w5.alloc (.cells #[.int .i64 0,.int .i64 0,.int .u64 0,.bool false,.int .i64 0] 73)).setRow w5.heap.size #[.int .i64 k1,.int .i64 k2,.int .u64 k3,.bool k4,.int .i64 k9]=Wm:=⟨_,rfl⟩;have Nm:Hid ((w5.alloc (.cells #[.int .i64 0,.int .i64 0,.int .u64 0,.bool false,.int .i64 0] 73)).heap[w5.heap.size]?=some (.cells #[.int .i64 0,.int .i64 0,.int .u64 0,.bool false,.int .i64 0] 73 (0,0))):=heap_alloc_new _ _;have HBm:Hid (Below w5.heap.size w5 Wm):=hWm▸row_below (below_new (Below.refl _ _) _) (Nat.le_refl _) _;have Rm:Hid (Wm.heap[w5.heap.size]?=some (.cells #[.int .i64 k1,.int .i64 k2,.int .u64 k3,.bool k4,.int .i64 k9] 73 (0,0))):=hWm▸setRow_heap _ _ _ _ _ (0,0) Nm.out;have HWm:=Lib.hid hWm;clear hWm;go_upto_region 6 with (refine wpList_store_row rfl 73 _ _ rfl (w5.heap.size) _ rfl rfl 73 _ Nm.out (by kernel_rfl) rfl (by simp [Value.oneCell']) ?_)
   rw [HWm.out];try simp only [Act.put]
   clear HWm Nm;obtain ⟨RB,hRB⟩:∃RB,w5.heap.size=RB:=⟨_,rfl⟩;rw [hRB] at Rm;rw [hRB];clear hRB;have Q6:=Lib.hid (row_below3 HBm.out Q5.out);have HBn:Hid (Below wo.heap.size wo Wm):=below_then HBw.out HBm.out;have HBi2:Hid (Below base w Wm):=HBi.out.trans (HBn.out.mono hbase2);have HO1m:=Lib.hid (HO1.out.below HBn.out);have HO8m:=Lib.hid (HO8.out.below HBn.out);have HDm:=Lib.hid (HDi.out.below HBn.out);have D0m:=Lib.hid (row_below3 HBn.out D0.out);have D1m:=Lib.hid (row_below3 HBn.out D1.out);have hsm:wo.heap.size≤Wm.heap.size:=HBn.out.size;obtain ⟨q0,q1,q2,q3,q4,q5,q6,q7⟩:=rowc8 Q6.out;obtain ⟨m0,m1,m2,m3,m4⟩:=rowc5s Rm.out;clear Q5 HBw HBm HBn HO1 HO8 HDi D0 D1 HBi;cases bp with
   | true=>
    have hgl:=HGL.out i;have TW:=Lib.hid (withB_any base u1 (gL i) tt ⟨k1,k2,k3,k4,k9⟩ Wm HO1m.out (by omega) (HAS.out i) HFX.out (by omega));unfold resW at TW;dsimp only at TW;clear hgl;go_wp2_with fail;refine TW.out.mono ?_; rintro e w7 ⟨v7,rfl,ho7,hg7,hon7⟩;have hg1:gL (i+1)=addE (gL i) tt ⟨k1,k2,k3,k4,k9⟩:=by have:=HGX.out; simpa using this
    have hs1:sL (i+1)=sL i:=by have:=HSX.out; simpa using this
    have hb7:=below_own HBi2.out hg7 HO1m.out (Nat.le_refl _) (by omega);have hs7:Wm.heap.size≤w7.heap.size:=hg7.size;have HREL:Hid (OwnS w7 base 75 6 v7 (doneRows (gL (i+1)))∧OwnS w7 (w.heap.size+2) 66 8 u8 (sL (i+1))∧Below base w w7∧(∀k,v7.ownBlock=some k→∀b,PT b→b≠k)∧DsI PT w7 (.slice pc nc kc) (.slice (some ⟨b3,o3,none⟩) n kw) rows d∧(w7.heap[w.heap.size]?=some (.cells #[.slice pc nc kc,.slice (some ⟨b3,o3,none⟩) n kw,.int .i64 t] 34 (0,0)))∧(w7.heap[w.heap.size+1]?=some (.cells #[.slice none 0 0,.slice none 0 0,.int .i64 0] 34 (0,0)))):=by
     rw [hg1,hs1];refine ⟨ho7,HO8m.out.keptN hg7 (HO8m.out.apart HO1m.out (by decide)),hb7,fun k hk b hb e=>?_,HDm.out.own hg7 HNE.out,row_own hg7 D0m.out (HO1m.out.neT D0m.out (by decide)),row_own hg7 D1m.out (HO1m.out.neT D1m.out (by decide))⟩;rcases hon7 with h | ⟨k',h,h2⟩
     ·exact HNE.out k (by rw [← h,hk]) b hb e
     ·rw [hk] at h
      cases h;have:=HPT.out.1 b hb;omega
    clear ho7 hg7 hon7 hg1 hs1 hb7 TW q0 q1 q2 q3 q4 q5 q6 q7 m0 m1 m2 m3 m4;go_wp2_with fail;go_roundw
    case rel=>exact ⟨i+1,by go_num,by omega,by omega,HREL.out.1,HREL.out.2.1,HREL.out.2.2.1,HREL.out.2.2.2.1,HREL.out.2.2.2.2.1,HREL.out.2.2.2.2.2.1,HREL.out.2.2.2.2.2.2⟩
    case measure=>simp [intOf]; omega
   | false=>
    have hsl:=HSL.out i;have hbr:Below Wm.heap.size Wm (Wm.alloc (.cells #[.int .i64 tt,.int .i64 kd,.int .i64 md,.int .i64 oc,.int .u64 ov,.int .i64 odl,.slice a5 cs.length k5,.slice a6 ds.length k6] 66)):=below_new (Below.refl _ _) _;have HAR:Hid ((Wm.alloc (.cells #[.int .i64 tt,.int .i64 kd,.int .i64 md,.int .i64 oc,.int .u64 ov,.int .i64 odl,.slice a5 cs.length k5,.slice a6 ds.length k6] 66)).heap[Wm.heap.size]?=some (.cells #[.int .i64 tt,.int .i64 kd,.int .i64 md,.int .i64 oc,.int .u64 ov,.int .i64 odl,.slice a5 cs.length k5,.slice a6 ds.length k6] 66 (0,0))):=heap_alloc_new _ _;obtain ⟨wa,hwa⟩:∃wa,Wm.alloc (.cells #[.int .i64 tt,.int .i64 kd,.int .i64 md,.int .i64 oc,.int .u64 ov,.int .i64 odl,.slice a5 cs.length k5,.slice a6 ds.length k6] 66)=wa:=⟨_,rfl⟩;rw [hwa] at hbr HAR;have HWA:=Lib.hid hwa;have HBR:=Lib.hid hbr;have HOA:=Lib.hid (HO8m.out.below hbr);have hsa:w.heap.size+2≤wa.heap.size:=by have:=hbr.size; omega
    clear hwa hbr;go_wp2_with (at_builtin; rw [HWA.out]; refine wp_append_ss 32 (by kernel_rfl) Try.info_wait rfl (by decide) (by decide) rfl _ _ rfl rfl HOA.out [[.int .i64 tt,.int .i64 kd,.int .i64 md,.int .i64 oc,.int .u64 ov,.int .i64 odl,.slice a5 cs.length k5,.slice a6 ds.length k6]] (by intro r hr; rw [List.mem_singleton.1 hr]; exact ⟨rfl,by intro u hu; simp only [List.mem_cons,List.not_mem_nil,or_false] at hu; rcases hu with rfl | rfl | rfl | rfl | rfl | rfl | rfl | rfl <;> rfl⟩) Wm.heap.size 1 rfl rfl HAR.out (by simp; omega) hsa ?_; intro v8 w8 ho8 hg8);have hg1:gL (i+1)=gL i:=by have:=HGX.out; simpa using this
    have hs1:sL (i+1)=sL i ++ [[.int .i64 tt,.int .i64 kd,.int .i64 md,.int .i64 oc,.int .u64 ov,.int .i64 odl,.slice a5 cs.length k5,.slice a6 ds.length k6]]:=by have:=HSX.out; rw [HROW.out] at this; simpa [wtL] using this
    have hba:Below base w wa:=HBi2.out.trans (HBR.out.mono (by omega));have hb8:=below_own hba hg8 HOA.out (by omega) (by omega);have hs8:wa.heap.size≤w8.heap.size:=hg8.size;have HO1a:=HO1m.out.below HBR.out;have HREL:Hid (OwnS w8 base 75 6 u1 (doneRows (gL (i+1)))∧OwnS w8 (w.heap.size+2) 66 8 v8 (sL (i+1))∧Below base w w8∧DsI PT w8 (.slice pc nc kc) (.slice (some ⟨b3,o3,none⟩) n kw) rows d∧(w8.heap[w.heap.size]?=some (.cells #[.slice pc nc kc,.slice (some ⟨b3,o3,none⟩) n kw,.int .i64 t] 34 (0,0)))∧(w8.heap[w.heap.size+1]?=some (.cells #[.slice none 0 0,.slice none 0 0,.int .i64 0] 34 (0,0)))):=by
     rw [hg1,hs1];exact ⟨HO1a.keptN hg8 (HO1a.apart HOA.out (by decide)),ho8,hb8,(HDm.out.below HBR.out).own hg8 (fun k hk b hb e=>by have h1:=(HOA.out.lt k hk).1; have h2:=HPT.out.1 b hb; omega),row_own hg8 (row_below3 HBR.out D0m.out) (HOA.out.neT (row_below3 HBR.out D0m.out) (by decide)),row_own hg8 (row_below3 HBR.out D1m.out) (HOA.out.neT (row_below3 HBR.out D1m.out) (by decide))⟩
    clear ho8 hg8 hg1 hs1 hb8 hba HO1a q0 q1 q2 q3 q4 q5 q6 q7 m0 m1 m2 m3 m4;go_wp2_with fail;go_roundw
    case rel=>exact ⟨i+1,by go_num,by omega,by omega,HREL.out.1,HREL.out.2.1,HREL.out.2.2.1,HNE.out,HREL.out.2.2.2.1,HREL.out.2.2.2.2.1,HREL.out.2.2.2.2.2⟩
    case measure=>simp [intOf]; omega
  ·have hge:¬(i:Int)<(n:Int):=by omega
   obtain rfl:i=n:=by omega
   obtain ⟨p8,n8,k8,rfl⟩:=own_sh HO8.out;obtain ⟨d0,d1,d2⟩:=rowc3 D0.out;have ff:=frozen_of_row wo w.heap.size 1 _ _ D0.out;go_upto_region 11 with fail
   obtain ⟨v7,hv7⟩:∃v7,wo.setCell ⟨w.heap.size,1,none⟩ (.slice p8 n8 k8)=v7:=⟨_,rfl⟩;have HGv7:Hid (wo.grownBy v7 (some (w.heap.size))):=by rw [← hv7]; exact (grownBy_setCell wo ⟨w.heap.size,1,none⟩ (.slice p8 n8 k8))
   have V0:Hid (v7.heap[w.heap.size]?=some (.cells #[.slice pc nc kc,.slice p8 n8 k8,.int .i64 t] 34 (0,0))):=by
    rw [← hv7];have r1:=(heap_setCell_same wo w.heap.size 1 _ _ (.slice p8 n8 k8) D0.out);simp at r1;exact r1
   rw [hv7];clear hv7;clear d0 d1 d2 ff;have V1:=Lib.hid (row_keepD HGv7.out D1.out (by omega));have hsl:=HSL.out i;have hg8:=row_grown v7 (w.heap.size+1) #[.slice pc nc kc,.slice p8 n8 k8,.int .i64 t];have hO1a:=HO1.out.kept HGv7.out (.inr (HO1.out.neT D0.out (by decide)));have hO1b:=hO1a.kept hg8 (.inr (hO1a.neT V1.out (by decide)));have hO8a:=HO8.out.kept HGv7.out (HO8.out.ne (by omega));have hO8b:=hO8a.kept hg8 (hO8a.ne (by omega));have hB1:Below base w v7:=HBi.out.grown HGv7.out (by omega) (fun k hk=>by cases hk; omega);have hB2:=hB1.grown hg8 (by have:=HGv7.out.size; omega) (fun k hk=>by cases hk; omega);have hDa:=HDi.out.off HGv7.out (fun b hb=>by have:=HPT.out.1 b hb; omega);have hDb:=hDa.off hg8 (fun b hb=>by have:=HPT.out.1 b hb; omega);have HF9:=Lib.hid (HT.out _ (.slice p8 n8 k8) u1 hDb (hO8b.sls (by omega)) (hO8b.isP fun b hb=>HP.out b (by omega)) hO1b hB2);obtain ⟨x0,x1,x2⟩:=rowc3 V0.out;clear HT hg8 hO1a hO1b hO8a hO8b hB1 hB2 hDa hDb;go_wp2_with (refine wpList_store_row rfl 34 _ _ rfl (w.heap.size+1) _ rfl rfl 34 _ V1.out (by kernel_rfl) rfl (by simp [Value.oneCell']) ?_);refine bodyPost_ret (v:=.tuple #[.agg #[.slice pc nc kc,.slice p8 n8 k8,.int .i64 t],u1]) (results_cell_tmp Try.results40 _ _ (w.heap.size+1) 34 _ (0,0) _ rfl (setRow_heap _ _ _ _ 34 (0,0) V1.out) Try.underlying34 rfl (by kernel_rfl) _ rfl) rfl ?_;exact HF9.out
theorem enter_fn {f : FuncId} {fn : Func} (hf : Try.prog.funcs[f]? = some fn) (hb : fn.body.isSome = true) (hn : (fn.name == "runtime.NumGoroutine") = false) : ∀ args w, (callFunc f args).run Try.prog w = .ok (.enter f args) w := fun args w => by
 have h1 : fn.name ≠ "runtime.NumGoroutine" := by simpa using hn
 obtain ⟨b,hb⟩:=Option.isSome_iff_exists.1 hb;simp [callFunc,hf,h1,hb,Sem.run]
def PdQ (P:Nat→Prop) (d:DeskM) (l:List DoneM) (w:World) (e:Ending) (w':World):Prop:=∃u v,e=.returned (.tuple #[u,v])∧DeskX P w' u d∧SlS w' 6 v (doneRows l)∧atP (fun b=>w.heap.size≤b) v∧Below w.heap.size w w'
def distR (ch:Int) (op:OpM):ResM:=if 0≤sideI op ch false then ⟨2,namedI op (sideI op ch false),0,false,0⟩ else if 0≤sideI op ch true then ⟨5,namedI op (sideI op ch true),0,false,0⟩ else ⟨0,0,0,false,0⟩
def distB (ch:Int) (op:OpM):Bool:=decide (0≤sideI op ch false) || decide (0≤sideI op ch true)
set_option maxRecDepth 100000 in
set_option maxHeartbeats 16000000 in
theorem disturbed_any (vo:Value) (op:OpM) (ch:Int) (w:World) (ho:OpV w vo op) (hl:(casesE op).length≤100000):Calls Try.prog 75 #[vo,.int .i64 ch] w fun e w'=>e=.returned (.tuple #[resW (distR ch op),.bool (distB ch op)])∧Below w.heap.size w w':=by
 have TF:=Lib.hid fun sd w' (hb:Below w.heap.size w w')=>dfind_any vo op sd ch w' (ho.below hb) hl;have TF0:=Lib.hid (TF.out false);have TF1:=Lib.hid (TF.out true);unfold sideW sideXE at TF0 TF1;obtain ⟨s0,hs0⟩:∃z,sideI op ch false=z:=⟨_,rfl⟩;obtain ⟨s1,hs1⟩:∃z,sideI op ch true=z:=⟨_,rfl⟩;rw [hs0] at TF0;rw [hs1] at TF1;unfold distR distB;rw [hs0,hs1];obtain ⟨n0,hn0⟩:∃z,namedI op s0=z:=⟨_,rfl⟩;obtain ⟨n1,hn1⟩:∃z,namedI op s1=z:=⟨_,rfl⟩;rw [hn0] at TF0 ⊢;rw [hn1] at TF1 ⊢;obtain ⟨vcs,vds,rfl,hcs,hds⟩:=ho;obtain ⟨kd,md,oc,ov,odl,cs,ds⟩:=op;dsimp only at *;obtain ⟨a3,cap3,rfl⟩:=hcs.len;obtain ⟨a4,cap4,rfl,-⟩:=hds.len;obtain ⟨TQ,hTQ⟩:∃z:Ending→World→Prop,(fun e w'=>e=.returned (.tuple #[resW (if 0≤s0 then ⟨2,n0,0,false,0⟩ else if 0≤s1 then ⟨5,n1,0,false,0⟩ else ⟨0,0,0,false,0⟩),.bool (decide (0≤s0) || decide (0≤s1))])∧Below w.heap.size w w')=z:=⟨_,rfl⟩;have HT1:Hid (0≤s0→∀w',Below w.heap.size w w'→TQ (.returned (.tuple #[.agg #[.int .i64 2,.int .i64 n0,.int .u64 0,.bool false,.int .i64 0],.bool true])) w'):=fun h w' hb=>by rw [← hTQ,if_pos h,decide_eq_true h]; exact ⟨rfl,hb⟩
 have HT2:Hid (¬0≤s0→0≤s1→∀w',Below w.heap.size w w'→TQ (.returned (.tuple #[.agg #[.int .i64 5,.int .i64 n1,.int .u64 0,.bool false,.int .i64 0],.bool true])) w'):=fun h h1 w' hb=>by rw [← hTQ,if_neg h,if_pos h1,decide_eq_false h,decide_eq_true h1]; exact ⟨rfl,hb⟩
 have HT3:Hid (¬0≤s0→¬0≤s1→∀w',Below w.heap.size w w'→TQ (.returned (.tuple #[.agg #[.int .i64 0,.int .i64 0,.int .u64 0,.bool false,.int .i64 0],.bool false])) w'):=fun h h1 w' hb=>by rw [← hTQ,if_neg h,if_neg h1,decide_eq_false h,decide_eq_false h1]; exact ⟨rfl,hb⟩
 rw [hTQ];clear hTQ hcs hds hs0 hs1 hn0 hn1 TF;obtain ⟨W,hW,HB,R0,R1,hz⟩:=two_new w (.cells #[.int .i64 kd,.int .i64 md,.int .i64 oc,.int .u64 ov,.int .i64 odl,.slice a3 cs.length cap3,.slice a4 ds.length cap4] 44) (.cells #[.int .i64 0,.int .i64 0,.int .u64 0,.bool false,.int .i64 0] 73);have HW:=Lib.hid hW;clear hW;go_enter Try.func75,Try.ntmps75;go_upto_region 1 with fail
 rw [HW.out];clear HW;obtain ⟨x0_0,x0_1,x0_2,x0_3,x0_4,x0_5,x0_6⟩:=rowc7 R0.out;have hq0:decide (0≤s0)=true∨decide (0≤s0)=false:=by cases decide (0≤s0) <;> simp
 have hq1:decide (0≤s1)=true∨decide (0≤s1)=false:=by cases decide (0≤s1) <;> simp
 rcases hq0 with hq0 | hq0
 ·have h0:0≤s0:=of_decide_eq_true hq0
  rw [if_pos h0] at TF0;generalize (casesE _).getD s0.toNat noCase=X0 at TF0;obtain ⟨xs0,xc0,xv0⟩:=X0;dsimp only at TF0;go_wp2_with fail;refine (TF0.out _ HB.out).mono ?_; rintro e w1 ⟨rfl,hb1⟩;have R11:=Lib.hid (row_below3 hb1 R1.out);have HB1:=Lib.hid (below_then HB.out hb1);have hw1:w.heap.size+1<w1.heap.size:=(ltR R11);clear x0_0 x0_1 x0_2 x0_3 x0_4 x0_5 x0_6 hb1 TF0 TF1;obtain ⟨W0,hW0⟩:∃W0,(w1.alloc (.cells #[.bool false,.int .i64 0,.int .u64 0,.int .i64 0] 94)).setRow w1.heap.size #[.bool xs0,.int .i64 xc0,.int .u64 xv0,.int .i64 n0]=W0:=⟨_,rfl⟩;have N0:Hid ((w1.alloc (.cells #[.bool false,.int .i64 0,.int .u64 0,.int .i64 0] 94)).heap[w1.heap.size]?=some (.cells #[.bool false,.int .i64 0,.int .u64 0,.int .i64 0] 94 (0,0))):=heap_alloc_new _ _;have HB0:Hid (Below w1.heap.size w1 W0):=hW0▸row_below (below_new (Below.refl _ _) _) (Nat.le_refl _) _;have R0:Hid (W0.heap[w1.heap.size]?=some (.cells #[.bool xs0,.int .i64 xc0,.int .u64 xv0,.int .i64 n0] 94 (0,0))):=hW0▸setRow_heap _ _ _ _ _ (0,0) N0.out;have HW0:=Lib.hid hW0;clear hW0;go_upto_region 2 with (refine wpList_store_row rfl 94 _ _ rfl (w1.heap.size) _ rfl rfl 94 _ N0.out (by kernel_rfl) rfl (by simp [Value.oneCell']) ?_)
  rw [HW0.out];try simp only [Act.put]
  clear HW0 N0;obtain ⟨S0,hS0⟩:∃S0,w1.heap.size=S0:=⟨_,rfl⟩;rw [hS0] at R0;rw [hS0];clear hS0;have R12:=Lib.hid (row_below3 HB0.out R11.out);have HB2:=Lib.hid (below_then HB1.out HB0.out);obtain ⟨s0_0,s0_1,s0_2,s0_3⟩:=rowc4s R0.out;have HF9:=Lib.hid (HT1.out h0 _ (row_below HB2.out (show w.heap.size≤w.heap.size+1 by omega) #[.int .i64 2,.int .i64 n0,.int .u64 0,.bool false,.int .i64 0]));go_wp2_with (refine wpList_store_row rfl 73 _ _ rfl (w.heap.size+1) _ rfl rfl 73 _ R12.out (by kernel_rfl) rfl (by simp [Value.oneCell']) ?_);refine bodyPost_ret (v:=.tuple #[.agg #[.int .i64 2,.int .i64 n0,.int .u64 0,.bool false,.int .i64 0],.bool true]) (results_cell_tmp Try.results75 _ _ (w.heap.size+1) 73 _ (0,0) _ rfl (setRow_heap _ _ _ _ 73 (0,0) R12.out) Try.underlying73 rfl (by kernel_rfl) _ rfl) rfl ?_;exact HF9.out
 ·have h0:¬0≤s0:=of_decide_eq_false hq0
  rw [if_neg h0] at TF0;dsimp only [noCase] at TF0;go_wp2_with fail;refine (TF0.out _ HB.out).mono ?_; rintro e w1 ⟨rfl,hb1⟩;have R01:=Lib.hid (row_below3 hb1 R0.out);have R11:=Lib.hid (row_below3 hb1 R1.out);have HB1:=Lib.hid (below_then HB.out hb1);have hw1:w.heap.size+1<w1.heap.size:=(ltR R11);clear x0_0 x0_1 x0_2 x0_3 x0_4 x0_5 x0_6 hb1 TF0;obtain ⟨Wa,hWa⟩:∃Wa,(w1.alloc (.cells #[.bool false,.int .i64 0,.int .u64 0,.int .i64 0] 94)).setRow w1.heap.size #[.bool false,.int .i64 0,.int .u64 0,.int .i64 0]=Wa:=⟨_,rfl⟩;have Na:Hid ((w1.alloc (.cells #[.bool false,.int .i64 0,.int .u64 0,.int .i64 0] 94)).heap[w1.heap.size]?=some (.cells #[.bool false,.int .i64 0,.int .u64 0,.int .i64 0] 94 (0,0))):=heap_alloc_new _ _;have HBa:Hid (Below w1.heap.size w1 Wa):=hWa▸row_below (below_new (Below.refl _ _) _) (Nat.le_refl _) _;have Ra:Hid (Wa.heap[w1.heap.size]?=some (.cells #[.bool false,.int .i64 0,.int .u64 0,.int .i64 0] 94 (0,0))):=hWa▸setRow_heap _ _ _ _ _ (0,0) Na.out;have HWa:=Lib.hid hWa;clear hWa;go_upto_region 2 with (refine wpList_store_row rfl 94 _ _ rfl (w1.heap.size) _ rfl rfl 94 _ Na.out (by kernel_rfl) rfl (by simp [Value.oneCell']) ?_)
  rw [HWa.out];try simp only [Act.put]
  clear HWa Na;obtain ⟨SA,hSA⟩:∃SA,w1.heap.size=SA:=⟨_,rfl⟩;rw [hSA] at Ra;rw [hSA];clear hSA;have R02:=Lib.hid (row_below3 HBa.out R01.out);have R12:=Lib.hid (row_below3 HBa.out R11.out);have HB2:=Lib.hid (below_then HB1.out HBa.out);obtain ⟨x0,x1,x2,x3,x4,x5,x6⟩:=rowc7 R02.out;rcases hq1 with hq1 | hq1
  ·have h1:0≤s1:=of_decide_eq_true hq1
   rw [if_pos h1] at TF1;generalize (casesE _).getD s1.toNat noCase=X1 at TF1;obtain ⟨xs1,xc1,xv1⟩:=X1;dsimp only at TF1;go_wp2_with fail;refine (TF1.out _ HB2.out).mono ?_; rintro e w3 ⟨rfl,hb3⟩;have R13:=Lib.hid (row_below3 hb3 R12.out);have HB3:=Lib.hid (below_then HB2.out hb3);have hw3:w.heap.size+1<w3.heap.size:=(ltR R13);clear x0 x1 x2 x3 x4 x5 x6 hb3 TF1;obtain ⟨W1,hW1⟩:∃W1,(w3.alloc (.cells #[.bool false,.int .i64 0,.int .u64 0,.int .i64 0] 94)).setRow w3.heap.size #[.bool xs1,.int .i64 xc1,.int .u64 xv1,.int .i64 n1]=W1:=⟨_,rfl⟩;have N1:Hid ((w3.alloc (.cells #[.bool false,.int .i64 0,.int .u64 0,.int .i64 0] 94)).heap[w3.heap.size]?=some (.cells #[.bool false,.int .i64 0,.int .u64 0,.int .i64 0] 94 (0,0))):=heap_alloc_new _ _;have HB1:Hid (Below w3.heap.size w3 W1):=hW1▸row_below (below_new (Below.refl _ _) _) (Nat.le_refl _) _;have R1:Hid (W1.heap[w3.heap.size]?=some (.cells #[.bool xs1,.int .i64 xc1,.int .u64 xv1,.int .i64 n1] 94 (0,0))):=hW1▸setRow_heap _ _ _ _ _ (0,0) N1.out;have HW1:=Lib.hid hW1;clear hW1;go_upto_region 5 with (refine wpList_store_row rfl 94 _ _ rfl (w3.heap.size) _ rfl rfl 94 _ N1.out (by kernel_rfl) rfl (by simp [Value.oneCell']) ?_)
   rw [HW1.out];try simp only [Act.put]
   clear HW1 N1;obtain ⟨S1,hS1⟩:∃S1,w3.heap.size=S1:=⟨_,rfl⟩;rw [hS1] at R1;rw [hS1];clear hS1;have R14:=Lib.hid (row_below3 HB1.out R13.out);have HB4:=Lib.hid (below_then HB3.out HB1.out);obtain ⟨s1_0,s1_1,s1_2,s1_3⟩:=rowc4s R1.out;have HF9:=Lib.hid (HT2.out h0 h1 _ (row_below HB4.out (show w.heap.size≤w.heap.size+1 by omega) #[.int .i64 5,.int .i64 n1,.int .u64 0,.bool false,.int .i64 0]));go_wp2_with (refine wpList_store_row rfl 73 _ _ rfl (w.heap.size+1) _ rfl rfl 73 _ R14.out (by kernel_rfl) rfl (by simp [Value.oneCell']) ?_);refine bodyPost_ret (v:=.tuple #[.agg #[.int .i64 5,.int .i64 n1,.int .u64 0,.bool false,.int .i64 0],.bool true]) (results_cell_tmp Try.results75 _ _ (w.heap.size+1) 73 _ (0,0) _ rfl (setRow_heap _ _ _ _ 73 (0,0) R14.out) Try.underlying73 rfl (by kernel_rfl) _ rfl) rfl ?_;exact HF9.out
  ·have h1:¬0≤s1:=of_decide_eq_false hq1
   rw [if_neg h1] at TF1;dsimp only [noCase] at TF1;go_wp2_with fail;refine (TF1.out _ HB2.out).mono ?_; rintro e w3 ⟨rfl,hb3⟩;have R13:=Lib.hid (row_below3 hb3 R12.out);have HB3:=Lib.hid (below_then HB2.out hb3);have hw3:w.heap.size+1<w3.heap.size:=(ltR R13);clear x0 x1 x2 x3 x4 x5 x6 hb3 TF1;obtain ⟨Wb,hWb⟩:∃Wb,(w3.alloc (.cells #[.bool false,.int .i64 0,.int .u64 0,.int .i64 0] 94)).setRow w3.heap.size #[.bool false,.int .i64 0,.int .u64 0,.int .i64 0]=Wb:=⟨_,rfl⟩;have Nb:Hid ((w3.alloc (.cells #[.bool false,.int .i64 0,.int .u64 0,.int .i64 0] 94)).heap[w3.heap.size]?=some (.cells #[.bool false,.int .i64 0,.int .u64 0,.int .i64 0] 94 (0,0))):=heap_alloc_new _ _;have HBb:Hid (Below w3.heap.size w3 Wb):=hWb▸row_below (below_new (Below.refl _ _) _) (Nat.le_refl _) _;have Rb:Hid (Wb.heap[w3.heap.size]?=some (.cells #[.bool false,.int .i64 0,.int .u64 0,.int .i64 0] 94 (0,0))):=hWb▸setRow_heap _ _ _ _ _ (0,0) Nb.out;have HWb:=Lib.hid hWb;clear hWb;go_upto_region 5 with (refine wpList_store_row rfl 94 _ _ rfl (w3.heap.size) _ rfl rfl 94 _ Nb.out (by kernel_rfl) rfl (by simp [Value.oneCell']) ?_)
   rw [HWb.out];try simp only [Act.put]
   clear HWb Nb;obtain ⟨SB,hSB⟩:∃SB,w3.heap.size=SB:=⟨_,rfl⟩;rw [hSB] at Rb;rw [hSB];clear hSB;have R14:=Lib.hid (row_below3 HBb.out R13.out);have HB4:=Lib.hid (below_then HB3.out HBb.out);have HF9:=Lib.hid (HT3.out h0 h1 _ (row_below HB4.out (show w.heap.size≤w.heap.size+1 by omega) #[.int .i64 0,.int .i64 0,.int .u64 0,.bool false,.int .i64 0]));go_wp2_with (refine wpList_store_row rfl 73 _ _ rfl (w.heap.size+1) _ rfl rfl 73 _ R14.out (by kernel_rfl) rfl (by simp [Value.oneCell']) ?_);refine bodyPost_ret (v:=.tuple #[.agg #[.int .i64 0,.int .i64 0,.int .u64 0,.bool false,.int .i64 0],.bool false]) (results_cell_tmp Try.results75 _ _ (w.heap.size+1) 73 _ (0,0) _ rfl (setRow_heap _ _ _ _ 73 (0,0) R14.out) Try.underlying73 rfl (by kernel_rfl) _ rfl) rfl ?_;exact HF9.out
end Go.Proofs.Ytiekicailidhcaa
