import Derived.Test.YtifhafjhmjkekaaRows
import Derived.Deep.QuietTactic
import Derived.BigQuiet
import Derived.Laws.AppendOwnNone
import Derived.Laws.BitsAllLaws
import Derived.LoopTactic
import Derived.Deep.DeepCutAuto
import Derived.Test.YtifhafjhmjkekaaB01
set_option linter.unusedVariables false
set_option linter.unusedSimpArgs false
namespace Go.Proofs.Ytifhafjhmjkekaa
open Go.ChangeShapes Go.WideShapes Go.ChangeAt Go.RowKit
set_option maxRecDepth 100000
def CodesAt (w:World) (g:Nat) (r:List Int) (val:Int):Prop:=
 ∃v l,∃k:Nat,w.heap[g]?=some (.cells #[v,.int .i64 k,.int .u64 val] 70 (0,0))∧SlI w .u8 v l∧k≤l.length∧r=l.drop k∧(l≠[]→∀a n c,v=.slice a n c→∀b,a=some b→b.block<g)
theorem CodesAt.drew {w:World} {g:Nat} {r:List Int} {val:Int} (h:CodesAt w g r val) (n:Nat):CodesAt (w.drewN n) g r val:=h
theorem CodesAt.lt {w:World} {g:Nat} {r:List Int} {val:Int} (h:CodesAt w g r val):g<w.heap.size:=by
 obtain ⟨v,l,k,hg,_⟩:=h;exact (Array.getElem?_eq_some_iff.1 hg).1
theorem CodesAt.kept {w w':World} {g B:Nat} {r:List Int} {val:Int} (h:CodesAt w g r val) (hB:g<B) (hb:Below B w w'):CodesAt w' g r val:=by
 obtain ⟨v,l,k,hg,⟨m1,m2,a,cap,rfl,hcap,h5⟩,hk,hr,h4⟩:=h;refine ⟨_,l,k,(hb.block g hB).trans hg,⟨m1,m2,a,cap,rfl,hcap,fun t ht=>?_⟩,hk,hr,h4⟩;obtain ⟨b,off,e,hlt,hc⟩:=h5 t ht;have hbg:=h4 (by rintro rfl; simp at ht) _ _ _ rfl _ e;exact ⟨b,off,e,Nat.lt_of_lt_of_le hlt hb.size,(hb.cell (p:=⟨b,off+t,none⟩) (by simp at hbg ⊢; omega)).trans hc⟩
def nxt (r:List Int) (n:Int):Int:=match r with | []=>0 | c :: _=>c % n
theorem nxt_bd (r:List Int) (n:Int) (h:1≤n):0≤nxt r n∧nxt r n<n:=by
 unfold nxt;split
 ·omega
 ·exact ⟨Int.emod_nonneg _ (by omega),Int.emod_lt_of_pos _ (by omega)⟩
theorem left_any (g:Nat) (r:List Int) (val:Int) (w:World) (h:CodesAt w g r val) :
  Calls Try.prog 28 #[.pointer (some ⟨g,0,none⟩)] w fun e w'=>∃n,e=.returned (.bool (!r.isEmpty))∧w.drewN n=w':=by
 obtain ⟨v,l,k,hg,hl,hk,rfl,_⟩:=h;have hmx:=hl.1;obtain ⟨a,cap,rfl,_⟩:=hl.len;have c0:=cell_of_row w g 0 _ _ _ hg;have c1:=cell_of_row w g 1 _ _ _ hg;simp at c0 c1;clear hg hl;have hr:((l.drop k).isEmpty)=decide (l.length≤k):=by
  rw [Bool.eq_iff_iff]; simp
 have HR:=Lib.hid hr;clear hr;go_enter Try.func28,Try.ntmps28;go_wp2;go_quiet (fail);go_wp2;go_ret;exact ⟨nq,ret_bool (by rw [HR.out]; by_cases e:k<l.length <;> simp [e] <;> omega),rfl⟩
theorem codes_step {w:World} {g:Nat} {val:Int} {b off n cap k:Nat} {l:List Int}
  (hg:w.heap[g]?=some (.cells #[.slice (some ⟨b,off,none⟩) n cap,.int .i64 k,.int .u64 val] 70 (0,0)))
  (hl:SlI w .u8 (.slice (some ⟨b,off,none⟩) n cap) l) (hlt:k<l.length) (hbg0:b<g) (m:Nat) :
  (CodesAt (w.setCell ⟨g,1,none⟩ (.int .i64 ((k:Int)+1))) g (l.drop k).tail val)∧
  w.grownBy ((w.setCell ⟨g,1,none⟩ (.int .i64 ((k:Int)+1))).drewN m) (some g)∧
  (w.setCell ⟨g,1,none⟩ (.int .i64 ((k:Int)+1))).cell? ⟨g,0,none⟩=some (.slice (some ⟨b,off,none⟩) n cap)∧
  (w.setCell ⟨g,1,none⟩ (.int .i64 ((k:Int)+1))).cell? ⟨g,1,none⟩=some (.int .i64 ((k:Int)+1))∧
  (w.setCell ⟨g,1,none⟩ (.int .i64 ((k:Int)+1))).cell? ⟨b,off+k,none⟩=some (.int .u8 (l.getD k 0)):=by
 have hbg:b≠g:=by omega
 have hs:=heap_setCell_same w g 1 _ _ (.int .i64 ((k:Int)+1)) hg;have ho:∀j,j≠g→(w.setCell ⟨g,1,none⟩ (.int .i64 ((k:Int)+1))).heap[j]?=w.heap[j]?:=fun j hj=>heap_setCell_other w ⟨g,1,none⟩ j _ hj;have e0:=cell_of_row _ g 0 _ _ _ hs;have e1:=cell_of_row _ g 1 _ _ _ hs;have hcell:∀j,(w.setCell ⟨g,1,none⟩ (.int .i64 ((k:Int)+1))).cell? ⟨b,j,none⟩=w.cell? ⟨b,j,none⟩:=fun j=>World.cell?_of_block (ho b hbg);obtain ⟨m1,m2,a',cap',e,hle,h5⟩:=hl;simp only [Value.slice.injEq] at e;obtain ⟨rfl,rfl,rfl⟩:=e;have hsz:(w.setCell ⟨g,1,none⟩ (.int .i64 ((k:Int)+1))).heap.size=w.heap.size:=by simp
 refine ⟨⟨_,l,k+1,by simpa using hs,⟨m1,m2,_,_,rfl,hle,fun t ht=>?_⟩,hlt,by rw [List.tail_drop],?_⟩,⟨rfl,rfl,rfl,by simp,fun j _ hj=>ho j (fun e=>hj (by rw [e]))⟩,by simpa using e0,by simpa using e1,?_⟩
 ·obtain ⟨b1,o1,e2,h6,h7⟩:=h5 t ht
  simp only [Option.some.injEq,Addr.mk.injEq,and_true] at e2;obtain ⟨rfl,rfl⟩:=e2;exact ⟨_,_,rfl,by rw [hsz]; exact h6,(hcell _).trans h7⟩
 ·intro _ a n c e bb e2
  simp only [Value.slice.injEq] at e;rw [← e.1] at e2;cases e2;exact hbg0
 ·obtain ⟨b1,o1,e2,h6,h7⟩:=h5 k hlt
  simp only [Option.some.injEq,Addr.mk.injEq,and_true] at e2;obtain ⟨rfl,rfl⟩:=e2;exact (hcell _).trans h7
theorem next_any (g:Nat) (r:List Int) (val n:Int) (w:World) (h:CodesAt w g r val) (h1:1≤n) (h2:n≤256) :
  Calls Try.prog 12 #[.pointer (some ⟨g,0,none⟩),.int .i64 n] w fun e w'=>e=.returned (.int .i64 (nxt r n))∧CodesAt w' g r.tail val∧w.grownBy w' (some g):=by
 have h0:=h;obtain ⟨v,l,k,hg,hl,hk,hr,hv⟩:=h;have hmx:=hl.1;by_cases hlt:k<l.length
 ·obtain ⟨b,off,cap,rfl,hcap,hb,hc⟩:=hl.open (by rintro rfl; simp at hlt)
  have c0:=cell_of_row w g 0 _ _ _ hg;have c1:=cell_of_row w g 1 _ _ _ hg;have f1:=frozen_of_row w g 1 _ _ hg;simp at c0 c1;have hu:=hl.2.1 (l.getD k 0) (by simp [List.getD_eq_getElem?_getD,hlt]);have ST:=Lib.hid fun m q=>codes_step (w:=w.drewN m) hg (hl.drew m) hlt (hv (by rintro rfl; simp at hlt) _ _ _ rfl _ rfl) q;have hre:r.isEmpty=false:=by rw [hr]; simp; omega
  have hn:=Lib.hid (show nxt r n=l.getD k 0 % n by rw [hr,List.drop_eq_getElem_cons hlt]; simp [nxt,List.getD_eq_getElem?_getD,hlt]);have L:=Lib.hid fun w'=>left_any g r val w';have H0:=Lib.hid h0;have HR:=Lib.hid hr;have hkx:k≤140737488351232:=by omega
  generalize l.getD k 0=x at *;have hx:0≤x∧x<256:=by rw [hu,IntKind.wrap_u8]; omega
  obtain ⟨hx0,hx1⟩:=hx;have e1:=Int.tmod_eq_emod_of_nonneg (b:=n) hx0;have e2:=Int.emod_nonneg x (show n≠0 by omega);have e3:=Int.emod_lt_of_pos x (show 0<n by omega);have hltI:(k:Int)<l.length:=by omega
  clear hg hl hc hv hr h0 hu;have EX:=Lib.hid e1;clear e1;go_enter Try.func12,Try.ntmps12;go_wp2_with (go_at_call 28; refine (L.out _ H0.out).mono ?_; rintro e w' ⟨m,rfl,rfl⟩);obtain ⟨s1,s5,s2,s3,s4⟩:=ST.out m 0;have SS:=Lib.hid (And.intro s1 s5);clear s1 s5 c0 c1 f1;generalize (w.drewN m).setCell _ _=W1 at *;go_quiet (fail);go_wp2;go_ret;exact ⟨ret_i64 (hn.out.symm),by rw [HR.out]; exact SS.out.1,⟨SS.out.2.os,SS.out.2.tape,SS.out.2.output,SS.out.2.size,SS.out.2.block⟩⟩
 ·have hr0:r=[]:=by rw [hr]; simp; omega
  subst hr0;have L:=Lib.hid fun w'=>left_any g [] val w';have H0:=Lib.hid h0;clear hg hl hv hr h0;go_enter Try.func12,Try.ntmps12;go_wp2_with (go_at_call 28; refine (L.out _ H0.out).mono ?_; rintro e w' ⟨m,rfl,rfl⟩);go_ret;exact ⟨rfl,H0.out,⟨rfl,rfl,rfl,Nat.le_refl _,fun _ _ _=>rfl⟩⟩
theorem new_any (v:Value) (l:List Int) (m:Nat) (w:World) (hl:SlI w .u8 v l) (hm:m≤1000) :
  Calls Try.prog 9 #[v,.int .i64 m] w fun e w'=>e=.returned (.pointer (some ⟨w.heap.size,0,none⟩))∧CodesAt w' w.heap.size (l.take m) 0∧Below w.heap.size w w':=by
 have h0:=hl;obtain ⟨m1,m2,a,cap,rfl,hcap,h5⟩:=hl;by_cases hlt:m<l.length
 ·obtain ⟨b,off,rfl,hb,-⟩:=h5 m hlt
  have hlen:(l.take m).length=m:=by simp; omega
  have hfin:SlI (w.alloc (.cells #[.slice (some ⟨b,off,none⟩) m cap,.int .i64 0,.int .u64 0] 70)) .u8 (.slice (some ⟨b,off,none⟩) m cap) (l.take m):=by
   refine ⟨by omega,fun x hx=>m2 x (List.mem_of_mem_take hx),_,cap,by rw [hlen],by omega,fun t ht=>?_⟩;have ht':t<m:=by simp at ht; omega
   obtain ⟨b',off',e,hb',hc⟩:=h5 t (by omega);simp only [Option.some.injEq,Addr.mk.injEq,and_true] at e;obtain ⟨rfl,rfl⟩:=e;refine ⟨b,off,rfl,by simp; omega,?_⟩;rw [World.cell?_alloc_past _ _ _ hb',hc];simp [List.getD_eq_getElem?_getD,ht']
  have HF:=Lib.hid hfin;clear hfin h5;have hmc:(m:Int)≤cap:=by omega
  have hb':b<w.heap.size:=hb;clear hlen h0 m2;go_enter Try.func9,Try.ntmps9;go_wp2;go_ret;exact ⟨rfl,⟨_,l.take m,0,heap_alloc_new w _,HF.out,Nat.zero_le _,rfl,fun _ a n c e b2 e2=>by
   simp only [Value.slice.injEq] at e;rw [← e.1] at e2;cases e2;exact hb'⟩,(Below.refl _ _).alloc (Nat.le_refl _) _⟩
 ·have e:l.take m=l:=List.take_of_length_le (by omega)
  rw [e];have hfin:SlI (w.alloc (.cells #[.slice a l.length cap,.int .i64 0,.int .u64 0] 70)) .u8 (.slice a l.length cap) l:=h0.below ((Below.refl _ _).alloc (Nat.le_refl _) _);have HF:=Lib.hid hfin;have H5:=Lib.hid h5;clear hfin h5 e h0 m2;go_enter Try.func9,Try.ntmps9;go_wp2;go_ret;refine ⟨rfl,⟨_,l,0,heap_alloc_new w _,HF.out,Nat.zero_le _,rfl,fun hne a n c e b2 e2=>?_⟩,(Below.refl _ _).alloc (Nat.le_refl _) _⟩;simp only [Value.slice.injEq] at e;obtain ⟨b,off,e3,hb,_⟩:=H5.out 0 (List.length_pos_iff.2 hne);rw [← e.1,e3] at e2;cases e2;exact hb
def ItemAt (w:World) (g off:Nat) (x:ItemM):Prop:=
 w.cell? ⟨g,off+0,none⟩=some (.int .i64 x.thr)∧w.cell? ⟨g,off+1,none⟩=some (.int .i64 x.acc.kind)∧w.cell? ⟨g,off+2,none⟩=some (.int .i64 x.acc.addr)∧w.cell? ⟨g,off+3,none⟩=some (.int .u64 x.acc.old)∧w.cell? ⟨g,off+4,none⟩=some (.int .u64 x.acc.new)∧w.cell? ⟨g,off+5,none⟩=some (.int .i64 x.acc.til)∧w.cell? ⟨g,off+6,none⟩=some (.int .u64 x.val)∧w.cell? ⟨g,off+7,none⟩=some (.bool x.ok)
def SlT (w:World) (v:Value) (l:List ItemM):Prop:=
 l.length≤140737488351232∧(∀x∈l,x.good)∧∃a cap,v=.slice a l.length cap∧l.length≤cap∧∀t,t<l.length→∃b off,a=some ⟨b,off,none⟩∧b<w.heap.size∧ItemAt w b (off+t * 8) (l.getD t noItem)
theorem SlT.below {w w':World} {v:Value} {l:List ItemM} (h:SlT w v l) (hb:Below w.heap.size w w'):SlT w' v l:=by
 obtain ⟨h1,h2,a,cap,h3,h4,h5⟩:=h;refine ⟨h1,h2,a,cap,h3,h4,fun t ht=>?_⟩;obtain ⟨b,off,e,hlt,c0,c1,c2,c3,c4,c5,c6,c7⟩:=h5 t ht;have hc:∀j,w'.cell? ⟨b,j,none⟩=w.cell? ⟨b,j,none⟩:=fun j=>hb.cell (p:=⟨b,j,none⟩) hlt;exact ⟨b,off,e,Nat.lt_of_lt_of_le hlt hb.size,(hc _).trans c0,(hc _).trans c1,(hc _).trans c2,(hc _).trans c3,(hc _).trans c4,(hc _).trans c5,(hc _).trans c6,(hc _).trans c7⟩
theorem SlT.len {w:World} {v:Value} {l:List ItemM} (h:SlT w v l):∃a cap,v=.slice a l.length cap∧l.length≤cap:=by
 obtain ⟨_,_,a,cap,rfl,h4,_⟩:=h;exact ⟨a,cap,rfl,h4⟩
theorem SlT.nil (w:World):SlT w (.slice none 0 0) []:=⟨by simp,by simp,none,0,rfl,Nat.le_refl _,fun t ht=>by simp at ht⟩
theorem SlT.open {w:World} {v:Value} {l:List ItemM} (h:SlT w v l) (hne:l≠[]) :
  ∃b off cap,v=.slice (some ⟨b,off,none⟩) l.length cap∧l.length≤cap∧b<w.heap.size∧∀t,t<l.length→ItemAt w b (off+t * 8) (l.getD t noItem):=by
 obtain ⟨_,_,a,cap,rfl,h4,h5⟩:=h;obtain ⟨b,off,rfl,hlt,_⟩:=h5 0 (List.length_pos_iff.2 hne);refine ⟨b,off,cap,rfl,h4,hlt,fun t ht=>?_⟩;obtain ⟨b',off',e,_,hc⟩:=h5 t ht;simp only [Option.some.injEq,Addr.mk.injEq] at e;obtain ⟨rfl,rfl,_⟩:=e;exact hc
def OwnT (w:World) (base:Nat) (v:Value) (l:List ItemM):Prop:=
 w.ownsRow base 104 8 v l.length (l.flatMap itemCells)
theorem flatT_get (l:List ItemM) (t j:Nat) (ht:t<l.length) (hj:j<8):(l.flatMap itemCells)[t * 8+j]?=(itemCells (l.getD t noItem))[j]?:=by
 induction l generalizing t with
 | nil=>simp at ht
 | cons x l ih=>
  rw [List.flatMap_cons];have hx:(itemCells x).length=8:=rfl;cases t with
  | zero=>rw [List.getElem?_append_left (by rw [hx]; omega)]; simp
  | succ t=>
   rw [List.getElem?_append_right (by rw [hx]; omega),hx,show (t+1) * 8+j - 8=t * 8+j by omega,ih t (by simpa using ht)];simp
theorem OwnT.nil (w:World) (base:Nat):OwnT w base (.slice none 0 0) []:=World.ownsRow_nil w base _ 8
theorem OwnT.shape {w:World} {base:Nat} {v:Value} {l:List ItemM} (h:OwnT w base v l) :
  (v=.slice none 0 0∧l=[])∨∃g cap,v=.slice (some ⟨g,0,none⟩) l.length cap∧base≤g∧g<w.heap.size∧l.length≤cap:=by
 rcases h.2 with ⟨rfl,h2⟩ | ⟨g,cap,cur,rfl,h3,h4,h5,h6,_,_⟩
 ·exact .inl ⟨rfl,List.length_eq_zero_iff.1 h2⟩
 ·exact .inr ⟨g,cap,rfl,h3,(Array.getElem?_eq_some_iff.1 h4).1,h5⟩
theorem OwnT.len {w:World} {base:Nat} {v:Value} {l:List ItemM} (h:OwnT w base v l):∃a cap,v=.slice a l.length cap:=by
 rcases h.shape with ⟨rfl,rfl⟩ | ⟨g,cap,rfl,_⟩
 ·exact ⟨_,_,rfl⟩
 ·exact ⟨_,_,rfl⟩
theorem OwnT.read {w:World} {base:Nat} {v:Value} {l:List ItemM} (h:OwnT w base v l) (hl:l.length≤140737488351232) (hw:∀x∈l,x.good):SlT w v l:=by
 have h0:=h;rcases h.shape with ⟨rfl,rfl⟩ | ⟨g,cap,rfl,h1,h2,h3⟩
 ·exact SlT.nil w
 ·refine ⟨hl,hw,some ⟨g,0,none⟩,cap,rfl,h3,fun t ht=>⟨g,0,rfl,h2,?_⟩⟩
  have hc:∀j,j<8→w.cell? ⟨g,t * 8+j,none⟩=(itemCells (l.getD t noItem))[j]?:=fun j hj=>by
   rw [World.ownsRow.cellAt h0 (t * 8+j) (by omega),flatT_get l t j ht hj]
  have c0:=hc 0 (by omega);have c1:=hc 1 (by omega);have c2:=hc 2 (by omega);have c3:=hc 3 (by omega);have c4:=hc 4 (by omega);have c5:=hc 5 (by omega);have c6:=hc 6 (by omega);have c7:=hc 7 (by omega);rw [Nat.zero_add];exact ⟨by simpa [itemCells] using c0,by simpa [itemCells] using c1,by simpa [itemCells] using c2,by simpa [itemCells] using c3,by simpa [itemCells] using c4,by simpa [itemCells] using c5,by simpa [itemCells] using c6,by simpa [itemCells] using c7⟩
theorem OwnT.kept {w w':World} {base:Nat} {v:Value} {l:List ItemM} {row:Option Nat} (h:OwnT w base v l) (hg:w.grownBy w' row) (hne:v.ownBlock=none∨v.ownBlock≠row):OwnT w' base v l:=World.ownsRow.kept h hg hne
theorem OwnT.alloc {w:World} {base:Nat} {v:Value} {l:List ItemM} (h:OwnT w base v l) (o:Obj):OwnT (w.alloc o) base v l:=World.ownsRow.alloc h o
theorem OwnT.own_ge {w:World} {base:Nat} {v:Value} {l:List ItemM} (h:OwnT w base v l):∀j,v.ownBlock=some j→base≤j:=fun j hj=>(World.ownsRow.lt h j hj).1
theorem OwnT.ne {w:World} {base:Nat} {v:Value} {l:List ItemM} (h:OwnT w base v l) {g:Nat} (hg:g<base):v.ownBlock=none∨v.ownBlock≠some g:=by
 cases hv:v.ownBlock with
 | none=>exact .inl rfl
 | some b=>exact .inr fun e=>by have:=h.own_ge b hv; cases e; omega
theorem OwnT.below {w w':World} {base:Nat} {v:Value} {l:List ItemM} (h:OwnT w base v l) (hb:Below w.heap.size w w'):OwnT w' base v l:=by
 refine h.kept (row:=none) ⟨hb.os,hb.tape,hb.output,hb.size,fun j hj _=>hb.block j hj⟩ ?_;cases hv:v.ownBlock with
 | none=>exact .inl rfl
 | some x=>exact .inr (by simp)
theorem OwnT.mono_base {w:World} {base b':Nat} {v:Value} {l:List ItemM} (h:OwnT w base v l) (hb:b'≤base):OwnT w b' v l:=by
 refine ⟨h.1,?_⟩;rcases h.2 with h1 | ⟨g,cap,cur,h1,h2,h3⟩
 ·exact .inl h1
 ·exact .inr ⟨g,cap,cur,h1,Nat.le_trans hb h2,h3⟩
theorem Try.info_item:(Try.prog.info? 104).map (fun i=>(i.zero,i.size,i.bytes))=some (some (.agg #[.int .i64 0,.int .i64 0,.int .i64 0,.int .u64 0,.int .u64 0,.int .i64 0,.int .u64 0,.bool false]),8,64):=by kernel_rfl
section
variable (w:World) {ops:Array Oper} {rest:List Oper} {o:Oper} {a:Act} {Q:Exit→Act→World→Prop}
end
def zeroItem:Array Value:=#[.int .i64 0,.int .i64 0,.int .i64 0,.int .u64 0,.int .u64 0,.int .i64 0,.int .u64 0,.bool false]
structure CaseM where
 send:Bool
 chan:Int
 val:Int
structure OpM where
 kind:Int
 mode:Int
 chan:Int
 val:Int
 dl:Int
 cases:List CaseM
 draws:List Int
def CaseM.ok (c:CaseM):Prop:=c.chan=IntKind.i64.wrap c.chan∧c.val=IntKind.u64.wrap c.val
def noCase:CaseM:=⟨false,0,0⟩
def CaseAt (w:World) (b o:Nat) (c:CaseM):Prop:=
 w.cell? ⟨b,o,none⟩=some (.bool c.send)∧w.cell? ⟨b,o+1,none⟩=some (.int .i64 c.chan)∧w.cell? ⟨b,o+2,none⟩=some (.int .u64 c.val)
def SlC (w:World) (v:Value) (l:List CaseM):Prop:=
 l.length≤140737488351232∧(∀x∈l,x.ok)∧∃a cap,v=.slice a l.length cap∧l.length≤cap∧
  ∀t,t<l.length→∃b off,a=some ⟨b,off,none⟩∧b<w.heap.size∧CaseAt w b (off+t * 3) (l.getD t noCase)
theorem CaseAt.below {w w':World} {b o B:Nat} {c:CaseM} (h:CaseAt w b o c) (hb:b<B) (hw:Below B w w'):CaseAt w' b o c:=
 ⟨(hw.cell (p:=⟨b,o,none⟩) hb).trans h.1,(hw.cell (p:=⟨b,o+1,none⟩) hb).trans h.2.1,(hw.cell (p:=⟨b,o+2,none⟩) hb).trans h.2.2⟩
theorem SlC.below {w w':World} {v:Value} {l:List CaseM} (h:SlC w v l) (hb:Below w.heap.size w w'):SlC w' v l:=by
 obtain ⟨h1,h2,a,cap,h3,h4,h5⟩:=h;refine ⟨h1,h2,a,cap,h3,h4,fun t ht=>?_⟩;obtain ⟨b,off,e,hlt,hc⟩:=h5 t ht;exact ⟨b,off,e,Nat.lt_of_lt_of_le hlt hb.size,hc.below hlt hb⟩
theorem SlC.drew {w:World} {v:Value} {l:List CaseM} (h:SlC w v l) (n:Nat):SlC (w.drewN n) v l:=h
theorem SlC.len {w:World} {v:Value} {l:List CaseM} (h:SlC w v l):∃a cap,v=.slice a l.length cap:=by
 obtain ⟨_,_,a,cap,rfl,_⟩:=h;exact ⟨a,cap,rfl⟩
theorem SlC.nil (w:World):SlC w (.slice none 0 0) []:=
 ⟨by simp,by simp,none,0,rfl,Nat.le_refl _,fun t ht=>by simp at ht⟩
def OpV (w:World) (v:Value) (op:OpM):Prop:=
 ∃vc vd,v=.agg #[.int .i64 op.kind,.int .i64 op.mode,.int .i64 op.chan,.int .u64 op.val,.int .i64 op.dl,vc,vd]∧SlC w vc op.cases∧SlI w .i64 vd op.draws
theorem OpV.below {w w':World} {v:Value} {op:OpM} (h:OpV w v op) (hb:Below w.heap.size w w'):OpV w' v op:=by
 obtain ⟨vc,vd,e,h1,h2⟩:=h;exact ⟨vc,vd,e,h1.below hb,h2.below hb⟩
theorem OpV.drew {w:World} {v:Value} {op:OpM} (h:OpV w v op) (n:Nat):OpV (w.drewN n) v op:=h
structure ConfM where
 caps:List Int
 starts:List Int
 threads:Int
def ConfV (w:World) (v:Value) (c:ConfM):Prop:=
 ∃vc vs,v=.agg #[vc,vs,.int .i64 c.threads]∧SlI w .i64 vc c.caps∧SlI w .u64 vs c.starts
theorem ConfV.below {w w':World} {v:Value} {c:ConfM} (h:ConfV w v c) (hb:Below w.heap.size w w'):ConfV w' v c:=by
 obtain ⟨vc,vd,e,h1,h2⟩:=h;exact ⟨vc,vd,e,h1.below hb,h2.below hb⟩
theorem ConfV.drew {w:World} {v:Value} {c:ConfM} (h:ConfV w v c) (n:Nat):ConfV (w.drewN n) v c:=h
structure ConfM.good (c:ConfM):Prop where
 len:c.caps.length≤8
 same:c.starts.length=c.caps.length
 caps:∀x∈c.caps,0≤x∧x≤16
 starts:∀x∈c.starts,0≤x∧x<9223372036854775808
 thr:1≤c.threads∧c.threads≤8
structure MachM where
 what:Int
 pl:Int
 chan:Int
 thr:Int
 idx:Int
 kind:Int
 val:Int
 t:Int
 h:Int
 ok:Int
 ov:Int
def machL (vc vs:Value) (th:Int) (m:MachM):List Value:=[.int .i64 m.what,.int .i64 m.pl,vc,vs,.int .i64 th,.int .i64 m.chan,.int .i64 m.thr,.int .i64 m.idx,.int .i64 m.kind,.int .u64 m.val,.int .u64 m.t,.int .u64 m.h,.int .i64 m.ok,.int .u64 m.ov]
structure WV where
 cA:Option Addr
 cc:Nat
 sA:Option Addr
 sc:Nat
 mA:Option Addr
 mc:Nat
 nA:Option Addr
 nc:Nat
 lA:Option Addr
 lc:Nat
 tA:Option Addr
 tc:Nat
 pA:Option Addr
 pc:Nat
 fA:Option Addr
 fc:Nat
structure WM where
 c:ConfM
 m:MemM
 l:List MachM
 t:List ItemM
 p:List (List Value × MemM)
 f:List (List Value)
def WV.vc (x:WV) (c:ConfM):Value:=.slice x.cA c.caps.length x.cc
def WV.vs (x:WV) (c:ConfM):Value:=.slice x.sA c.starts.length x.sc
def WV.vl (x:WV) (y:WM):Value:=.slice x.lA y.l.length x.lc
def WV.vt (x:WV) (y:WM):Value:=.slice x.tA y.t.length x.tc
def WV.vp (x:WV) (y:WM):Value:=.slice x.pA y.p.length x.pc
def WV.vf (x:WV) (y:WM):Value:=.slice x.fA y.f.length x.fc
def WV.mem (x:WV) (y:WM):Array Value:=#[.slice x.mA y.m.words.length x.mc,.slice x.nA y.m.lists.length x.nc,.int .i64 y.m.tick]
def WV.row (x:WV) (y:WM):Array Value:=#[.slice x.cA y.c.caps.length x.cc,.slice x.sA y.c.starts.length x.sc,.int .i64 y.c.threads,.slice x.mA y.m.words.length x.mc,.slice x.nA y.m.lists.length x.nc,.int .i64 y.m.tick,.slice x.lA y.l.length x.lc,.slice x.tA y.t.length x.tc,.slice x.pA y.p.length x.pc,.slice x.fA y.f.length x.fc]
def addrB (a:Option Addr):Option Nat:=a.map (·.block)
def WV.S (x:WV) (E:List (Option Nat)) (B:Nat):List (Option Nat):=E ++ [some B,addrB x.lA,addrB x.tA,addrB x.pA,addrB x.fA]
theorem own_addr (a:Option Addr) (n c:Nat):(Value.slice a n c).ownBlock=addrB a:=by cases a <;> rfl
structure WI (WT:TypeId) (w0 wr:World) (E:List (Option Nat)) (B D:Nat) (x:WV) (y:WM):Prop where
 w0B:w0.heap.size≤B
 eW:∀j,some j∈E→w0.heap.size≤j∧j<wr.heap.size
 BD:B<D
 Dw:D≤wr.heap.size
 row:wr.heap[B]?=some (.cells (x.row y) WT (0,0))
 conf:∀w2,OffS (x.S E B) wr w2→SlI w2 .i64 (x.vc y.c) y.c.caps∧SlI w2 .u64 (x.vs y.c) y.c.starts
 good:y.c.good
 mem:StM (OffS (x.S E B) wr) (.agg (x.mem y)) y.m
 fits:y.m.fits
 ol:OwnS wr D 58 14 (x.vl y) (y.l.map (machL (x.vc y.c) (x.vs y.c) y.c.threads))
 ot:OwnS wr D 104 8 (x.vt y) (y.t.map itemCells)
 op:OwnS wr D 34 3 (x.vp y) (y.p.map Prod.fst)
 of:OwnS wr D 61 5 (x.vf y) y.f
 past:∀z∈y.p,StM (OffS (x.S E B) wr) (.agg z.1.toArray) z.2
 below:Below w0.heap.size w0 wr
section
variable {WT:TypeId} {w0 wr w2:World} {E:List (Option Nat)} {B D:Nat} {x:WV} {y:WM}
theorem WI.lt (h:WI WT w0 wr E B D x y):B<wr.heap.size:=(Array.getElem?_eq_some_iff.1 h.row).1
theorem WI.Slt (h:WI WT w0 wr E B D x y):∀j,some j∈x.S E B→j<wr.heap.size:=by
 intro j hj;simp only [WV.S,List.mem_append,List.mem_cons,List.not_mem_nil,or_false,Option.some.injEq] at hj;have k:∀{a:Option Addr} {n c:Nat} {e:TypeId} {s:Nat} {r:List (List Value)},OwnS wr D e s (.slice a n c) r→some j=addrB a→j<wr.heap.size:=fun ho e=>(ho.lt j (by rw [own_addr]; exact e.symm)).2;rcases hj with e | rfl | e | e | e | e
 ·exact (h.eW j e).2
 ·exact h.lt
 ·exact k h.ol e
 ·exact k h.ot e
 ·exact k h.op e
 ·exact k h.of e
theorem WI.next (h:WI WT w0 wr E B D x y) (hb:Below wr.heap.size wr w2):WI WT w0 w2 E B D x y:=
 ⟨h.w0B,fun j hj=>⟨(h.eW j hj).1,Nat.lt_of_lt_of_le (h.eW j hj).2 hb.size⟩,h.BD,Nat.le_trans h.Dw hb.size,(hb.block B h.lt).trans h.row,fun w3 h3=>h.conf w3 ((OffS.below hb).trans1 h3),h.good,h.mem.sub fun w3 h3=>(OffS.below hb).trans1 h3,h.fits,h.ol.below hb,h.ot.below hb,h.op.below hb,h.of.below hb,fun z hz=>(h.past z hz).sub fun w3 h3=>(OffS.below hb).trans1 h3,below_then h.below hb⟩
theorem WI.drawn {g:Nat} (h:WI WT w0 wr E B D x y) (hgE:some g∈E) (hgB:g<B) (hg:wr.grownBy w2 (some g)):WI WT w0 w2 E B D x y:=by
 have h3:=h.BD;have o:OffS (x.S E B) wr w2:=OffS.grown hg (.inr (by simp [WV.S,hgE]));exact ⟨h.w0B,fun j hj=>⟨(h.eW j hj).1,Nat.lt_of_lt_of_le (h.eW j hj).2 hg.size⟩,h.BD,Nat.le_trans h.Dw hg.size,(hg.block B h.lt (by simp; omega)).trans h.row,fun w3 h4=>h.conf w3 (o.trans1 h4),h.good,h.mem.sub fun w3 h4=>o.trans1 h4,h.fits,h.ol.kept hg (h.ol.ne (by omega)),h.ot.kept hg (h.ot.ne (by omega)),h.op.kept hg (h.op.ne (by omega)),h.of.kept hg (h.of.ne (by omega)),fun z hz=>(h.past z hz).sub fun w3 h4=>o.trans1 h4,h.below.grown hg h.below.size (fun k hk=>by cases hk; exact (h.eW g hgE).1)⟩
theorem WI.confV (h:WI WT w0 wr E B D x y):ConfV wr (.agg #[x.vc y.c,x.vs y.c,.int .i64 y.c.threads]) y.c:=⟨_,_,rfl,h.conf wr (OffS.self _ _)⟩
end
theorem OffS.mono {S S2:List (Option Nat)} {w w2:World} (h:OffS S w w2) (hs:∀j,some j∈S→some j∈S2):OffS S2 w w2:=⟨h.1,fun j hj hn=>h.2 j hj (fun e=>hn (hs j e))⟩
theorem WI.exempt {WT:TypeId} {w0 wr w2:World} {E:List (Option Nat)} {B D:Nat} {x:WV} {y:WM} (h:WI WT w0 wr E B D x y) (hb:Below wr.heap.size wr w2) (A:Nat) (hA:wr.heap.size≤A) (hA2:A<w2.heap.size):WI WT w0 w2 (some A :: E) B D x y:=by
 have h1:=h.next hb;have hin:∀w3,OffS (x.S (some A :: E) B) w2 w3→OffS (x.S E B) wr w3:=fun w3 h3=>(OffS.below (S:=x.S E B) hb).trans h3 fun j hj hm=>by
  simp only [WV.S,List.cons_append,List.mem_cons,Option.some.injEq] at hm;rcases hm with rfl | hm
  ·omega
  ·exact hm
 exact ⟨h1.w0B,fun j hj=>by
  simp only [List.mem_cons,Option.some.injEq] at hj;rcases hj with rfl | hj
  ·exact ⟨by have:=h.below.size; omega,hA2⟩
  ·exact h1.eW j hj,h1.BD,h1.Dw,h1.row,fun w3 h3=>h.conf w3 (hin w3 h3),h1.good,h.mem.sub hin,h1.fits,h1.ol,h1.ot,h1.op,h1.of,fun z hz=>(h.past z hz).sub hin,h1.below⟩
theorem WI.settle {WT AT:TypeId} {w0 wr w2:World} {E:List (Option Nat)} {B D A:Nat} {x:WV} {y:WM} {cs:Array Value} (h:WI WT w0 wr (some A :: E) B D x y) (hA:wr.heap[A]?=some (.cells cs AT (0,0))) (hAB:B<A) (hg:wr.grownBy w2 (some A)) (h1:AT≠58) (h2:AT≠104) (h3:AT≠34) (h4:AT≠61) :
  WI WT w0 w2 E B D x y∧∀w3,OffS (x.S E B) w2 w3→OffS (x.S (some A :: E) B) wr w3:=by
 have hin:∀w3,OffS (x.S E B) w2 w3→OffS (x.S (some A :: E) B) wr w3:=fun w3 h5=>by
  have o1:OffS (x.S (some A :: E) B) wr w2:=OffS.grown hg (.inr (by simp [WV.S]));exact o1.trans1 (h5.mono fun j hj=>by simp only [WV.S,List.cons_append,List.mem_cons] at hj ⊢; exact .inr hj)
 have k:∀{e:TypeId} {s:Nat} {v:Value} {r:List (List Value)},OwnS wr D e s v r→AT≠e→OwnS w2 D e s v r:=fun ho he=>ho.kept hg (by
  rcases ho.2.2 with ⟨rfl,_⟩ | ⟨b,cap,cur,rfl,_,hb,_⟩
  ·exact .inl rfl
  ·refine .inr ?_
   simp only [Value.ownBlock,ne_eq,Option.some.injEq];rintro rfl;rw [hA] at hb;simp at hb;exact he hb.2)
 exact ⟨⟨h.w0B,fun j hj=>⟨(h.eW j (List.mem_cons_of_mem _ hj)).1,Nat.lt_of_lt_of_le (h.eW j (List.mem_cons_of_mem _ hj)).2 hg.size⟩,h.BD,Nat.le_trans h.Dw hg.size,(hg.block B h.lt (by simp; omega)).trans h.row,fun w3 h5=>h.conf w3 (hin w3 h5),h.good,h.mem.sub hin,h.fits,k h.ol h1,k h.ot h2,k h.op h3,k h.of h4,fun z hz=>(h.past z hz).sub hin,h.below.grown hg h.below.size (fun j hj=>by cases hj; exact (h.eW A (List.mem_cons_self ..)).1)⟩,hin⟩
def FrI (R:(World→Prop)→ConfM→List Value→MachM→Prop) (G:World→Prop) (y:WM):Prop:=y.f.length=y.l.length∧∀i (h1:i<y.f.length) (h2:i<y.l.length),R G y.c y.f[i] y.l[i]
theorem and63 (x:Int) (h0:0≤x) (h1:x<18446744073709551616):bits BinOp.and IntKind.u64 x 9223372036854775807=x % 9223372036854775808:=by
 rw [u64_and x 9223372036854775807 h0 h1 (by omega) (by omega)];have:=Nat.and_two_pow_sub_one_eq_mod x.toNat 63;rw [show (9223372036854775807:Int).toNat=2 ^ 63 - 1 from rfl,this];omega
theorem or1 (x:Int) (h0:0≤x) (h1:x<18446744073709551616) (h2:x % 2=0):bits BinOp.or IntKind.u64 x 1=x+1:=by
 rw [u64_or x 1 h0 h1 (by omega) (by omega)];have:=nat_join 1 x.toNat 1 (by omega) (by omega);rw [show (1:Int).toNat=1 from rfl,this];omega
def nextI (a n:Int):Int:=(a+n) % 9223372036854775808
theorem nextI_eq (a n:Int):bits BinOp.and IntKind.u64 (IntKind.u64.wrap (a+IntKind.u64.wrap n)) 9223372036854775807=nextI a n:=by
 unfold nextI;rw [IntKind.wrap_u64,IntKind.wrap_u64,and63 _ (by omega) (by omega)];omega
def packI (s:Int) (c:Bool):Int:=(s * 2) % 18446744073709551616+if c then 1 else 0
theorem packI_true (s:Int):bits BinOp.or IntKind.u64 (IntKind.u64.wrap (s * 2)) 1=packI s true:=by
 unfold packI;rw [IntKind.wrap_u64,or1 _ (by omega) (by omega) (by omega)];simp
theorem packI_false (s:Int):IntKind.u64.wrap (s * 2)=packI s false:=by
 unfold packI;rw [IntKind.wrap_u64];simp
def slotI (a n:Int):Int:=if n<1 then 0 else a % 9223372036854775808 % n
theorem slotI_small (a n:Int) (h:n<1):0=slotI a n:=by unfold slotI; rw [if_pos h]
theorem slotI_eq (a n:Int) (h0:0≤a) (h1:a<18446744073709551616) (h:1≤n) :
  wrap64 ((bits BinOp.and IntKind.u64 a 9223372036854775807).tmod n)=slotI a n:=by
 unfold slotI;rw [if_neg (by omega),and63 a h0 h1,Int.tmod_eq_emod_of_nonneg (by omega)];have h2:=Int.emod_nonneg (a % 9223372036854775808) (show n≠0 by omega);have h3:a % 9223372036854775808 % n≤a % 9223372036854775808:=by
  have:=Int.emod_add_mul_ediv (a % 9223372036854775808) n;have h4:0≤n * (a % 9223372036854775808 / n):=Int.mul_nonneg (by omega) (Int.ediv_nonneg (by omega) (by omega));omega
 unfold wrap64;omega
def sizeI (k:Int):Int:=if k<1 then 1 else if k=1 then 2 else if 1073741824<k then 0 else 2 * 2 ^ Nat.log2 (k.toNat - 1)
theorem sizeI_low (k:Int) (h:k<1):sizeI k=1:=by unfold sizeI; rw [if_pos h]
theorem sizeI_one:sizeI 1=2:=by unfold sizeI; rw [if_neg (by omega),if_pos rfl]
theorem sizeI_high (k:Int) (h:1073741824<k):sizeI k=0:=by
 unfold sizeI; rw [if_neg (by omega),if_neg (by omega),if_pos h]
theorem sizeI_of (k:Int) (j:Nat) (h2:2≤k) (h3:k≤1073741824) (h4:(2:Int) ^ j<k) (h5:k≤2 * 2 ^ j):sizeI k=2 * 2 ^ j:=by
 unfold sizeI;rw [if_neg (by omega),if_neg (by omega),if_neg (by omega)];have e:((2 ^ j:Nat):Int)=(2:Int) ^ j:=by simp
 have e1:(k.toNat - 1).log2=j:=by
  rw [Nat.log2_eq_iff (by omega),Nat.pow_succ];omega
 rw [e1]
theorem rqnext_any (a n:Int) (w:World) :
  Calls Try.prog 48 #[.int .u64 a,.int .i64 n] w fun e w'=>e=.returned (.int .u64 (nextI a n))∧w=w':=by
 go_enter Try.func48,Try.ntmps48;go_wp2;go_ret;exact ⟨ret_u64 (nextI_eq a n),rfl⟩
theorem rpack_any (a:Int) (c:Bool) (w:World) :
  Calls Try.prog 45 #[.int .u64 a,.bool c] w fun e w'=>e=.returned (.int .u64 (packI a c))∧w=w':=by
 cases c
 ·go_enter Try.func45,Try.ntmps45
  go_wp2;go_ret;exact ⟨ret_u64 (packI_false a),rfl⟩
 ·go_enter Try.func45,Try.ntmps45
  go_wp2;go_ret;exact ⟨ret_u64 (packI_true a),rfl⟩
theorem rslot_any (a n:Int) (w:World) (h0:0≤a) (h1:a<18446744073709551616) (h2:-9223372036854775808≤n) (h3:n≤9223372036854775807) :
  Calls Try.prog 69 #[.int .u64 a,.int .i64 n] w fun e w'=>e=.returned (.int .i64 (slotI a n))∧w=w':=by
 by_cases h:n<1
 ·have E':=Lib.hid (slotI_small a n h)
  go_enter Try.func69,Try.ntmps69;go_wp2;go_ret;exact ⟨ret_i64 E'.out,rfl⟩
 ·have E':=Lib.hid (slotI_eq a n h0 h1 (by omega))
  go_enter Try.func69,Try.ntmps69;go_wp2;go_ret;exact ⟨ret_i64 E'.out,rfl⟩
theorem size_any (k:Int) (w:World) (h2:-9223372036854775808≤k) (h3:k≤9223372036854775807) :
  Calls Try.prog 89 #[.int .i64 k] w fun e w'=>e=.returned (.int .i64 (sizeI k))∧w=w':=by
 by_cases h:k<1
 ·have E':=Lib.hid (sizeI_low k h)
  go_enter Try.func89,Try.ntmps89;go_wp2;go_ret;exact ⟨ret_i64 E'.out.symm,rfl⟩
 ·by_cases h1:k=1
  ·subst h1
   go_enter Try.func89,Try.ntmps89;go_wp2;go_ret;exact ⟨ret_i64 sizeI_one.symm,rfl⟩
  ·by_cases h4:1073741824<k
   ·have E':=Lib.hid (sizeI_high k h4)
    go_enter Try.func89,Try.ntmps89;go_wp2;go_ret;exact ⟨ret_i64 E'.out.symm,rfl⟩
   ·have g1:2≤k:=by omega
    have g2:k≤1073741824:=by omega
    clear h h1 h4 h2 h3;go_enter Try.func89,Try.ntmps89;go_wp2;go_loop [3] (fun t=>∃p:Int,∃j:Nat,Hid (p=2 ^ j)∧1≤p∧p<k∧t=.int .i64 (p * 2)) (fun t=>(2147483648 - intOf t).toNat)
    case atStart=>exact ⟨1,0,Lib.hid (by simp),by omega,by omega,rfl⟩
    case round=>
     obtain ⟨p,j,hp,p1,p2,rfl⟩:=hrel;by_cases hlt:p * 2<k
     ·go_wp2
      go_round
      case rel=>exact ⟨p * 2,j+1,Lib.hid (by rw [Int.pow_succ,hp.out]),by omega,by omega,rfl⟩
      case measure=>simp [intOf]; omega
     ·have E':=Lib.hid (sizeI_of k j g1 g2 (by rw [← hp.out]; exact p2) (by rw [← hp.out]; omega))
      go_wp2;go_ret;exact ⟨ret_i64 (by rw [E'.out,hp.out,Int.mul_comm]),rfl⟩
theorem rsize_any (k:Int) (w:World) (h2:-9223372036854775808≤k) (h3:k≤9223372036854775807) :
  Calls Try.prog 68 #[.int .i64 k] w fun e w'=>e=.returned (.int .i64 (sizeI k))∧w=w':=by
 by_cases h4:1073741824<k
 ·have E':=Lib.hid (sizeI_high k h4)
  go_enter Try.func68,Try.ntmps68;go_wp2;go_ret;exact ⟨ret_i64 E'.out.symm,rfl⟩
 ·by_cases h1:k=1
  ·subst h1
   go_enter Try.func68,Try.ntmps68;go_wp2;go_ret;exact ⟨ret_i64 sizeI_one.symm,rfl⟩
  ·by_cases h:k<1
   ·have E':=Lib.hid (sizeI_low k h)
    go_enter Try.func68,Try.ntmps68;go_wp2;go_loop [3] (fun t=>t=.int .i64 1) (fun _=>0)
    case atStart=>rfl
    case round=>
     subst hrel;go_wp2;go_ret;exact ⟨ret_i64 E'.out.symm,rfl⟩
   ·have g1:2≤k:=by omega
    have g2:k≤1073741824:=by omega
    have hn:(k == 1)=false:=by simpa using h1
    clear h h1 h4 h2 h3;go_enter Try.func68,Try.ntmps68;go_wp2;go_loop [3] (fun t=>∃p:Int,∃j:Nat,Hid (p=2 ^ j)∧1≤p∧p≤2 * (k - 1)∧t=.int .i64 p) (fun t=>(2147483648 - intOf t).toNat)
    case atStart=>exact ⟨1,0,Lib.hid (by simp),by omega,by omega,rfl⟩
    case round=>
     obtain ⟨p,j,hp,p1,p2,rfl⟩:=hrel;by_cases hlt:p<k
     ·go_wp2
      go_round
      case rel=>exact ⟨p * 2,j+1,Lib.hid (by rw [Int.pow_succ,hp.out]),by omega,by omega,rfl⟩
      case measure=>simp [intOf]; omega
     ·have E':Hid (sizeI k=p):=Lib.hid (by
       cases j with
       | zero=>have:=hp.out; simp at this; omega
       | succ i=>
        have e:=hp.out;rw [Int.pow_succ] at e;rw [sizeI_of k i g1 g2 (by omega) (by omega),e,Int.mul_comm])
      go_wp2;go_ret;exact ⟨ret_i64 E'.out.symm,rfl⟩
theorem sizeI_16 (x:Int) (h0:0≤x) (h1:x≤16):1≤sizeI x∧sizeI x≤16:=by
 rcases (show x=0∨x=1∨x=2∨x=3∨x=4∨x=5∨x=6∨x=7∨x=8∨x=9∨x=10∨x=11∨x=12∨x=13∨x=14∨x=15∨x=16 by omega) with rfl | rfl | rfl | rfl | rfl | rfl | rfl | rfl | rfl | rfl | rfl | rfl | rfl | rfl | rfl | rfl | rfl <;> decide +kernel
theorem slotI_lt (a n:Int) (h0:0≤a) (hn:1≤n):0≤slotI a n∧slotI a n<n:=by
 unfold slotI;rw [if_neg (by omega)];exact ⟨Int.emod_nonneg _ (by omega),Int.emod_lt_of_pos _ (by omega)⟩
theorem ConfM.good.cap {c:ConfM} (h:c.good) (k:Nat) (hk:k<c.caps.length):0≤c.caps.getD k 0∧c.caps.getD k 0≤16:=by
 rw [List.getD_eq_getElem?_getD,List.getElem?_eq_getElem hk];exact h.caps _ (List.getElem_mem hk)
def ConfM.size (c:ConfM) (k:Nat):Int:=sizeI (c.caps.getD k 0)
theorem ConfM.good.size {c:ConfM} (h:c.good) (k:Nat) (hk:k<c.caps.length):1≤c.size k∧c.size k≤16:=sizeI_16 _ (h.cap k hk).1 (h.cap k hk).2
def ConfM.base (c:ConfM):Nat→Int
 | 0=>0
 | k+1=>c.base k+(5+c.size k * 2)
theorem ConfM.good.base {c:ConfM} (h:c.good) (k:Nat) (hk:k≤c.caps.length):0≤c.base k∧c.base k≤37 * k:=by
 induction k with
 | zero=>exact ⟨Int.le_refl _,Int.le_refl _⟩
 | succ k ih=>
  have h1:=ih (by omega);have h2:=h.size k (by omega);show 0≤c.base k+(5+c.size k * 2)∧c.base k+(5+c.size k * 2)≤_;omega
theorem ConfM.good.base8 {c:ConfM} (h:c.good) (k:Nat) (hk:k≤c.caps.length):0≤c.base k∧c.base k≤296:=by
 have h1:=h.base k hk;have h2:=h.len;omega
def ConfM.slotW (c:ConfM) (k:Nat) (s:Int):Int:=c.base k+5+slotI s (c.size k) * 2
def ConfM.thrW (c:ConfM) (t:Int):Int:=c.base c.caps.length+t * 11
theorem SlI.cellAt {w:World} {k:IntKind} {a:Option Addr} {n cap:Nat} {l:List Int} (h:SlI w k (.slice a n cap) l) (t:Nat) (ht:t<l.length) :
  ∃b off,a=some ⟨b,off,none⟩∧b<w.heap.size∧w.cell? ⟨b,off+t,none⟩=some (.int k (l.getD t 0)):=by
 obtain ⟨_,_,a',cap',e,_,h5⟩:=h;simp only [Value.slice.injEq] at e;obtain ⟨rfl,_,_⟩:=e;exact h5 t ht
theorem slots_any (v:Value) (c:ConfM) (k:Nat) (w:World) (h:ConfV w v c) (hk:k<c.caps.length) (hg:c.good) :
  Calls Try.prog 88 #[v,.int .i64 k] w fun e w'=>e=.returned (.int .i64 (c.size k))∧Below w.heap.size w w':=by
 have HV:=Lib.hid h;obtain ⟨vc,vs,rfl,h1,h2⟩:=h;obtain ⟨a,cap,rfl,-⟩:=h1.len;obtain ⟨a2,cap2,rfl,-⟩:=h2.len;have hl:=hg.len;have HB:=Lib.hid (below_new (Below.refl w.heap.size w) (.cells #[.slice a c.caps.length cap,.slice a2 c.starts.length cap2,.int .i64 c.threads] 31));have T:=Lib.hid fun w'=>size_any (c.caps.getD k 0) w' (by have:=hg.cap k hk; omega) (by have:=hg.cap k hk; omega);obtain ⟨b,off,rfl,hb,hcell⟩:=h1.cellAt k hk;have hcell:(w.alloc (.cells #[.slice (some ⟨b,off,none⟩) c.caps.length cap,.slice a2 c.starts.length cap2,.int .i64 c.threads] 31)).cell? ⟨b,off+k,none⟩=some (.int .i64 (c.caps.getD k 0)):=(HB.out.cell (p:=⟨b,off+k,none⟩) hb).trans hcell;have hsz:Hid (c.size k=sizeI (c.caps.getD k 0)):=rfl;clear h1 h2;generalize c.caps.length=n at *;generalize c.caps.getD k 0=x at *;go_enter Try.func88,Try.ntmps88;go_wp2_with fail;refine (T.out _).mono ?_; rintro e w1 ⟨rfl,rfl⟩;go_wp2;go_ret;exact ⟨ret_i64 hsz.out.symm,HB.out⟩
theorem rsize4_any (v:Value) (c:ConfM) (k:Nat) (w:World) (h:ConfV w v c) (hk:k<c.caps.length) (hg:c.good) :
  Calls Try.prog 47 #[v,.int .i64 k] w fun e w'=>e=.returned (.int .i64 (c.size k))∧Below w.heap.size w w':=by
 have HV:=Lib.hid h;obtain ⟨vc,vs,rfl,h1,h2⟩:=h;obtain ⟨a,cap,rfl,-⟩:=h1.len;obtain ⟨a2,cap2,rfl,-⟩:=h2.len;have hl:=hg.len;have HB:=Lib.hid (below_new (Below.refl w.heap.size w) (.cells #[.slice a c.caps.length cap,.slice a2 c.starts.length cap2,.int .i64 c.threads] 31));have T:=Lib.hid fun w'=>rsize_any (c.caps.getD k 0) w' (by have:=hg.cap k hk; omega) (by have:=hg.cap k hk; omega);obtain ⟨b,off,rfl,hb,hcell⟩:=h1.cellAt k hk;have hcell:(w.alloc (.cells #[.slice (some ⟨b,off,none⟩) c.caps.length cap,.slice a2 c.starts.length cap2,.int .i64 c.threads] 31)).cell? ⟨b,off+k,none⟩=some (.int .i64 (c.caps.getD k 0)):=(HB.out.cell (p:=⟨b,off+k,none⟩) hb).trans hcell;have hsz:Hid (c.size k=sizeI (c.caps.getD k 0)):=rfl;clear h1 h2;generalize c.caps.length=n at *;generalize c.caps.getD k 0=x at *;go_enter Try.func47,Try.ntmps47;go_wp2_with fail;refine (T.out _).mono ?_; rintro e w1 ⟨rfl,rfl⟩;go_wp2;go_ret;exact ⟨ret_i64 hsz.out.symm,HB.out⟩
set_option maxHeartbeats 1000000 in
theorem base_any (v:Value) (c:ConfM) (k:Nat) (w:World) (h:ConfV w v c) (hk:k≤c.caps.length) (hg:c.good) :
  Calls Try.prog 87 #[v,.int .i64 k] w fun e w'=>e=.returned (.int .i64 (c.base k))∧Below w.heap.size w w':=by
 have HV:=Lib.hid h;obtain ⟨vc,vs,rfl,h1,h2⟩:=h;obtain ⟨a,cap,rfl,-⟩:=h1.len;obtain ⟨a2,cap2,rfl,-⟩:=h2.len;have hl:=hg.len;have HB:=Lib.hid (below_new (Below.refl w.heap.size w) (.cells #[.slice a c.caps.length cap,.slice a2 c.starts.length cap2,.int .i64 c.threads] 31));have T:=Lib.hid fun j (w':World) h hj=>slots_any (.agg #[.slice a c.caps.length cap,.slice a2 c.starts.length cap2,.int .i64 c.threads]) c j w' h hj hg;have HN:=Lib.hid fun j hj=>hg.base8 j hj;have HZ:=Lib.hid fun j hj=>hg.size j hj;have HK:=Lib.hid hk;have hk8:k≤8:=by omega
 obtain ⟨W,hW⟩:∃W,w.alloc (.cells #[.slice a c.caps.length cap,.slice a2 c.starts.length cap2,.int .i64 c.threads] 31)=W:=⟨_,rfl⟩;rw [hW] at HB;have R0:Hid (W.heap[w.heap.size]?=some (.cells #[.slice a c.caps.length cap,.slice a2 c.starts.length cap2,.int .i64 c.threads] 31 (0,0))):=hW▸heap_alloc_new _ _;have hzW:w.heap.size+1=W.heap.size:=by rw [← hW]; simp
 have HW:=Lib.hid hW;have hcl:(c.caps.length:Int)≤8:=by omega
 clear h1 h2 hg hW;go_enter Try.func87,Try.ntmps87;go_upto_region 1 with fail
 rw [HW.out];clear HW;obtain ⟨x0,x1,x2⟩:=rowc3 R0.out;go_wp2_with fail;go_loopw [5,12] (fun s i wr=>∃j:Nat,j≤k∧s=.int .i64 (c.base j)∧i=.int .i64 j∧Hid (Below W.heap.size W wr)) (fun _ i _=>9 - (intOf i).toNat)
 case atStart=>exact ⟨0,by omega,rfl,rfl,Below.refl _ _⟩
 case round=>
  obtain ⟨j,hj,rfl,rfl,hb⟩:=hrel;obtain ⟨wo,rfl⟩:∃wo:World,wo=wr:=⟨_,rfl⟩;have SB:=Lib.hid ((hb.out.block w.heap.size (by omega)).trans R0.out);have hn:=HN.out j (by have:=HK.out; omega);clear x0 x1 x2;obtain ⟨x0,x1,x2⟩:=rowc3 SB.out;by_cases hlt:j<k
  ·have hz:=HZ.out j (by have:=HK.out; omega)
   have hjn:=Lib.hid (show j<c.caps.length by have:=HK.out; omega);have HBS:Hid (c.base (j+1)=c.base j+(5+c.size j * 2)):=rfl;go_wp2_with fail;refine (T.out j _ ((HV.out.below HB.out).below hb.out) hjn.out).mono ?_; rintro e w1 ⟨rfl,hb1⟩;have hb2:=Lib.hid (below_then hb.out hb1);clear hb1 hb;go_wp2;go_roundw
   case rel=>exact ⟨j+1,by omega,by (first | (rw [HBS.out]; done) | (rw [HBS.out]; exact congrArg (Value.int .i64) (by omega))),by go_num,hb2⟩
   case measure=>simp [intOf]; omega
  ·obtain rfl:j=k:=by omega
   go_wp2;go_ret;exact ⟨rfl,below_then HB.out hb.out⟩
set_option maxHeartbeats 1000000 in
theorem rtail_any (v:Value) (c:ConfM) (k:Nat) (w:World) (h:ConfV w v c) (hk:k≤c.caps.length) (hg:c.good) :
  Calls Try.prog 29 #[v,.int .i64 k] w fun e w'=>e=.returned (.int .i64 (c.base k))∧Below w.heap.size w w':=by
 have HV:=Lib.hid h;obtain ⟨vc,vs,rfl,h1,h2⟩:=h;obtain ⟨a,cap,rfl,-⟩:=h1.len;obtain ⟨a2,cap2,rfl,-⟩:=h2.len;have hl:=hg.len;have HB:=Lib.hid (below_new (Below.refl w.heap.size w) (.cells #[.slice a c.caps.length cap,.slice a2 c.starts.length cap2,.int .i64 c.threads] 31));have T:=Lib.hid fun j (w':World) h hj=>rsize4_any (.agg #[.slice a c.caps.length cap,.slice a2 c.starts.length cap2,.int .i64 c.threads]) c j w' h hj hg;have HN:=Lib.hid fun j hj=>hg.base8 j hj;have HZ:=Lib.hid fun j hj=>hg.size j hj;have HK:=Lib.hid hk;have hk8:k≤8:=by omega
 obtain ⟨W,hW⟩:∃W,w.alloc (.cells #[.slice a c.caps.length cap,.slice a2 c.starts.length cap2,.int .i64 c.threads] 31)=W:=⟨_,rfl⟩;rw [hW] at HB;have R0:Hid (W.heap[w.heap.size]?=some (.cells #[.slice a c.caps.length cap,.slice a2 c.starts.length cap2,.int .i64 c.threads] 31 (0,0))):=hW▸heap_alloc_new _ _;have hzW:w.heap.size+1=W.heap.size:=by rw [← hW]; simp
 have HW:=Lib.hid hW;have hcl:(c.caps.length:Int)≤8:=by omega
 clear h1 h2 hg hW;go_enter Try.func29,Try.ntmps29;go_upto_region 1 with fail
 rw [HW.out];clear HW;obtain ⟨x0,x1,x2⟩:=rowc3 R0.out;go_wp2_with fail;go_loopw [5,6] (fun s i wr=>∃j:Nat,j≤k∧s=.int .i64 (c.base j)∧i=.int .i64 j∧Hid (Below W.heap.size W wr)) (fun _ i _=>9 - (intOf i).toNat)
 case atStart=>exact ⟨0,by omega,rfl,rfl,Below.refl _ _⟩
 case round=>
  obtain ⟨j,hj,rfl,rfl,hb⟩:=hrel;obtain ⟨wo,rfl⟩:∃wo:World,wo=wr:=⟨_,rfl⟩;have SB:=Lib.hid ((hb.out.block w.heap.size (by omega)).trans R0.out);have hn:=HN.out j (by have:=HK.out; omega);clear x0 x1 x2;obtain ⟨x0,x1,x2⟩:=rowc3 SB.out;by_cases hlt:j<k
  ·have hz:=HZ.out j (by have:=HK.out; omega)
   have hjn:=Lib.hid (show j<c.caps.length by have:=HK.out; omega);have HBS:Hid (c.base (j+1)=c.base j+(5+c.size j * 2)):=rfl;go_wp2_with fail;refine (T.out j _ ((HV.out.below HB.out).below hb.out) hjn.out).mono ?_; rintro e w1 ⟨rfl,hb1⟩;have hb2:=Lib.hid (below_then hb.out hb1);clear hb1 hb;go_wp2;go_roundw
   case rel=>exact ⟨j+1,by omega,by (first | (rw [HBS.out]; done) | (rw [HBS.out]; exact congrArg (Value.int .i64) (by omega))),by go_num,hb2⟩
   case measure=>simp [intOf]; omega
  ·obtain rfl:j=k:=by omega
   go_wp2;go_ret;exact ⟨rfl,below_then HB.out hb.out⟩
set_option maxHeartbeats 1000000 in
theorem rheadW_any (v:Value) (c:ConfM) (k:Nat) (hk:k<c.caps.length) (w:World) (h:ConfV w v c) (hg:c.good) :
  Calls Try.prog 46 #[v,.int .i64 k] w fun e w'=>e=.returned (.int .i64 (c.base k+1))∧Below w.heap.size w w':=by
 have HV:=Lib.hid h;obtain ⟨vc,vs,rfl,h1,h2⟩:=h;obtain ⟨a,cap,rfl,-⟩:=h1.len;obtain ⟨a2,cap2,rfl,-⟩:=h2.len;have HB:=Lib.hid (below_new (Below.refl w.heap.size w) (.cells #[.slice a c.caps.length cap,.slice a2 c.starts.length cap2,.int .i64 c.threads] 31));have hl:=hg.len;clear h1 h2;have hn:=hg.base8 k (Nat.le_of_lt hk);go_enter Try.func46,Try.ntmps46;go_wp2_with fail;refine (rtail_any _ c k _ (HV.out.below HB.out) (Nat.le_of_lt hk) hg).mono ?_; rintro e w1 ⟨rfl,hb1⟩;have HB1:=Lib.hid (below_then HB.out hb1);clear hb1;go_wp2;go_ret;exact ⟨ret_i64 (by omega),HB1.out⟩
set_option maxHeartbeats 1000000 in
theorem thr_any (v:Value) (c:ConfM) (t:Int) (h0:0≤t) (h8:t≤8) (w:World) (h:ConfV w v c) (hg:c.good) :
  Calls Try.prog 86 #[v,.int .i64 t] w fun e w'=>e=.returned (.int .i64 (c.thrW t))∧Below w.heap.size w w':=by
 have HV:=Lib.hid h;obtain ⟨vc,vs,rfl,h1,h2⟩:=h;obtain ⟨a,cap,rfl,-⟩:=h1.len;obtain ⟨a2,cap2,rfl,-⟩:=h2.len;have HB:=Lib.hid (below_new (Below.refl w.heap.size w) (.cells #[.slice a c.caps.length cap,.slice a2 c.starts.length cap2,.int .i64 c.threads] 31));have hl:=hg.len;clear h1 h2;have hn:=hg.base8 c.caps.length (Nat.le_refl _);have HE:Hid (c.thrW t=c.base c.caps.length+t * 11):=rfl;have hcl:(c.caps.length:Int)≤8:=by omega
 go_enter Try.func86,Try.ntmps86;go_wp2_with fail;refine (base_any _ c c.caps.length _ (HV.out.below HB.out) (Nat.le_refl _) hg).mono ?_; rintro e w1 ⟨rfl,hb1⟩;have HB1:=Lib.hid (below_then HB.out hb1);clear hb1;go_wp2;go_ret;exact ⟨ret_i64 (by first | (rw [HE.out]; done) | (rw [HE.out]; omega)),HB1.out⟩
set_option maxHeartbeats 1000000 in
theorem rclaimW_any (v:Value) (c:ConfM) (t:Int) (h0:0≤t) (h8:t≤8) (w:World) (h:ConfV w v c) (hg:c.good) :
  Calls Try.prog 13 #[v,.int .i64 t] w fun e w'=>e=.returned (.int .i64 (c.thrW t))∧Below w.heap.size w w':=by
 have HV:=Lib.hid h;obtain ⟨vc,vs,rfl,h1,h2⟩:=h;obtain ⟨a,cap,rfl,-⟩:=h1.len;obtain ⟨a2,cap2,rfl,-⟩:=h2.len;have HB:=Lib.hid (below_new (Below.refl w.heap.size w) (.cells #[.slice a c.caps.length cap,.slice a2 c.starts.length cap2,.int .i64 c.threads] 31));have hl:=hg.len;clear h1 h2;have hn:=hg.base8 c.caps.length (Nat.le_refl _);have HE:Hid (c.thrW t=c.base c.caps.length+t * 11):=rfl;have hcl:(c.caps.length:Int)≤8:=by omega
 go_enter Try.func13,Try.ntmps13;go_wp2_with fail;refine (rtail_any _ c c.caps.length _ (HV.out.below HB.out) (Nat.le_refl _) hg).mono ?_; rintro e w1 ⟨rfl,hb1⟩;have HB1:=Lib.hid (below_then HB.out hb1);clear hb1;go_wp2;go_ret;exact ⟨ret_i64 (by first | (rw [HE.out]; done) | (rw [HE.out]; omega)),HB1.out⟩
theorem ConfM.good.thr8 {c:ConfM} (h:c.good) (t:Int) (h0:0≤t) (h8:t≤8):0≤c.thrW t∧c.thrW t≤384:=by
 have h1:=h.base8 c.caps.length (Nat.le_refl _);show 0≤c.base c.caps.length+t * 11∧c.base c.caps.length+t * 11≤384;omega
set_option maxHeartbeats 1000000 in
theorem claimW_any (v:Value) (c:ConfM) (t:Int) (h0:0≤t) (h8:t≤8) (w:World) (h:ConfV w v c) (hg:c.good) :
  Calls Try.prog 81 #[v,.int .i64 t] w fun e w'=>e=.returned (.int .i64 (c.thrW t+0))∧Below w.heap.size w w':=by
 have HV:=Lib.hid h;obtain ⟨vc,vs,rfl,h1,h2⟩:=h;obtain ⟨a,cap,rfl,-⟩:=h1.len;obtain ⟨a2,cap2,rfl,-⟩:=h2.len;have HB:=Lib.hid (below_new (Below.refl w.heap.size w) (.cells #[.slice a c.caps.length cap,.slice a2 c.starts.length cap2,.int .i64 c.threads] 31));have hl:=hg.len;clear h1 h2;have hn:=hg.thr8 t h0 h8;go_enter Try.func81,Try.ntmps81;go_wp2_with fail;refine (thr_any _ c t h0 h8 _ (HV.out.below HB.out) hg).mono ?_; rintro e w1 ⟨rfl,hb1⟩;have HB1:=Lib.hid (below_then HB.out hb1);clear hb1;go_wp2;go_ret;exact ⟨ret_i64 (by omega),HB1.out⟩
set_option maxHeartbeats 1000000 in
theorem flagW_any (v:Value) (c:ConfM) (t:Int) (h0:0≤t) (h8:t≤8) (w:World) (h:ConfV w v c) (hg:c.good) :
  Calls Try.prog 82 #[v,.int .i64 t] w fun e w'=>e=.returned (.int .i64 (c.thrW t+1))∧Below w.heap.size w w':=by
 have HV:=Lib.hid h;obtain ⟨vc,vs,rfl,h1,h2⟩:=h;obtain ⟨a,cap,rfl,-⟩:=h1.len;obtain ⟨a2,cap2,rfl,-⟩:=h2.len;have HB:=Lib.hid (below_new (Below.refl w.heap.size w) (.cells #[.slice a c.caps.length cap,.slice a2 c.starts.length cap2,.int .i64 c.threads] 31));have hl:=hg.len;clear h1 h2;have hn:=hg.thr8 t h0 h8;go_enter Try.func82,Try.ntmps82;go_wp2_with fail;refine (thr_any _ c t h0 h8 _ (HV.out.below HB.out) hg).mono ?_; rintro e w1 ⟨rfl,hb1⟩;have HB1:=Lib.hid (below_then HB.out hb1);clear hb1;go_wp2;go_ret;exact ⟨ret_i64 (by omega),HB1.out⟩
set_option maxHeartbeats 1000000 in
theorem rflagW_any (v:Value) (c:ConfM) (t:Int) (h0:0≤t) (h8:t≤8) (w:World) (h:ConfV w v c) (hg:c.good) :
  Calls Try.prog 22 #[v,.int .i64 t] w fun e w'=>e=.returned (.int .i64 (c.thrW t+1))∧Below w.heap.size w w':=by
 have HV:=Lib.hid h;obtain ⟨vc,vs,rfl,h1,h2⟩:=h;obtain ⟨a,cap,rfl,-⟩:=h1.len;obtain ⟨a2,cap2,rfl,-⟩:=h2.len;have HB:=Lib.hid (below_new (Below.refl w.heap.size w) (.cells #[.slice a c.caps.length cap,.slice a2 c.starts.length cap2,.int .i64 c.threads] 31));have hl:=hg.len;clear h1 h2;have hn:=hg.thr8 t h0 h8;go_enter Try.func22,Try.ntmps22;go_wp2_with fail;refine (rclaimW_any _ c t h0 h8 _ (HV.out.below HB.out) hg).mono ?_; rintro e w1 ⟨rfl,hb1⟩;have HB1:=Lib.hid (below_then HB.out hb1);clear hb1;go_wp2;go_ret;exact ⟨ret_i64 (by omega),HB1.out⟩
set_option maxHeartbeats 1000000 in
theorem kindW_any (v:Value) (c:ConfM) (t:Int) (h0:0≤t) (h8:t≤8) (w:World) (h:ConfV w v c) (hg:c.good) :
  Calls Try.prog 83 #[v,.int .i64 t] w fun e w'=>e=.returned (.int .i64 (c.thrW t+2))∧Below w.heap.size w w':=by
 have HV:=Lib.hid h;obtain ⟨vc,vs,rfl,h1,h2⟩:=h;obtain ⟨a,cap,rfl,-⟩:=h1.len;obtain ⟨a2,cap2,rfl,-⟩:=h2.len;have HB:=Lib.hid (below_new (Below.refl w.heap.size w) (.cells #[.slice a c.caps.length cap,.slice a2 c.starts.length cap2,.int .i64 c.threads] 31));have hl:=hg.len;clear h1 h2;have hn:=hg.thr8 t h0 h8;go_enter Try.func83,Try.ntmps83;go_wp2_with fail;refine (thr_any _ c t h0 h8 _ (HV.out.below HB.out) hg).mono ?_; rintro e w1 ⟨rfl,hb1⟩;have HB1:=Lib.hid (below_then HB.out hb1);clear hb1;go_wp2;go_ret;exact ⟨ret_i64 (by omega),HB1.out⟩
set_option maxHeartbeats 1000000 in
theorem rkindW_any (v:Value) (c:ConfM) (t:Int) (h0:0≤t) (h8:t≤8) (w:World) (h:ConfV w v c) (hg:c.good) :
  Calls Try.prog 25 #[v,.int .i64 t] w fun e w'=>e=.returned (.int .i64 (c.thrW t+2))∧Below w.heap.size w w':=by
 have HV:=Lib.hid h;obtain ⟨vc,vs,rfl,h1,h2⟩:=h;obtain ⟨a,cap,rfl,-⟩:=h1.len;obtain ⟨a2,cap2,rfl,-⟩:=h2.len;have HB:=Lib.hid (below_new (Below.refl w.heap.size w) (.cells #[.slice a c.caps.length cap,.slice a2 c.starts.length cap2,.int .i64 c.threads] 31));have hl:=hg.len;clear h1 h2;have hn:=hg.thr8 t h0 h8;go_enter Try.func25,Try.ntmps25;go_wp2_with fail;refine (rclaimW_any _ c t h0 h8 _ (HV.out.below HB.out) hg).mono ?_; rintro e w1 ⟨rfl,hb1⟩;have HB1:=Lib.hid (below_then HB.out hb1);clear hb1;go_wp2;go_ret;exact ⟨ret_i64 (by omega),HB1.out⟩
set_option maxHeartbeats 1000000 in
theorem caseW_any (v:Value) (c:ConfM) (t:Int) (h0:0≤t) (h8:t≤8) (w:World) (h:ConfV w v c) (hg:c.good) :
  Calls Try.prog 84 #[v,.int .i64 t] w fun e w'=>e=.returned (.int .i64 (c.thrW t+3))∧Below w.heap.size w w':=by
 have HV:=Lib.hid h;obtain ⟨vc,vs,rfl,h1,h2⟩:=h;obtain ⟨a,cap,rfl,-⟩:=h1.len;obtain ⟨a2,cap2,rfl,-⟩:=h2.len;have HB:=Lib.hid (below_new (Below.refl w.heap.size w) (.cells #[.slice a c.caps.length cap,.slice a2 c.starts.length cap2,.int .i64 c.threads] 31));have hl:=hg.len;clear h1 h2;have hn:=hg.thr8 t h0 h8;go_enter Try.func84,Try.ntmps84;go_wp2_with fail;refine (thr_any _ c t h0 h8 _ (HV.out.below HB.out) hg).mono ?_; rintro e w1 ⟨rfl,hb1⟩;have HB1:=Lib.hid (below_then HB.out hb1);clear hb1;go_wp2;go_ret;exact ⟨ret_i64 (by omega),HB1.out⟩
set_option maxHeartbeats 1000000 in
theorem rcaseW_any (v:Value) (c:ConfM) (t:Int) (h0:0≤t) (h8:t≤8) (w:World) (h:ConfV w v c) (hg:c.good) :
  Calls Try.prog 26 #[v,.int .i64 t] w fun e w'=>e=.returned (.int .i64 (c.thrW t+3))∧Below w.heap.size w w':=by
 have HV:=Lib.hid h;obtain ⟨vc,vs,rfl,h1,h2⟩:=h;obtain ⟨a,cap,rfl,-⟩:=h1.len;obtain ⟨a2,cap2,rfl,-⟩:=h2.len;have HB:=Lib.hid (below_new (Below.refl w.heap.size w) (.cells #[.slice a c.caps.length cap,.slice a2 c.starts.length cap2,.int .i64 c.threads] 31));have hl:=hg.len;clear h1 h2;have hn:=hg.thr8 t h0 h8;go_enter Try.func26,Try.ntmps26;go_wp2_with fail;refine (rclaimW_any _ c t h0 h8 _ (HV.out.below HB.out) hg).mono ?_; rintro e w1 ⟨rfl,hb1⟩;have HB1:=Lib.hid (below_then HB.out hb1);clear hb1;go_wp2;go_ret;exact ⟨ret_i64 (by omega),HB1.out⟩
set_option maxHeartbeats 1000000 in
theorem valueW_any (v:Value) (c:ConfM) (t:Int) (h0:0≤t) (h8:t≤8) (w:World) (h:ConfV w v c) (hg:c.good) :
  Calls Try.prog 85 #[v,.int .i64 t] w fun e w'=>e=.returned (.int .i64 (c.thrW t+4))∧Below w.heap.size w w':=by
 have HV:=Lib.hid h;obtain ⟨vc,vs,rfl,h1,h2⟩:=h;obtain ⟨a,cap,rfl,-⟩:=h1.len;obtain ⟨a2,cap2,rfl,-⟩:=h2.len;have HB:=Lib.hid (below_new (Below.refl w.heap.size w) (.cells #[.slice a c.caps.length cap,.slice a2 c.starts.length cap2,.int .i64 c.threads] 31));have hl:=hg.len;clear h1 h2;have hn:=hg.thr8 t h0 h8;go_enter Try.func85,Try.ntmps85;go_wp2_with fail;refine (thr_any _ c t h0 h8 _ (HV.out.below HB.out) hg).mono ?_; rintro e w1 ⟨rfl,hb1⟩;have HB1:=Lib.hid (below_then HB.out hb1);clear hb1;go_wp2;go_ret;exact ⟨ret_i64 (by omega),HB1.out⟩
set_option maxHeartbeats 1000000 in
theorem rvalueW_any (v:Value) (c:ConfM) (t:Int) (h0:0≤t) (h8:t≤8) (w:World) (h:ConfV w v c) (hg:c.good) :
  Calls Try.prog 24 #[v,.int .i64 t] w fun e w'=>e=.returned (.int .i64 (c.thrW t+4))∧Below w.heap.size w w':=by
 have HV:=Lib.hid h;obtain ⟨vc,vs,rfl,h1,h2⟩:=h;obtain ⟨a,cap,rfl,-⟩:=h1.len;obtain ⟨a2,cap2,rfl,-⟩:=h2.len;have HB:=Lib.hid (below_new (Below.refl w.heap.size w) (.cells #[.slice a c.caps.length cap,.slice a2 c.starts.length cap2,.int .i64 c.threads] 31));have hl:=hg.len;clear h1 h2;have hn:=hg.thr8 t h0 h8;go_enter Try.func24,Try.ntmps24;go_wp2_with fail;refine (rclaimW_any _ c t h0 h8 _ (HV.out.below HB.out) hg).mono ?_; rintro e w1 ⟨rfl,hb1⟩;have HB1:=Lib.hid (below_then HB.out hb1);clear hb1;go_wp2;go_ret;exact ⟨ret_i64 (by omega),HB1.out⟩
set_option maxHeartbeats 1000000 in
theorem rwords_any (v:Value) (c:ConfM) (w:World) (h:ConfV w v c) (hg:c.good) :
  Calls Try.prog 44 #[v] w fun e w'=>e=.returned (.int .i64 (c.thrW c.threads))∧Below w.heap.size w w':=by
 have HV:=Lib.hid h;obtain ⟨vc,vs,rfl,h1,h2⟩:=h;obtain ⟨a,cap,rfl,-⟩:=h1.len;obtain ⟨a2,cap2,rfl,-⟩:=h2.len;have HB:=Lib.hid (below_new (Below.refl w.heap.size w) (.cells #[.slice a c.caps.length cap,.slice a2 c.starts.length cap2,.int .i64 c.threads] 31));have hl:=hg.len;clear h1 h2;have hn:=hg.thr8 c.threads (by have:=hg.thr; omega) hg.thr.2;go_enter Try.func44,Try.ntmps44;go_wp2_with fail;refine (rclaimW_any _ c c.threads (by have:=hg.thr; omega) hg.thr.2 _ (HV.out.below HB.out) hg).mono ?_; rintro e w1 ⟨rfl,hb1⟩;have HB1:=Lib.hid (below_then HB.out hb1);clear hb1;go_wp2;go_ret;exact ⟨rfl,HB1.out⟩
set_option maxHeartbeats 1000000 in
theorem rslotSeqW_any (v:Value) (c:ConfM) (k:Nat) (s:Int) (hk:k<c.caps.length) (hs0:0≤s) (hs1:s<18446744073709551616) (w:World) (h:ConfV w v c) (hg:c.good) :
  Calls Try.prog 49 #[v,.int .i64 k,.int .u64 s] w fun e w'=>e=.returned (.int .i64 (c.slotW k s))∧Below w.heap.size w w':=by
 have HV:=Lib.hid h;obtain ⟨vc,vs,rfl,h1,h2⟩:=h;obtain ⟨a,cap,rfl,-⟩:=h1.len;obtain ⟨a2,cap2,rfl,-⟩:=h2.len;have HB:=Lib.hid (below_new (Below.refl w.heap.size w) (.cells #[.slice a c.caps.length cap,.slice a2 c.starts.length cap2,.int .i64 c.threads] 31));have hl:=hg.len;clear h1 h2;have hn:=hg.base8 k (Nat.le_of_lt hk);have hz:=hg.size k hk;have hq:=slotI_lt s (c.size k) hs0 hz.1;have HE:Hid (c.slotW k s=c.base k+5+slotI s (c.size k) * 2):=rfl;have S:=Lib.hid fun w' h=>rsize4_any (.agg #[.slice a c.caps.length cap,.slice a2 c.starts.length cap2,.int .i64 c.threads]) c k w' h hk hg;have SL:=Lib.hid fun w'=>rslot_any s (c.size k) w' hs0 hs1 (by omega) (by omega);have BA:=Lib.hid fun w' h=>rtail_any (.agg #[.slice a c.caps.length cap,.slice a2 c.starts.length cap2,.int .i64 c.threads]) c k w' h (Nat.le_of_lt hk) hg;obtain ⟨W,hW⟩:∃W,w.alloc (.cells #[.slice a c.caps.length cap,.slice a2 c.starts.length cap2,.int .i64 c.threads] 31)=W:=⟨_,rfl⟩;rw [hW] at HB;have R0:Hid (W.heap[w.heap.size]?=some (.cells #[.slice a c.caps.length cap,.slice a2 c.starts.length cap2,.int .i64 c.threads] 31 (0,0))):=hW▸heap_alloc_new _ _;have hzW:w.heap.size<W.heap.size:=by rw [← hW]; simp
 have HW:=Lib.hid hW;clear hW;generalize hqq:slotI s (c.size k)=q at *;clear hs0 hs1 hk hg hqq;go_enter Try.func49,Try.ntmps49;go_upto_region 1 with fail
 rw [HW.out];clear HW;obtain ⟨x0,x1,x2⟩:=rowc3 R0.out;have X0:=ext_cell _ 0 hzW _ x0;have X1:=ext_cell _ 1 hzW _ x1;have X2:=ext_cell _ 2 hzW _ x2;have CX0:=Lib.hid X0;clear x0 x1 x2;refine wp_region_ext W (by kernel_rfl) (by kernel_rfl) (Below.refl _ _) ?_
 repeat (go_big_quiet_step (first
  | (go_at_call 29; with_reducible exact calls_ext (BA.out _ (HV.out.below (HB.out.trans (Below.mono (Ext.below _) (Nat.le_of_lt hzW))))))
  | (go_at_call 47; with_reducible exact calls_ext (S.out _ (HV.out.below (HB.out.trans (Below.mono (Ext.below _) (Nat.le_of_lt hzW))))))
  | (go_at_call 69; with_reducible exact calls_ext ((SL.out _).mono fun _ _ h=>⟨h.1,h.2▸Below.refl _ _⟩))))
 refine wpQuiet_nil ?_;intro _ hw';obtain ⟨w2,rfl⟩:=hw';have HB2:=Lib.hid (HB.out.trans (w2.below.mono (Nat.le_of_lt hzW)));generalize w2.wd=w3 at *;go_wp2;go_ret;exact ⟨ret_i64 (by first | (rw [HE.out]; done) | (rw [HE.out]; omega)),HB2.out⟩
def capB (x:Int):Bool:=decide (0≤x) && decide (x≤16)
def startB (x:Int):Bool:=decide (x<9223372036854775808)
def checkC (c:ConfM):Int:=
 if 8<c.caps.length then 3 else if c.starts.length≠c.caps.length then 5 else if c.caps.all capB=false then 2 else if c.starts.all startB=false then 2 else
 if c.threads<1∨8<c.threads then 2 else 0
theorem checkC_good {c:ConfM} (h:c.good):checkC c=0:=by
 have h1:=h.len;have h2:=h.thr;have h3:c.caps.all capB=true:=List.all_eq_true.2 fun x hx=>by have:=h.caps x hx; simp [capB,this]
 have h4:c.starts.all startB=true:=List.all_eq_true.2 fun x hx=>by have:=h.starts x hx; simp [startB,this]
 unfold checkC;rw [if_neg (by omega),if_neg (by simp [h.same]),if_neg (by simp [h3]),if_neg (by simp [h4]),if_neg (by omega)]
theorem good_of_check {c:ConfM} (h:checkC c=0) (hs:∀x∈c.starts,0≤x):c.good:=by
 unfold checkC at h;split at h
 ·omega
 split at h
 ·omega
 split at h
 ·omega
 split at h
 ·omega
 split at h
 ·omega
 rename_i h1 h2 h3 h4 h5;simp only [Bool.not_eq_false] at h3 h4;refine ⟨by omega,by simpa using h2,fun x hx=>?_,fun x hx=>?_,by omega⟩
 ·have:=List.all_eq_true.1 h3 x hx
  simpa [capB] using this
 ·have:=List.all_eq_true.1 h4 x hx
  simp [startB] at this;exact ⟨hs x hx,this⟩
theorem checkC_many {c:ConfM} (h:8<c.caps.length):checkC c=3:=by unfold checkC; rw [if_pos h]
theorem checkC_shape {c:ConfM} (h:¬8<c.caps.length) (h2:c.starts.length≠c.caps.length):checkC c=5:=by unfold checkC; rw [if_neg h,if_pos h2]
theorem all_bad {l:List Int} {p:Int→Bool} (j:Nat) (h:j<l.length) (hb:p (l.getD j 0)=false):l.all p=false:=by
 rw [List.all_eq_false];rw [List.getD_eq_getElem?_getD,List.getElem?_eq_getElem h] at hb;exact ⟨_,List.getElem_mem h,by simpa using hb⟩
theorem all_next {l:List Int} {p:Int→Bool} (j:Nat) (h:j<l.length) (ha:(l.take j).all p=true) (hb:p (l.getD j 0)=true):(l.take (j+1)).all p=true:=by
 rw [List.take_add_one,List.getElem?_eq_getElem h,List.all_append,ha];rw [List.getD_eq_getElem?_getD,List.getElem?_eq_getElem h] at hb;simpa using hb
theorem checkC_caps {c:ConfM} (h:¬8<c.caps.length) (h2:c.starts.length=c.caps.length) (h3:c.caps.all capB=false):checkC c=2:=by
 unfold checkC; rw [if_neg h,if_neg (by simp [h2]),if_pos h3]
theorem checkC_starts {c:ConfM} (h:¬8<c.caps.length) (h2:c.starts.length=c.caps.length) (h4:c.starts.all startB=false):checkC c=2:=by
 unfold checkC; rw [if_neg h,if_neg (by simp [h2])]; simp only [h4,if_true]; split <;> rfl
theorem checkC_thr {c:ConfM} (h:¬8<c.caps.length) (h2:c.starts.length=c.caps.length) (h3:c.caps.all capB=true) (h4:c.starts.all startB=true):checkC c=if c.threads<1∨8<c.threads then 2 else 0:=by
 unfold checkC; rw [if_neg h,if_neg (by simp [h2]),if_neg (by simp [h3]),if_neg (by simp [h4])]
set_option maxHeartbeats 2000000 in
theorem rcheckC_any (v:Value) (c:ConfM) (w:World) (h:ConfV w v c) :
  Calls Try.prog 43 #[v] w fun e w'=>e=.returned (.int .i64 (checkC c))∧Below w.heap.size w w':=by
 obtain ⟨vc,vs,rfl,h1,h2⟩:=h;have hn:=h1.1;have hm:=h2.1;obtain ⟨a,cap,rfl,-⟩:=h1.len;obtain ⟨a2,cap2,rfl,-⟩:=h2.len;obtain ⟨W,hW⟩:∃W,w.alloc (.cells #[.slice a c.caps.length cap,.slice a2 c.starts.length cap2,.int .i64 c.threads] 31)=W:=⟨_,rfl⟩;have HB:Hid (Below w.heap.size w W):=hW▸below_new (Below.refl w.heap.size w) _;have R0:Hid (W.heap[w.heap.size]?=some (.cells #[.slice a c.caps.length cap,.slice a2 c.starts.length cap2,.int .i64 c.threads] 31 (0,0))):=hW▸heap_alloc_new _ _;have S1:=Lib.hid (h1.below HB.out);have S2:=Lib.hid (h2.below HB.out);have HW:=Lib.hid hW;clear h1 h2 hW;have CM:=Lib.hid (checkC_many (c:=c));have CS:=Lib.hid (checkC_shape (c:=c));have CC:=Lib.hid (checkC_caps (c:=c));have CT:=Lib.hid (checkC_starts (c:=c));have CZ:=Lib.hid (checkC_thr (c:=c));generalize hcn:c.caps.length=n at *;generalize hcm:c.starts.length=m at *;have HN:=Lib.hid hcn;have HM:=Lib.hid hcm;clear hcn hcm;generalize c.threads=thr at *;go_enter Try.func43,Try.ntmps43;go_upto_region 1 with fail
 rw [HW.out];clear HW;obtain ⟨x0,x1,x2⟩:=rowc3 R0.out;by_cases h8:8<n
 ·go_wp2
  go_ret;exact ⟨ret_i64 (CM.out h8).symm,HB.out⟩
 by_cases hs:m=n
 case neg=>
  have hsb:((m:Int) != (n:Int))=true:=by simp; omega
  have HS:=Lib.hid hs;clear hs;go_wp2;go_ret;exact ⟨ret_i64 (CS.out h8 HS.out).symm,HB.out⟩
 case pos=>
 subst hs;go_wp2_with fail;go_loop [3] (fun i=>∃j:Nat,j≤m∧i=.int .i64 j∧Hid ((c.caps.take j).all capB=true)) (fun i=>9 - (intOf i).toNat)
 case atStart=>exact ⟨0,by omega,rfl,(by simp:(c.caps.take 0).all capB=true)⟩
 case round=>
  obtain ⟨j,hj,rfl,hall⟩:=hrel;by_cases hlt:j<m
  ·obtain ⟨b,off,rfl,hb,hc⟩:=S1.out.cellAt j (by rw [HN.out]; exact hlt)
   have BD:=Lib.hid fun h=>all_bad (l:=c.caps) (p:=capB) j (by rw [HN.out]; exact hlt) h;have NX:=Lib.hid fun h=>all_next (l:=c.caps) (p:=capB) j (by rw [HN.out]; exact hlt) hall.out h;generalize c.caps.getD j 0=x at *;by_cases h0:0≤x∧x≤16
   ·obtain ⟨h0,h1⟩:=h0
    have hx:=Lib.hid (NX.out (by simp [capB,h0,h1]));clear BD NX;go_wp2;go_round
    case rel=>exact ⟨j+1,by omega,by go_num,hx⟩
    case measure=>simp [intOf]; omega
   ·have hx:=Lib.hid (CC.out h8 (by trivial) (BD.out (by simp [capB]; omega)))
    clear BD NX;by_cases hx0:x<0
    ·go_wp2
     go_ret;exact ⟨ret_i64 hx.out.symm,HB.out⟩
    ·have hx1:16<x:=by omega
     clear h0;go_wp2;go_ret;exact ⟨ret_i64 hx.out.symm,HB.out⟩
  ·obtain rfl:j=m:=by omega
   have HA:Hid (c.caps.all capB=true):=by
    have:=hall.out;rw [List.take_of_length_le (by rw [HN.out]; exact Nat.le_refl _)] at this;exact this
   clear hall;go_wp2_with fail;go_loop [4] (fun i=>∃t:Nat,t≤j∧i=.int .i64 t∧Hid ((c.starts.take t).all startB=true)) (fun i=>9 - (intOf i).toNat)
   case atStart=>exact ⟨0,by omega,rfl,(by simp:(c.starts.take 0).all startB=true)⟩
   case round=>
    obtain ⟨t,ht,rfl,hall⟩:=hrel;by_cases htl:t<j
    ·obtain ⟨b,off,rfl,hb,hc⟩:=S2.out.cellAt t (by rw [HM.out]; exact htl)
     have BD:=Lib.hid fun h=>all_bad (l:=c.starts) (p:=startB) t (by rw [HM.out]; exact htl) h;have NX:=Lib.hid fun h=>all_next (l:=c.starts) (p:=startB) t (by rw [HM.out]; exact htl) hall.out h;generalize c.starts.getD t 0=x at *;by_cases h0:x<9223372036854775808
     ·have hx:=Lib.hid (NX.out (by simp [startB,h0]))
      clear BD NX;have hxd:decide (9223372036854775808≤x)=false:=decide_eq_false (by omega);clear h0;go_wp2;go_round
      case rel=>exact ⟨t+1,by omega,by go_num,hx⟩
      case measure=>simp [intOf]; omega
     ·have hx:=Lib.hid (CT.out h8 (by trivial) (BD.out (by simp [startB]; omega)))
      clear BD NX;have hxd:decide (9223372036854775808≤x)=true:=decide_eq_true (by omega);clear h0;go_wp2;go_ret;exact ⟨ret_i64 hx.out.symm,HB.out⟩
    ·obtain rfl:t=j:=by omega
     have HA2:Hid (c.starts.all startB=true):=by
      have:=hall.out;rw [List.take_of_length_le (by rw [HM.out]; exact Nat.le_refl _)] at this;exact this
     have HZ:=Lib.hid (CZ.out h8 (by trivial) HA.out HA2.out);clear hall HA HA2;by_cases h1:thr<1
     ·go_wp2
      go_ret;exact ⟨ret_i64 (by rw [HZ.out,if_pos (.inl h1)]),HB.out⟩
     ·by_cases h9:8<thr
      ·go_wp2
       go_ret;exact ⟨ret_i64 (by rw [HZ.out,if_pos (.inr h9)]),HB.out⟩
      ·go_wp2
       go_ret;exact ⟨ret_i64 (by rw [HZ.out,if_neg (by omega)]),HB.out⟩
theorem results_cell_tmp {fn:Func} {P:Program} {p u:Tmp} {t1:TypeId} (h:fn.results=#[.cell p t1,.tmp u]) (tmps:Array Value) (w:World) (g1:Nat) (u1:TypeId) (c1:Array Value) (f1:Nat × Nat) (d1:TypeDesc)
  (hp:tmps.getD p undef=.pointer (some ⟨g1,0,none⟩)) (hg1:w.heap[g1]?=some (.cells c1 u1 f1))
  (hu1:P.underlying t1=some d1) (hd1:(match d1 with | .struct _ | .array _ _=>true | _=>false)=true) (hi1:(P.info? t1).map (·.size)=some c1.size) (x:Value) (hx:tmps.getD u undef=x) :
  (results fn tmps).run P w=.ok (.tuple #[.agg c1,x]) w:=by
 have hp':tmps[p]?.getD undef=.pointer (some ⟨g1,0,none⟩):=by simpa using hp
 have hx':tmps[u]?.getD undef=x:=by simpa using hx
 simp [results,h,hp',hx',asAddr,run_loadVar_row w g1 u1 t1 c1 f1 d1 hg1 hu1 hd1 hi1]
def zeroMem5:Array Value:=#[.slice none 0 0,.slice none 0 0,.int .i64 0]
def ConfM.st (c:ConfM) (k:Nat):Int:=c.starts.getD k 0
def slotsE (c:ConfM) (k:Nat) (ws:List Int):Nat→List Int
 | 0=>ws
 | j+1=>(slotsE c k ws j).set (c.slotW k (nextI (c.st k) j)).toNat (nextI (c.st k) j)
def headE (c:ConfM) (k:Nat) (ws:List Int):List Int:=(ws.set (c.base k).toNat (packI (c.st k) false)).set (c.base k+1).toNat (c.st k)
def chansE (c:ConfM):Nat→List Int
 | 0=>List.replicate (c.thrW c.threads).toNat 0
 | k+1=>slotsE c k (headE c k (chansE c k)) (c.size k).toNat
def newE (c:ConfM):MemM:=if checkC c=0 then ⟨chansE c c.caps.length,List.replicate (2 * c.caps.length) [],0⟩ else ⟨[],[],0⟩
theorem slotsE_len (c:ConfM) (k:Nat) (ws:List Int) (j:Nat):(slotsE c k ws j).length=ws.length:=by
 induction j with
 | zero=>rfl
 | succ j ih=>show (List.set _ _ _).length=_; rw [List.length_set,ih]
theorem headE_len (c:ConfM) (k:Nat) (ws:List Int):(headE c k ws).length=ws.length:=by simp [headE]
theorem chansE_len (c:ConfM) (k:Nat):(chansE c k).length=(c.thrW c.threads).toNat:=by
 induction k with
 | zero=>exact List.length_replicate
 | succ k ih=>show (slotsE _ _ _ _).length=_; rw [slotsE_len,headE_len,ih]
def Wf (l:List Int):Prop:=∀x∈l,x=IntKind.u64.wrap x
theorem Wf.set {l:List Int} (h:Wf l) (i:Nat) (x:Int) (hx:x=IntKind.u64.wrap x):Wf (l.set i x):=by
 intro y hy;rcases List.mem_or_eq_of_mem_set hy with hy | rfl
 ·exact h y hy
 ·exact hx
theorem next_wf (a n:Int):nextI a n=IntKind.u64.wrap (nextI a n):=by rw [IntKind.wrap_u64]; unfold nextI; omega
theorem next_lt (a n:Int):0≤nextI a n∧nextI a n<9223372036854775808:=by unfold nextI; omega
theorem ConfM.good.st {c:ConfM} (h:c.good) (k:Nat) (hk:k<c.caps.length):0≤c.st k∧c.st k<9223372036854775808:=by
 have hk2:k<c.starts.length:=by rw [h.same]; exact hk
 show 0≤c.starts.getD k 0∧c.starts.getD k 0<9223372036854775808;rw [List.getD_eq_getElem?_getD,List.getElem?_eq_getElem hk2];exact h.starts _ (List.getElem_mem hk2)
theorem slotsE_wf (c:ConfM) (k:Nat) {ws:List Int} (h:Wf ws) (j:Nat):Wf (slotsE c k ws j):=by
 induction j with
 | zero=>exact h
 | succ j ih=>exact Wf.set ih _ _ (next_wf _ _)
theorem headE_wf {c:ConfM} {k:Nat} (hs:0≤c.st k∧c.st k<9223372036854775808) {ws:List Int} (h:Wf ws):Wf (headE c k ws):=by
 refine Wf.set (Wf.set h _ _ ?_) _ _ ?_
 ·rw [IntKind.wrap_u64]; unfold packI; simp <;> omega
 ·rw [IntKind.wrap_u64]; omega
theorem chansE_wf {c:ConfM} (hg:c.good) (k:Nat) (hk:k≤c.caps.length):Wf (chansE c k):=by
 induction k with
 | zero=>intro x hx; rw [(List.mem_replicate.1 hx).2]; decide
 | succ k ih=>exact slotsE_wf _ _ (headE_wf (hg.st k (by omega)) (ih (by omega))) _
theorem ConfM.good.mono {c:ConfM} (h:c.good) (k:Nat) (hk:k<c.caps.length):c.base k+(5+c.size k * 2)≤c.base c.caps.length:=by
 have key:∀d,k+1+d≤c.caps.length→c.base (k+1)≤c.base (k+1+d):=by
  intro d;induction d with
  | zero=>intro _; exact Int.le_refl _
  | succ d ih=>
   intro hd;have h1:=ih (by omega);have h2:=h.size (k+1+d) (by omega);have e:c.base (k+1+(d+1))=c.base (k+1+d)+(5+c.size (k+1+d) * 2):=rfl;omega
 have h1:=key (c.caps.length - (k+1)) (by omega);rw [show k+1+(c.caps.length - (k+1))=c.caps.length by omega] at h1;exact h1
theorem ConfM.good.slot_in {c:ConfM} (h:c.good) (k:Nat) (s:Int) (hk:k<c.caps.length) (hs:0≤s):0≤c.slotW k s∧c.slotW k s+1<c.thrW c.threads:=by
 have h1:=h.mono k hk;have h2:=h.base8 k (Nat.le_of_lt hk);have h3:=h.size k hk;have h4:=slotI_lt s (c.size k) hs h3.1;have h5:=h.thr;show 0≤c.base k+5+slotI s (c.size k) * 2∧c.base k+5+slotI s (c.size k) * 2+1<c.base c.caps.length+c.threads * 11;omega
theorem ConfM.good.base_in {c:ConfM} (h:c.good) (k:Nat) (hk:k<c.caps.length):0≤c.base k∧c.base k+1<c.thrW c.threads:=by
 have h1:=h.mono k hk;have h2:=h.base8 k (Nat.le_of_lt hk);have h3:=h.size k hk;have h5:=h.thr;show 0≤c.base k∧c.base k+1<c.base c.caps.length+c.threads * 11;omega
theorem Try.info_lists:(Try.prog.info? 28).map (fun i=>(i.zero,i.size,i.bytes))=some (some (.slice none 0 0),1,24):=by kernel_rfl
theorem nils_read {w:World} {base n:Nat} {v:Value} (h:w.ownsRow base 28 1 v n (List.replicate n (.slice none 0 0))) (hn:n≤1000000):SlL w v (List.replicate n (.slice none 0 0)) (List.replicate n []):=by
 have hl:(List.replicate n ([]:List Int)).length=n:=List.length_replicate;refine row_read (by rw [hl]; exact h) (fun t ht=>?_) (by rw [hl]; omega);rw [hl] at ht;rw [show (List.replicate n (Value.slice none 0 0)).getD t (.slice none 0 0)=.slice none 0 0 by simp [List.getD_eq_getElem?_getD,ht],show (List.replicate n ([]:List Int)).getD t []=[] by simp [List.getD_eq_getElem?_getD,ht]];exact SlI.nil _ _
structure NewI (w0 wr:World) (X t:Nat) (ws:List Int):Prop where
 row:OwnI wr X 23 .u64 (.slice (some ⟨X,0,none⟩) t t) ws
 len:ws.length=t
 below:Below X w0 wr
theorem NewI.next {w0 wr w2:World} {X t:Nat} {ws:List Int} (h:NewI w0 wr X t ws) (hb:Below wr.heap.size wr w2):NewI w0 w2 X t ws:=by
 have hX:X≤wr.heap.size:=by
  rcases h.row.shape with ⟨h1,_⟩ | ⟨g,cap,h1,_,h2,_⟩
  ·simp at h1
  ·simp only [Value.slice.injEq,Option.some.injEq,Addr.mk.injEq] at h1; omega
 exact ⟨h.row.below hb,h.len,h.below.trans (hb.mono hX)⟩
theorem NewI.set {w0 wr:World} {X t:Nat} {ws:List Int} (h:NewI w0 wr X t ws) (i:Nat) (x:Int):NewI w0 (wr.setCell ⟨X,i,none⟩ (.int .u64 x)) X t (ws.set i x):=
 ⟨h.row.store i x h.len.symm,by rw [List.length_set]; exact h.len,h.below.setCell (p:=⟨X,i,none⟩) (Nat.le_refl _) _⟩
theorem rowc14 {w:World} {g:Nat} {T:TypeId} {v0 v1 v2 v3 v4 v5 v6 v7 v8 v9 v10 v11 v12 v13:Value} (h:w.heap[g]?=some (.cells #[v0,v1,v2,v3,v4,v5,v6,v7,v8,v9,v10,v11,v12,v13] T (0,0))) :
  w.cell? ⟨g,0,none⟩=some v0∧w.cell? ⟨g,1,none⟩=some v1∧w.cell? ⟨g,2,none⟩=some v2∧w.cell? ⟨g,3,none⟩=some v3∧w.cell? ⟨g,4,none⟩=some v4∧w.cell? ⟨g,5,none⟩=some v5∧w.cell? ⟨g,6,none⟩=some v6∧w.cell? ⟨g,7,none⟩=some v7∧w.cell? ⟨g,8,none⟩=some v8∧w.cell? ⟨g,9,none⟩=some v9∧w.cell? ⟨g,10,none⟩=some v10∧w.cell? ⟨g,11,none⟩=some v11∧w.cell? ⟨g,12,none⟩=some v12∧w.cell? ⟨g,13,none⟩=some v13:=
 ⟨cell_of_row _ _ 0 _ _ _ h,cell_of_row _ _ 1 _ _ _ h,cell_of_row _ _ 2 _ _ _ h,cell_of_row _ _ 3 _ _ _ h,cell_of_row _ _ 4 _ _ _ h,cell_of_row _ _ 5 _ _ _ h,cell_of_row _ _ 6 _ _ _ h,cell_of_row _ _ 7 _ _ _ h,cell_of_row _ _ 8 _ _ _ h,cell_of_row _ _ 9 _ _ _ h,cell_of_row _ _ 10 _ _ _ h,cell_of_row _ _ 11 _ _ _ h,cell_of_row _ _ 12 _ _ _ h,cell_of_row _ _ 13 _ _ _ h⟩
theorem two_new (w:World) (a b:Obj):∃W,(w.alloc a).alloc b=W∧Hid (Below w.heap.size w W)∧Hid (W.heap[w.heap.size]?=some a)∧Hid (W.heap[w.heap.size+1]?=some b)∧w.heap.size+2=W.heap.size:=
 ⟨_,rfl,below_new (below_new (Below.refl w.heap.size w) _) _,heap_alloc2_old _ _ _,heap_alloc2_new _ _ _,by simp⟩
theorem three_new (w:World) (a b c:Obj):∃W,((w.alloc a).alloc b).alloc c=W∧Hid (Below w.heap.size w W)∧Hid (W.heap[w.heap.size]?=some a)∧Hid (W.heap[w.heap.size+1]?=some b)∧Hid (W.heap[w.heap.size+2]?=some c)∧w.heap.size+3=W.heap.size:=by
 refine ⟨_,rfl,below_new (below_new (below_new (Below.refl w.heap.size w) _) _) _,Lib.hid ?_,Lib.hid ?_,Lib.hid ?_,by simp⟩
 ·rw [heap_alloc_old _ _ (by simp <;> omega),heap_alloc_old _ _ (by simp <;> omega),heap_alloc_new]
 ·rw [heap_alloc_old _ _ (by simp <;> omega)]
  have:=heap_alloc_new (w.alloc a) b;simpa using this
 ·have:=heap_alloc_new ((w.alloc a).alloc b) c
  simpa using this
set_option maxHeartbeats 4000000 in
theorem access_any (k ad o n:Int) (w:World):Calls Try.prog 56 #[.int .i64 k,.int .i64 ad,.int .u64 o,.int .u64 n] w fun e w'=>e=.returned (accV ⟨k,ad,o,n,0⟩)∧Below w.heap.size w w':=by
 obtain ⟨W,hW⟩:∃W,w.alloc (.cells #[.int .i64 0,.int .i64 0,.int .u64 0,.int .u64 0,.int .i64 0] 78)=W:=⟨_,rfl⟩;have HB:Hid (Below w.heap.size w W):=hW▸below_new (Below.refl w.heap.size w) _;have R0:Hid (W.heap[w.heap.size]?=some (.cells #[.int .i64 0,.int .i64 0,.int .u64 0,.int .u64 0,.int .i64 0] 78 (0,0))):=hW▸heap_alloc_new _ _;have HW:=Lib.hid hW;clear hW;go_enter Try.func56,Try.ntmps56;go_upto_region 1 with fail
 rw [HW.out];clear HW;go_wp2_with (refine wpList_store_row rfl 78 _ _ rfl (w.heap.size) _ rfl rfl 78 _ R0.out (by kernel_rfl) rfl (by simp [Value.oneCell']) ?_);refine bodyPost_ret (v:=accV ⟨k,ad,o,n,0⟩) (results_cell_row Try.results56 _ _ (w.heap.size) 78 _ (0,0) _ rfl (setRow_heap _ _ _ _ 78 (0,0) R0.out) Try.underlying78 rfl (by kernel_rfl)) rfl ?_;exact ⟨rfl,row_below HB.out (Nat.le_refl _) _⟩
set_option maxHeartbeats 4000000 in
theorem machNew_any (a a2:Option Addr) (cap cap2:Nat) (c:ConfM) (what ch th:Int) (w:World):Calls Try.prog 30 #[.agg #[.slice a c.caps.length cap,.slice a2 c.starts.length cap2,.int .i64 c.threads],.int .i64 what,.int .i64 ch,.int .i64 th] w fun e w'=>e=.returned (.agg (machL (.slice a c.caps.length cap) (.slice a2 c.starts.length cap2) c.threads ⟨what,1,ch,th,0,0,0,0,0,0,0⟩).toArray)∧Below w.heap.size w w':=by
 obtain ⟨W,hW,HB,R0,R1,hz⟩:=two_new w (.cells #[.slice a c.caps.length cap,.slice a2 c.starts.length cap2,.int .i64 c.threads] 31) (.cells #[.int .i64 0,.int .i64 0,.slice none 0 0,.slice none 0 0,.int .i64 0,.int .i64 0,.int .i64 0,.int .i64 0,.int .i64 0,.int .u64 0,.int .u64 0,.int .u64 0,.int .i64 0,.int .u64 0] 58);have HW:=Lib.hid hW;clear hW;go_enter Try.func30,Try.ntmps30;go_upto_region 1 with fail
 rw [HW.out];clear HW;obtain ⟨x0,x1,x2⟩:=rowc3 R0.out;go_wp2_with (refine wpList_store_row rfl 58 _ _ rfl (w.heap.size+1) _ rfl rfl 58 _ R1.out (by kernel_rfl) rfl (by simp [Value.oneCell']) ?_);refine bodyPost_ret (v:=.agg (machL (.slice a c.caps.length cap) (.slice a2 c.starts.length cap2) c.threads ⟨what,1,ch,th,0,0,0,0,0,0,0⟩).toArray) (results_cell_row Try.results30 _ _ (w.heap.size+1) 58 _ (0,0) _ rfl (setRow_heap _ _ _ _ 58 (0,0) R1.out) Try.underlying58 rfl (by kernel_rfl)) rfl ?_;exact ⟨rfl,row_below HB.out (by omega) _⟩
set_option maxHeartbeats 4000000 in
theorem machNext_end (a a2:Option Addr) (cap cap2:Nat) (c:ConfM) (m:MachM) (hp:m.pl=0) (w:World):Calls Try.prog 34 #[(.agg (machL (.slice a c.caps.length cap) (.slice a2 c.starts.length cap2) c.threads m).toArray)] w fun e w'=>e=.returned (accV ⟨0,0,0,0,0⟩)∧Below w.heap.size w w':=by
 obtain ⟨W,hW,HB,R0,R1,hz⟩:=two_new w (.cells #[.int .i64 m.what,.int .i64 0,.slice a c.caps.length cap,.slice a2 c.starts.length cap2,.int .i64 c.threads,.int .i64 m.chan,.int .i64 m.thr,.int .i64 m.idx,.int .i64 m.kind,.int .u64 m.val,.int .u64 m.t,.int .u64 m.h,.int .i64 m.ok,.int .u64 m.ov] 58) (.cells #[.int .i64 0,.int .i64 0,.int .u64 0,.int .u64 0,.int .i64 0] 78);have HW:=Lib.hid hW;clear hW;unfold machL;rw [hp];clear hp;go_enter Try.func34,Try.ntmps34;go_upto_region 1 with fail
 rw [HW.out];clear HW;obtain ⟨x0,x1,x2,x3,x4,x5,x6,x7,x8,x9,x10,x11,x12,x13⟩:=rowc14 R0.out;go_wp2_with (refine wpList_store_row rfl 78 _ _ rfl (w.heap.size+1) _ rfl rfl 78 _ R1.out (by kernel_rfl) rfl (by simp [Value.oneCell']) ?_);refine bodyPost_ret (v:=accV ⟨0,0,0,0,0⟩) (results_cell_row Try.results34 _ _ (w.heap.size+1) 78 _ (0,0) _ rfl (setRow_heap _ _ _ _ 78 (0,0) R1.out) Try.underlying78 rfl (by kernel_rfl)) rfl ?_;exact ⟨rfl,row_below HB.out (by omega) _⟩
def CodesE (w:World) (g:Nat):Prop:=∃r val,CodesAt w g r val
theorem CodesE.lt {w:World} {g:Nat} (h:CodesE w g):g<w.heap.size:=by obtain ⟨r,val,h⟩:=h; exact h.lt
theorem CodesE.kept {w w':World} {g B:Nat} (h:CodesE w g) (hB:g<B) (hb:Below B w w'):CodesE w' g:=by
 obtain ⟨r,val,h⟩:=h; exact ⟨r,val,h.kept hB hb⟩
theorem nextE (g:Nat) (n:Int) (w:World) (h:CodesE w g) (h1:1≤n) (h2:n≤256) :
  Calls Try.prog 12 #[.pointer (some ⟨g,0,none⟩),.int .i64 n] w fun e w'=>∃x:Int,e=.returned (.int .i64 x)∧0≤x∧x<n∧CodesE w' g∧w.grownBy w' (some g):=by
 obtain ⟨r,val,h⟩:=h;refine (next_any g r val n w h h1 h2).mono ?_;rintro e w' ⟨rfl,hc,hg⟩;have:=nxt_bd r n h1;exact ⟨_,rfl,this.1,this.2,⟨_,_,hc⟩,hg⟩
def Off (a b:Nat) (w0:World):World→Prop:=fun w=>w0.heap.size≤w.heap.size∧∀j,j<w0.heap.size→j≠a→j≠b→w.heap[j]?=w0.heap[j]?
theorem Off.self (a b:Nat) (w:World):Off a b w w:=⟨Nat.le_refl _,fun _ _ _ _=>rfl⟩
theorem Off.trans {a b:Nat} {w0 w1 w2:World} (h:Off a b w0 w1) (h2:Off a b w1 w2):Off a b w0 w2:=
 ⟨Nat.le_trans h.1 h2.1,fun j hj ha hb=>(h2.2 j (Nat.lt_of_lt_of_le hj h.1) ha hb).trans (h.2 j hj ha hb)⟩
theorem Off.below {a b:Nat} {w w':World} (h:Below w.heap.size w w'):Off a b w w':=⟨h.size,fun j hj _ _=>h.block j hj⟩
theorem Off.wide (a b:Nat) (w0:World):Wide (Off a b w0):=fun _ _ h hb=>h.trans (Off.below hb)
theorem Off.grown {a b:Nat} {w w':World} (h:w.grownBy w' (some a)):Off a b w w':=⟨h.size,fun j hj ha _=>h.block j hj (by simp; omega)⟩
theorem Off.setRow {a b:Nat} (w:World) (cs:Array Value):Off a b w (w.setRow b cs):=⟨by simp [World.setRow],fun j _ _ hb=>setRow_other w b j cs hb⟩
theorem Off.setCell {a b:Nat} (w:World) (o:Nat) (u:Value):Off a b w (w.setCell ⟨b,o,none⟩ u):=⟨by simp,fun j _ _ hb=>heap_setCell_other w ⟨b,o,none⟩ j u hb⟩
theorem Off.nx {a b:Nat} {w0 w w':World} (h:Off a b w0 w) (hb:Below w.heap.size w w') (h1:a<w.heap.size) (h2:b<w.heap.size):∀w2,Off a b w' w2→Nx (Off a b w0) w w' w2:=fun w2 h3=>
 ⟨h.trans ((Off.below hb).trans h3),⟨h3.1,fun j hj hj2=>h3.2 j hj2 (by omega) (by omega)⟩⟩
theorem OwnI.stays {a b:Nat} {w:World} {base:Nat} {e:TypeId} {k:IntKind} {v:Value} {l:List Int} (h:OwnI w base e k v l) (h1:a<base) (h2:b<base) (hl:l.length≤140737488351232) (hw:∀x∈l,x=k.wrap x):StI (Off a b w) k v l:=by
 intro w2 ho;have h3:OwnI w2 base e k v l:=by
  refine ⟨h.1,?_⟩;rcases h.2 with h4 | ⟨g,cap,cur,h4,h5,h6,h7⟩
  ·exact .inl h4
  ·exact .inr ⟨g,cap,cur,h4,h5,(ho.2 g (Array.getElem?_eq_some_iff.1 h6).1 (by omega) (by omega)).trans h6,h7⟩
 exact h3.read hl hw
theorem StI.sub {G H:World→Prop} {k:IntKind} {v:Value} {l:List Int} (h:StI G k v l) (hs:∀w,H w→G w):StI H k v l:=fun w hw=>h w (hs w hw)
theorem CodesE.grown {w w':World} {g b:Nat} (h:CodesE w g) (hg:g<b) (ho:w.grownBy w' (some b)):CodesE w' g:=
 h.kept (B:=g+1) (Nat.lt_succ_self _) ⟨ho.os,ho.tape,ho.output,ho.size,fun j hj=>ho.block j (by have:=h.lt; omega) (by simp; omega)⟩
theorem sl1_at {w:World} {k:IntKind} {b:Nat} {x:Int} {T:TypeId} (h:w.heap[b]?=some (.cells #[.int k x] T (0,0))) (hx:x=k.wrap x):SlI w k (.slice (some ⟨b,0,none⟩) 1 1) [x]:=by
 refine ⟨by simp,by intro z hz; simp at hz; subst hz; exact hx,_,1,rfl,Nat.le_refl _,fun t ht=>⟨b,0,rfl,(Array.getElem?_eq_some_iff.1 h).1,?_⟩⟩;obtain rfl:t=0:=by simp at ht; omega
 exact cell_of_row _ _ 0 _ _ _ h
def oneC:ConfM:=⟨[1],[0],2⟩
theorem oneC_good:oneC.good:=⟨by decide,rfl,by decide,by decide,by decide⟩
set_option maxHeartbeats 4000000 in
theorem one_any (w:World):Calls Try.prog 20 #[] w fun e w'=>∃a a2,e=.returned (.agg #[.slice a 1 1,.slice a2 1 1,.int .i64 2])∧ConfV w' (.agg #[.slice a 1 1,.slice a2 1 1,.int .i64 2]) oneC∧Below w.heap.size w w':=by
 obtain ⟨W,hW,HB,R0,R1,R2,hz⟩:=three_new w (.cells #[.slice none 0 0,.slice none 0 0,.int .i64 0] 31) (.cells #[.int .i64 1] 3) (.cells #[.int .u64 0] 23);have HW:=Lib.hid hW;clear hW;go_enter Try.func20,Try.ntmps20;go_wp2_with (refine wpList_store_row rfl 31 _ _ rfl (w.heap.size) _ rfl rfl 31 #[.slice none 0 0,.slice none 0 0,.int .i64 0] (by rw [HW.out]; exact R0.out) (by kernel_rfl) rfl (by simp [Value.oneCell']) ?_);rw [HW.out];refine bodyPost_ret (v:=.agg #[.slice (some ⟨w.heap.size+1,0,none⟩) 1 1,.slice (some ⟨w.heap.size+2,0,none⟩) 1 1,.int .i64 2]) (results_cell_row Try.results20 _ _ (w.heap.size) 31 _ (0,0) _ rfl (setRow_heap _ _ _ _ 31 (0,0) R0.out) Try.underlying31 rfl (by kernel_rfl)) rfl ?_;have Q1:=(setRow_other W w.heap.size (w.heap.size+1) #[.slice (some ⟨w.heap.size+1,0,none⟩) 1 1,.slice (some ⟨w.heap.size+2,0,none⟩) 1 1,.int .i64 2] (by omega)).trans R1.out;have Q2:=(setRow_other W w.heap.size (w.heap.size+2) #[.slice (some ⟨w.heap.size+1,0,none⟩) 1 1,.slice (some ⟨w.heap.size+2,0,none⟩) 1 1,.int .i64 2] (by omega)).trans R2.out;exact ⟨_,_,rfl,⟨_,_,rfl,sl1_at Q1 (by decide),sl1_at Q2 (by decide)⟩,row_below HB.out (Nat.le_refl _) _⟩
set_option maxHeartbeats 4000000 in
theorem one_stb (w:World):Calls Try.prog 20 #[] w fun e w'=>∃a a2,e=.returned (.agg #[.slice a 1 1,.slice a2 1 1,.int .i64 2])∧Hid (∀w2,NewPart w w' w2→SlI w2 .i64 (.slice a 1 1) [1]∧SlI w2 .u64 (.slice a2 1 1) [0])∧Hid (Below w.heap.size w w'):=by
 obtain ⟨W,hW,HB,R0,R1,R2,hz⟩:=three_new w (.cells #[.slice none 0 0,.slice none 0 0,.int .i64 0] 31) (.cells #[.int .i64 1] 3) (.cells #[.int .u64 0] 23);have HW:=Lib.hid hW;clear hW;go_enter Try.func20,Try.ntmps20;go_wp2_with (refine wpList_store_row rfl 31 _ _ rfl (w.heap.size) _ rfl rfl 31 #[.slice none 0 0,.slice none 0 0,.int .i64 0] (by rw [HW.out]; exact R0.out) (by kernel_rfl) rfl (by simp [Value.oneCell']) ?_);rw [HW.out];refine bodyPost_ret (v:=.agg #[.slice (some ⟨w.heap.size+1,0,none⟩) 1 1,.slice (some ⟨w.heap.size+2,0,none⟩) 1 1,.int .i64 2]) (results_cell_row Try.results20 _ _ (w.heap.size) 31 _ (0,0) _ rfl (setRow_heap _ _ _ _ 31 (0,0) R0.out) Try.underlying31 rfl (by kernel_rfl)) rfl ?_;have Q1:=(setRow_other W w.heap.size (w.heap.size+1) #[.slice (some ⟨w.heap.size+1,0,none⟩) 1 1,.slice (some ⟨w.heap.size+2,0,none⟩) 1 1,.int .i64 2] (by omega)).trans R1.out;have Q2:=(setRow_other W w.heap.size (w.heap.size+2) #[.slice (some ⟨w.heap.size+1,0,none⟩) 1 1,.slice (some ⟨w.heap.size+2,0,none⟩) 1 1,.int .i64 2] (by omega)).trans R2.out;exact ⟨_,_,rfl,Lib.hid (fun w2 hn=>⟨sl1_at ((hn.same _ (by omega) (Array.getElem?_eq_some_iff.1 Q1).1).trans Q1) (by decide),sl1_at ((hn.same _ (by omega) (Array.getElem?_eq_some_iff.1 Q2).1).trans Q2) (by decide)⟩),Lib.hid (row_below HB.out (Nat.le_refl _) _)⟩
end Go.Proofs.Ytifhafjhmjkekaa
