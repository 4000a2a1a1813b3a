import Derived.RegionTactic
import Derived.BigRegion
import Derived.Laws.AppendOwnNone
import Derived.Deep.RegionHeld3
import Derived.Deep.RegionLaw
import Derived.Deep.DeepCutAuto
import Derived.Deep.CutBlock
import Derived.Test.YtiekicailidhcaaB04
import Derived.Test.YtiekicailidhcaaB01
import Derived.Test.YtiekicailidhcaaB03
import Derived.Test.YtiekicailidhcaaB02
set_option linter.unusedVariables false
set_option linter.unusedSimpArgs false
namespace Go.Proofs.Ytiekicailidhcaa
open Go.ChangeShapes Go.WideShapes Go.ChangeAt Go.RowKit
set_option maxRecDepth 100000
theorem ascending_any (n:Nat) (w:World) (hn:n≤1000) :
  Calls Try.prog 103 #[.int .i64 n] w fun e w'=>e=.returned (.slice (some ⟨w.heap.size,0,none⟩) n n)∧OwnI w' w.heap.size 3 .i64 (.slice (some ⟨w.heap.size,0,none⟩) n n) (asc n)∧Below w.heap.size w w':=by
 have HF:=Lib.hid (fill_full n);go_enter Try.func103,Try.ntmps103;go_wp2_with (at_make; refine wp_make_i64 w rfl _ _ rfl n _ _ rfl rfl rfl rfl ?_ ?_; omega; intro w1 hown hgrow);rw [← fill_zero] at hown;go_loopw [4,9] (fun _ c wr=>∃k:Nat,k≤n∧c=.int .i64 k∧OwnI wr w.heap.size 3 .i64 (.slice (some ⟨w.heap.size,0,none⟩) n n) (fill n k)∧Below w.heap.size w wr) (fun _ c _=>n - (intOf c).toNat)
 case atStart=>exact ⟨0,by omega,rfl,hown,hgrow⟩
 case round=>
  clear hown hgrow;obtain ⟨k,hk,rfl,hown,hbel⟩:=hrel;by_cases hlt:k<n
  ·have hlen:=fill_length n k hk
   obtain ⟨c1,c2⟩:=hown.cell k (by omega);have S1:=hown.store k k (by omega);rw [fill_step n k hlt] at S1;have S2:=hbel.setCell (p:=⟨w.heap.size,k,none⟩) (Nat.le_refl _) (.int .i64 k);have SS:=Lib.hid (And.intro S1 S2);clear S1 S2 hown hbel hlen;generalize (fill n k).getD k 0=x0 at c1;go_wp2;go_roundw
   case rel=>exact ⟨k+1,by omega,by go_num,SS.out.1,SS.out.2⟩
   case measure=>simp [intOf]; omega
  ·obtain rfl:k=n:=by omega
   have SS:=Lib.hid (And.intro hown hbel);clear hown hbel;go_wp2;go_ret;exact ⟨rfl,by rw [← HF.out]; exact SS.out.1,SS.out.2⟩
theorem order_any (n:Int) (v:Value) (d:List Int) (w:World) (hd:SlI w .i64 v d) (h1:1≤n) (h2:n≤20) :
  Calls Try.prog 87 #[.int .i64 n,v] w fun e w'=>e=.returned (.slice (some ⟨w.heap.size,0,none⟩) n.toNat n.toNat)∧OwnI w' w.heap.size 3 .i64 (.slice (some ⟨w.heap.size,0,none⟩) n.toNat n.toNat) (shuf d (n.toNat - 1) (asc n.toNat))∧Below w.heap.size w w':=by
 obtain ⟨m,rfl⟩:∃m:Nat,n=m:=⟨n.toNat,by omega⟩;rw [Int.toNat_natCast];go_enter Try.func87,Try.ntmps87;go_wp2_with (go_at_call 103; refine (ascending_any m w (by omega)).mono ?_; rintro e w1 ⟨rfl,hown,hbel⟩);go_loopw [6,7] (fun c _ wr=>∃k:Nat,∃l:List Int,k<m∧c=.int .i64 k∧l.length=m∧Hid (shuf d k l=shuf d (m - 1) (asc m))∧OwnI wr w.heap.size 3 .i64 (.slice (some ⟨w.heap.size,0,none⟩) m m) l∧Below w.heap.size w wr) (fun c _ _=>(intOf c).toNat)
 case atStart=>exact ⟨m - 1,asc m,by omega,by go_num,asc_length m,Lib.hid rfl,hown,hbel⟩
 case round=>
  clear hown hbel;obtain ⟨k,l,hk,rfl,hl,hsh,hown,hbel⟩:=hrel;by_cases hlt:0<k
  ·have V:=Lib.hid (valid_any v d k wr (hd.below hbel) (by omega))
   have hj:=drawI_le d k;generalize hjj:drawI d k=j at *;obtain ⟨c1,c2⟩:=hown.cell k (by omega);obtain ⟨c3,c4⟩:=hown.cell j (by omega);have HJ:=Lib.hid hjj;have HL:=Lib.hid hl;have HO:=Lib.hid (And.intro hown hbel);have hjl:j<l.length:=by omega
   clear hjj hl hown hbel;generalize hx:l.getD k 0=x at *;generalize hy:l.getD j 0=y at *;have HX:=Lib.hid hx;have HY:=Lib.hid hy;clear hx hy;go_wp2_with (go_at_call 104; refine V.out.mono ?_; rintro e w2 ⟨rfl,rfl⟩);obtain ⟨z,c5⟩:=cell?_setCell_some (w:=wr) (p:=⟨w.heap.size,k,none⟩) (x:=.int .i64 y) (q:=⟨w.heap.size,j,none⟩) (v:=.int .i64 y) c3;have R:=Lib.hid (shuf_round d l k j hlt HJ.out);go_region;go_wp2;go_roundw
   case rel=>exact ⟨k - 1,swp l k j,by omega,by go_num,by rw [swp_length]; exact HL.out,by rw [← R.out]; exact hsh,by
     have:=(HO.out.1.store k y HL.out.symm).store j x (by simp; exact HL.out.symm);unfold swp; rw [HX.out,HY.out]; exact this,(HO.out.2.setCell (p:=⟨w.heap.size,k,none⟩) (Nat.le_refl _) _).setCell (p:=⟨w.heap.size,j,none⟩) (Nat.le_refl _) _ |>.drew⟩
   case measure=>simp [intOf]; omega
  ·obtain rfl:k=0:=by omega
   have HO:=Lib.hid (And.intro hown hbel);clear hown hbel;go_wp2;go_ret;exact ⟨rfl,by rw [← hsh.out]; exact HO.out.1,HO.out.2⟩
theorem rorder_any (n:Int) (v:Value) (d:List Int) (w:World) (hd:SlI w .i64 v d) (h1:1≤n) (h2:n≤20) :
  Calls Try.prog 65 #[.int .i64 n,v] w fun e w'=>e=.returned (.slice (some ⟨w.heap.size,0,none⟩) n.toNat n.toNat)∧OwnI w' w.heap.size 3 .i64 (.slice (some ⟨w.heap.size,0,none⟩) n.toNat n.toNat) (shuf d (n.toNat - 1) (asc n.toNat))∧Below w.heap.size w w':=by
 obtain ⟨m,rfl⟩:∃m:Nat,n=m:=⟨n.toNat,by omega⟩;rw [Int.toNat_natCast];have HF:=Lib.hid (fill_full m);go_enter Try.func65,Try.ntmps65;go_wp2_with (at_make; refine wp_make_i64 w rfl _ _ rfl m _ _ rfl rfl rfl rfl ?_ ?_; omega; intro w1 hown hgrow);rw [← fill_zero] at hown;go_loopw [6] (fun c wr=>∃k:Nat,k≤m∧c=.int .i64 k∧OwnI wr w.heap.size 3 .i64 (.slice (some ⟨w.heap.size,0,none⟩) m m) (fill m k)∧Below w.heap.size w wr) (fun c _=>m - (intOf c).toNat)
 case atStart=>exact ⟨0,by omega,rfl,hown,hgrow⟩
 case round=>
  clear hown hgrow;obtain ⟨k,hk,rfl,hown,hbel⟩:=hrel;by_cases hlt:k<m
  ·have hlen:=fill_length m k hk
   obtain ⟨c1,c2⟩:=hown.cell k (by omega);have S1:=hown.store k k (by omega);rw [fill_step m k hlt] at S1;have S2:=hbel.setCell (p:=⟨w.heap.size,k,none⟩) (Nat.le_refl _) (.int .i64 k);have SS:=Lib.hid (And.intro S1 S2);clear S1 S2 hown hbel hlen;generalize (fill m k).getD k 0=x0 at c1;go_wp2;go_roundw
   case rel=>exact ⟨k+1,by omega,by go_num,SS.out.1,SS.out.2⟩
   case measure=>simp [intOf]; omega
  ·obtain rfl:k=m:=by omega
   rw [HF.out] at hown;go_wp2;go_loopw [7,8,9,10] (fun c _ _ _ wr=>∃q:Nat,∃l:List Int,q<k∧c=.int .i64 q∧l.length=k∧Hid (shuf d q l=shuf d (k - 1) (asc k))∧OwnI wr w.heap.size 3 .i64 (.slice (some ⟨w.heap.size,0,none⟩) k k) l∧Below w.heap.size w wr) (fun c _ _ _ _=>(intOf c).toNat)
   case atStart=>exact ⟨k - 1,asc k,by omega,by go_num,asc_length k,Lib.hid rfl,hown,hbel⟩
   case round=>
    clear hown hbel;obtain ⟨q,l,hq,rfl,hl,hsh,hown,hbel⟩:=hrel;by_cases hlt:0<q
    ·have V:=Lib.hid fun wx=>rdraw_any v d q wx
     have HD:=Lib.hid (hd.below hbel);have hj:=drawI_le d q;generalize hjj:drawI d q=j at *;obtain ⟨c1,c2⟩:=hown.cell q (by omega);obtain ⟨c3,c4⟩:=hown.cell j (by omega);have HJ:=Lib.hid hjj;have HL:=Lib.hid hl;have HO:=Lib.hid (And.intro hown hbel);have hjl:j<l.length:=by omega
     clear hjj hl hown hbel;generalize hx:l.getD q 0=x at *;generalize hy:l.getD j 0=y at *;have HX:=Lib.hid hx;have HY:=Lib.hid hy;clear hx hy;have hq20:q≤20:=by omega
     go_wp2_with (go_at_call 91; refine (V.out _ HD.out hq20).mono ?_; rintro e w2 ⟨rfl,rfl⟩);go_quiet (fail);obtain ⟨z,c5⟩:=cell?_setCell_some (w:=wr.drewN nq) (p:=⟨w.heap.size,q,none⟩) (x:=.int .i64 y) (q:=⟨w.heap.size,j,none⟩) (v:=.int .i64 y) c3;have R:=Lib.hid (shuf_round d l q j hlt HJ.out);go_wp2;go_roundw
     case rel=>exact ⟨q - 1,swp l q j,by omega,by go_num,by rw [swp_length]; exact HL.out,by rw [← R.out]; exact hsh,by
       have:=(HO.out.1.store q y HL.out.symm).store j x (by simp; exact HL.out.symm);unfold swp; rw [HX.out,HY.out]; exact this,(below_drewN HO.out.2 _).setCell (p:=⟨w.heap.size,q,none⟩) (Nat.le_refl _) _ |>.setCell (p:=⟨w.heap.size,j,none⟩) (Nat.le_refl _) _⟩
     case measure=>simp [intOf]; omega
    ·obtain rfl:q=0:=by omega
     have HO:=Lib.hid (And.intro hown hbel);clear hown hbel;go_wp2;go_ret;exact ⟨rfl,by rw [← hsh.out]; exact HO.out.1,HO.out.2⟩
def ordL (n:Int) (d:List Int):List Int:=if 1≤n∧n≤20 then shuf d (n.toNat - 1) (asc n.toNat) else []
theorem ordL_mem (n:Int) (d:List Int) (x:Int) (h:x∈ordL n d):0≤x∧x<n:=by
 unfold ordL at h;split at h
 ·have:=asc_mem _ _ (shuf_mem d _ _ (by rw [asc_length]; omega) x h); omega
 ·simp at h
theorem ordL_length (n:Int) (d:List Int):(ordL n d).length≤20:=by
 unfold ordL;split
 ·rw [shuf_length,asc_length]; omega
 ·simp
theorem order_read (n:Int) (v:Value) (d:List Int) (w:World) (hd:SlI w .i64 v d) :
  Calls Try.prog 87 #[.int .i64 n,v] w fun e w'=>∃u,e=.returned u∧SlI w' .i64 u (ordL n d)∧Below w.heap.size w w':=by
 by_cases h:1≤n∧n≤20
 ·refine (order_any n v d w hd h.1 h.2).mono ?_
  rintro e w' ⟨rfl,ho,hb⟩;refine ⟨_,rfl,?_,hb⟩;have e1:ordL n d=shuf d (n.toNat - 1) (asc n.toNat):=by unfold ordL; rw [if_pos h]
  have hm:=ordL_mem n d;have hl:=ordL_length n d;rw [e1] at hm hl ⊢;exact ho.read (by omega) fun x hx=>i64_ok x (by have:=hm x hx; omega) (by have:=hm x hx; omega)
 ·have e1:ordL n d=[]:=by unfold ordL; rw [if_neg h]
  have H:=Lib.hid e1;clear e1;rcases (show n<1∨20<n by omega) with h | h
  ·go_enter Try.func87,Try.ntmps87
   go_wp2;go_ret;exact ⟨_,rfl,by rw [H.out]; exact SlI.nil _ _,Below.refl _ _⟩
  ·have h':¬n<1:=by omega
   go_enter Try.func87,Try.ntmps87;go_wp2;go_ret;exact ⟨_,rfl,by rw [H.out]; exact SlI.nil _ _,Below.refl _ _⟩
theorem rorder_read (n:Int) (v:Value) (d:List Int) (w:World) (hd:SlI w .i64 v d) :
  Calls Try.prog 65 #[.int .i64 n,v] w fun e w'=>∃u,e=.returned u∧SlI w' .i64 u (ordL n d)∧Below w.heap.size w w':=by
 by_cases h:1≤n∧n≤20
 ·refine (rorder_any n v d w hd h.1 h.2).mono ?_
  rintro e w' ⟨rfl,ho,hb⟩;refine ⟨_,rfl,?_,hb⟩;have e1:ordL n d=shuf d (n.toNat - 1) (asc n.toNat):=by unfold ordL; rw [if_pos h]
  have hm:=ordL_mem n d;have hl:=ordL_length n d;rw [e1] at hm hl ⊢;exact ho.read (by omega) fun x hx=>i64_ok x (by have:=hm x hx; omega) (by have:=hm x hx; omega)
 ·have e1:ordL n d=[]:=by unfold ordL; rw [if_neg h]
  have H:=Lib.hid e1;clear e1;rcases (show n<1∨20<n by omega) with h | h
  ·go_enter Try.func65,Try.ntmps65
   go_wp2;go_ret;exact ⟨_,rfl,by rw [H.out]; exact SlI.nil _ _,Below.refl _ _⟩
  ·have h':¬n<1:=by omega
   go_enter Try.func65,Try.ntmps65;go_wp2;go_ret;exact ⟨_,rfl,by rw [H.out]; exact SlI.nil _ _,Below.refl _ _⟩
def caseCells (c:CaseM):List Value:=[.bool c.send,.int .i64 c.chan,.int .u64 c.val]
def OwnC (w:World) (base:Nat) (v:Value) (l:List CaseM):Prop:=
 w.ownsRow base 58 3 v l.length (l.flatMap caseCells)
theorem flat_get (l:List CaseM) (t j:Nat) (ht:t<l.length) (hj:j<3):(l.flatMap caseCells)[t * 3+j]?=(caseCells (l.getD t noCase))[j]?:=by
 induction l generalizing t with
 | nil=>simp at ht
 | cons x l ih=>
  rw [List.flatMap_cons];have hx:(caseCells x).length=3:=rfl;cases t with
  | zero=>rw [List.getElem?_append_left (by rw [hx]; omega)]; simp
  | succ t=>
   rw [List.getElem?_append_right (by rw [hx]; omega),hx,show (t+1) * 3+j - 3=t * 3+j by omega,ih t (by simpa using ht)];simp
theorem OwnC.nil (w:World) (base:Nat):OwnC w base (.slice none 0 0) []:=World.ownsRow_nil w base _ 3
theorem OwnC.shape {w:World} {base:Nat} {v:Value} {l:List CaseM} (h:OwnC w base v l) :
  (v=.slice none 0 0∧l=[])∨∃g cap,v=.slice (some ⟨g,0,none⟩) l.length cap∧base≤g∧g<w.heap.size∧l.length≤cap:=by
 rcases h.2 with ⟨rfl,h2⟩ | ⟨g,cap,cur,rfl,h3,h4,h5,h6,_,_⟩
 ·exact .inl ⟨rfl,List.length_eq_zero_iff.1 h2⟩
 ·exact .inr ⟨g,cap,rfl,h3,(Array.getElem?_eq_some_iff.1 h4).1,h5⟩
theorem OwnC.len {w:World} {base:Nat} {v:Value} {l:List CaseM} (h:OwnC w base v l):∃a cap,v=.slice a l.length cap:=by
 rcases h.shape with ⟨rfl,rfl⟩ | ⟨g,cap,rfl,_⟩
 ·exact ⟨_,_,rfl⟩
 ·exact ⟨_,_,rfl⟩
theorem OwnC.read {w:World} {base:Nat} {v:Value} {l:List CaseM} (h:OwnC w base v l) (hl:l.length≤140737488351232) (hw:∀x∈l,x.ok):SlC w v l:=by
 have h0:=h;rcases h.shape with ⟨rfl,rfl⟩ | ⟨g,cap,rfl,h1,h2,h3⟩
 ·exact SlC.nil w
 ·refine ⟨hl,hw,some ⟨g,0,none⟩,cap,rfl,h3,fun t ht=>⟨g,0,rfl,h2,?_⟩⟩
  have hc:∀j,j<3→w.cell? ⟨g,t * 3+j,none⟩=(caseCells (l.getD t noCase))[j]?:=fun j hj=>by
   rw [World.ownsRow.cellAt h0 (t * 3+j) (by omega),flat_get l t j ht hj]
  have c0:=hc 0 (by omega);have c1:=hc 1 (by omega);have c2:=hc 2 (by omega);rw [Nat.zero_add];exact ⟨by simpa [caseCells] using c0,by simpa [caseCells] using c1,by simpa [caseCells] using c2⟩
theorem OwnC.kept {w w':World} {base:Nat} {v:Value} {l:List CaseM} {row:Option Nat} (h:OwnC w base v l) (hg:w.grownBy w' row) (hne:v.ownBlock=none∨v.ownBlock≠row):OwnC w' base v l:=World.ownsRow.kept h hg hne
theorem OwnC.alloc {w:World} {base:Nat} {v:Value} {l:List CaseM} (h:OwnC w base v l) (o:Obj):OwnC (w.alloc o) base v l:=World.ownsRow.alloc h o
theorem OwnC.own_ge {w:World} {base:Nat} {v:Value} {l:List CaseM} (h:OwnC w base v l):∀j,v.ownBlock=some j→base≤j:=fun j hj=>(World.ownsRow.lt h j hj).1
theorem OwnC.ne {w:World} {base:Nat} {v:Value} {l:List CaseM} (h:OwnC w base v l) {g:Nat} (hg:g<base):v.ownBlock=none∨v.ownBlock≠some g:=by
 cases hv:v.ownBlock with
 | none=>exact .inl rfl
 | some b=>exact .inr fun e=>by have:=h.own_ge b hv; cases e; omega
theorem OwnC.below {w w':World} {base:Nat} {v:Value} {l:List CaseM} (h:OwnC w base v l) (hb:Below w.heap.size w w'):OwnC w' base v l:=by
 refine h.kept (row:=none) ⟨hb.os,hb.tape,hb.output,hb.size,fun j hj _=>hb.block j hj⟩ ?_;cases hv:v.ownBlock with
 | none=>exact .inl rfl
 | some x=>exact .inr (by simp)
theorem OwnC.mono_base {w:World} {base b':Nat} {v:Value} {l:List CaseM} (h:OwnC w base v l) (hb:b'≤base):OwnC w b' v l:=by
 refine ⟨h.1,?_⟩;rcases h.2 with h1 | ⟨g,cap,cur,h1,h2,h3⟩
 ·exact .inl h1
 ·exact .inr ⟨g,cap,cur,h1,Nat.le_trans hb h2,h3⟩
theorem rows_apart {w:World} {b1 b2 n1 n2 s1 s2:Nat} {e1 e2:TypeId} {v1 v2:Value} {l1 l2:List Value} (h1:w.ownsRow b1 e1 s1 v1 n1 l1) (h2:w.ownsRow b2 e2 s2 v2 n2 l2) (he:e1≠e2):v1.ownBlock=none∨v1.ownBlock≠v2.ownBlock:=by
 rcases h1.2 with ⟨rfl,_⟩ | ⟨g,cap,cur,rfl,_,hg,_⟩
 ·exact .inl rfl
 ·rcases h2.2 with ⟨rfl,_⟩ | ⟨g',cap',cur',rfl,_,hg',_⟩
  ·exact .inr (by simp [Value.ownBlock])
  ·refine .inr ?_
   simp only [Value.ownBlock,ne_eq,Option.some.injEq];intro e;rw [e,hg'] at hg;simp at hg;exact he hg.2.symm
theorem Try.info_case:(Try.prog.info? 58).map (fun i=>(i.zero,i.size,i.bytes))=some (some (.agg #[.bool false,.int .i64 0,.int .u64 0]),3,24):=by kernel_rfl
section
variable (w:World) {ops:Array Oper} {rest:List Oper} {o:Oper} {a:Act} {Q:Exit→Act→World→Prop}
theorem wp_append_case (hg:o.guard=none) (s x:Operand) (hop:o.op=Op.call { callee:=Callee.builtin Builtin.append,args:=#[s,x],argTypes:=#[42,42] })
  (base:Nat) (v:Value) (l:List CaseM) (hs:a.eval s=v) (hown:OwnC w base v l) (y:CaseM) (g:Nat)
  (hx:a.eval x=.slice (some ⟨g,0,none⟩) 1 1) (hcell:CaseAt w g 0 y) (hl:l.length≤1000000) (hb:base≤w.heap.size)
  (hK:∀v' w',OwnC w' base v' (l ++ [y])→w.grownBy w' v.ownBlock→wpList Try.prog ops Q rest (a.put o.dst v') w') :
  wpList Try.prog ops Q (o :: rest) a w:=by
 obtain ⟨i0,hi,hz0,hz1,hz2⟩:=info_parts Try.info_case;refine wpList_append_own w hg s x _ hop base _ i0 _ 3 _ (by kernel_rfl) hi hz0 hz1 rfl rfl (by decide) v l.length _ hs hown ⟨g,0,none⟩ 1 1 (caseCells y) hx rfl ?_ ?_ (by unfold maxLen; omega) (by rw [hz2]; omega) hb fun v' w' h1 h2 h3=>hK v' w' ?_ h2
 ·obtain ⟨c0,c1,c2⟩:=hcell
  intro j u hj;match j,hj with
  | 0,hj=>simp [caseCells] at hj; subst hj; simpa [Addr.add] using c0
  | 1,hj=>simp [caseCells] at hj; subst hj; simpa [Addr.add] using c1
  | 2,hj=>simp [caseCells] at hj; subst hj; simpa [Addr.add] using c2
 ·intro u hu
  simp only [caseCells,List.mem_cons,List.not_mem_nil,or_false] at hu;rcases hu with rfl | rfl | rfl <;> rfl
 ·unfold OwnC
  rw [List.length_append,List.flatMap_append,List.flatMap_cons,List.flatMap_nil,List.append_nil];exact h1
end
def CodesE (w:World) (g:Nat):Prop:=∃r val,CodesAt w g r val
theorem CodesE.lt {w:World} {g:Nat} (h:CodesE w g):g<w.heap.size:=by obtain ⟨r,val,h⟩:=h; exact h.lt
theorem CodesE.kept {w w':World} {g B:Nat} (h:CodesE w g) (hB:g<B) (hb:Below B w w'):CodesE w' g:=by
 obtain ⟨r,val,h⟩:=h; exact ⟨r,val,h.kept hB hb⟩
theorem nextE (g:Nat) (n:Int) (w:World) (h:CodesE w g) (h1:1≤n) (h2:n≤256) :
  Calls Try.prog 16 #[.pointer (some ⟨g,0,none⟩),.int .i64 n] w fun e w'=>∃x:Int,e=.returned (.int .i64 x)∧0≤x∧x<n∧CodesE w' g∧w.grownBy w' (some g):=by
 obtain ⟨r,val,h⟩:=h;refine (next_any g r val n w h h1 h2).mono ?_;rintro e w' ⟨rfl,hc,hg⟩;have:=nxt_bd r n h1;exact ⟨_,rfl,this.1,this.2,⟨_,_,hc⟩,hg⟩
def capsArr:Array Value:=#[.int .i64 0,.int .i64 1,.int .i64 2,.int .i64 0,.int .i64 1,.int .i64 3]
def startsArr:Array Value:=#[.int .u64 0,.int .u64 1,.int .u64 9223372036854775807,.int .u64 9223372036854775806,.int .u64 4611686018427387904,.int .u64 5]
structure CfgInv (w0 w:World) (g:Nat) (val:Int) (R:Nat) (vc vs:Value) (caps starts r:List Int):Prop where
 lt:g<R
 eq:R=w0.heap.size
 codes:CodesAt w g r val
 grown:w0.grownBy w (some g)
 res:w.heap[R]?=some (.cells #[.slice none 0 0,.slice none 0 0,.int .i64 0] 29 (0,0))
 lc:w.heap[R+1]?=some (.cells capsArr 3 (0,0))
 ls:w.heap[R+2]?=some (.cells startsArr 41 (0,0))
 box:w.heap[R+3]?=some (.cells #[vc,vs,.int .i64 0] 29 (0,0))
 oc:OwnI w (R+4) 3 .i64 vc caps
 os:OwnI w (R+4) 41 .u64 vs starts
theorem CfgInv.size {w0 w:World} {g:Nat} {val:Int} {R:Nat} {vc vs:Value} {caps starts r:List Int} (h:CfgInv w0 w g val R vc vs caps starts r):R+4≤w.heap.size:=
 (Array.getElem?_eq_some_iff.1 h.box).1
theorem CfgInv.next {w0 w w':World} {g:Nat} {val:Int} {R:Nat} {vc vs:Value} {caps starts r r':List Int} (h:CfgInv w0 w g val R vc vs caps starts r) (hc:CodesAt w' g r' val) (hg:w.grownBy w' (some g)) :
  CfgInv w0 w' g val R vc vs caps starts r':=by
 have hs:=h.size;have hl:=h.lt;have b:∀j,R≤j→j<R+4→w'.heap[j]?=w.heap[j]?:=fun j h1 h2=>hg.block j (by omega) (by simp; omega);exact ⟨hl,h.eq,hc,grownBy_trans h.grown hg,(b R (by omega) (by omega)).trans h.res,(b (R+1) (by omega) (by omega)).trans h.lc,(b (R+2) (by omega) (by omega)).trans h.ls,(b (R+3) (by omega) (by omega)).trans h.box,
  h.oc.kept hg (h.oc.ne (by omega)),h.os.kept hg (h.os.ne (by omega))⟩
theorem own_apart {w:World} {b1 b2:Nat} {e1 e2:TypeId} {k1 k2:IntKind} {v1 v2:Value} {l1 l2:List Int} (h1:OwnI w b1 e1 k1 v1 l1) (h2:OwnI w b2 e2 k2 v2 l2) (he:e1≠e2):v1.ownBlock=none∨v1.ownBlock≠v2.ownBlock:=by
 rcases h1.2 with ⟨rfl,_⟩ | ⟨g,cap,cur,rfl,_,hg,_⟩
 ·exact .inl rfl
 ·rcases h2.2 with ⟨rfl,_⟩ | ⟨g',cap',cur',rfl,_,hg',_⟩
  ·exact .inr (by simp [Value.ownBlock])
  ·refine .inr ?_
   simp only [Value.ownBlock,ne_eq,Option.some.injEq];intro e;rw [e,hg'] at hg;simp at hg;exact he hg.2.symm
theorem CfgInv.spot {w0 w w1:World} {g:Nat} {val:Int} {R:Nat} {vc vs:Value} {caps starts r:List Int} {row:Option Nat} (h:CfgInv w0 w g val R vc vs caps starts r) (o:Obj) (hg:(w.alloc o).grownBy w1 row) (hge:∀j,row=some j→R+4≤j) :
  (w1.cell? ⟨R+3,0,none⟩=some vc∧w1.frozen? ⟨R+3,0,none⟩=false)∧(w1.cell? ⟨R+3,1,none⟩=some vs∧w1.frozen? ⟨R+3,1,none⟩=false):=by
 have hs:=h.size;have hb:Below (R+4) w w1:=((Below.refl (R+4) w).alloc hs o).grown hg (by simp; omega) hge;have hbox:=(hb.block (R+3) (by omega)).trans h.box;exact ⟨⟨cell_of_row w1 (R+3) 0 _ _ _ hbox,frozen_of_row w1 (R+3) 0 _ _ hbox⟩,⟨cell_of_row w1 (R+3) 1 _ _ _ hbox,frozen_of_row w1 (R+3) 1 _ _ hbox⟩⟩
theorem OwnI.shape_ne {w:World} {base:Nat} {e:TypeId} {k:IntKind} {v:Value} {l:List Int} {y:Int} (h:OwnI w base e k v (l ++ [y])):∃g cap,v=.slice (some ⟨g,0,none⟩) (l.length+1) cap:=by
 rcases h.shape with ⟨_,h1⟩ | ⟨g,cap,h1,_⟩
 ·exact absurd h1 (by simp)
 ·exact ⟨g,cap,by simpa using h1⟩
theorem CfgInv.addCap {w0 w w1:World} {g:Nat} {val:Int} {R:Nat} {vc vs vc':Value} {caps starts r caps':List Int} (h:CfgInv w0 w g val R vc vs caps starts r) (o:Obj) (ho:OwnI w1 (R+4) 3 .i64 vc' caps') (hg:(w.alloc o).grownBy w1 vc.ownBlock) :
  CfgInv w0 (w1.setCell ⟨R+3,0,none⟩ vc') g val R vc' vs caps' starts r:=by
 have hs:=h.size;have hl:=h.lt;have hge:∀j,vc.ownBlock=some j→R+4≤j:=h.oc.own_ge;have hb:Below (R+4) w w1:=((Below.refl (R+4) w).alloc hs o).grown hg (by simp; omega) hge;have b:∀j,j<R+4→w1.heap[j]?=w.heap[j]?:=fun j h1=>hb.block j h1;have b2:∀j,j≠R+3→(w1.setCell ⟨R+3,0,none⟩ vc').heap[j]?=w1.heap[j]?:=fun j hj=>heap_setCell_other w1 ⟨R+3,0,none⟩ j _ hj;have hbox:=(b (R+3) (by omega)).trans h.box;have hos:OwnI w1 (R+4) 41 .u64 vs starts:=(h.os.alloc o).kept hg (own_apart (h.os.alloc o) (h.oc.alloc o) (by decide));have hsb:Below (R+3) w1 (w1.setCell ⟨R+3,0,none⟩ vc'):=(Below.refl (R+3) w1).setCell (p:=⟨R+3,0,none⟩) (Nat.le_refl _) _;refine ⟨hl,h.eq,(h.codes.kept (B:=R+4) (by omega) hb).kept (B:=R+3) (by omega) hsb,?_,(b2 R (by omega)).trans ((b R (by omega)).trans h.res),(b2 (R+1) (by omega)).trans ((b (R+1) (by omega)).trans h.lc),(b2 (R+2) (by omega)).trans ((b (R+2) (by omega)).trans h.ls),?_,
  ho.kept (grownBy_setCell w1 ⟨R+3,0,none⟩ vc') (ho.ne (by simp)),hos.kept (grownBy_setCell w1 ⟨R+3,0,none⟩ vc') (hos.ne (by simp))⟩
 ·have e:=h.eq
  exact grownBy_of_below (grownBy_of_below h.grown (hb.mono (by omega))) ((hsb).mono (by omega))
 ·have:=heap_setCell_same w1 (R+3) 0 _ _ vc' hbox
  simpa using this
theorem CfgInv.addStart {w0 w w1:World} {g:Nat} {val:Int} {R:Nat} {vc vs vs':Value} {caps starts r starts':List Int} (h:CfgInv w0 w g val R vc vs caps starts r) (o:Obj) (ho:OwnI w1 (R+4) 41 .u64 vs' starts') (hg:(w.alloc o).grownBy w1 vs.ownBlock) :
  CfgInv w0 (w1.setCell ⟨R+3,1,none⟩ vs') g val R vc vs' caps starts' r:=by
 have hs:=h.size;have hl:=h.lt;have hge:∀j,vs.ownBlock=some j→R+4≤j:=h.os.own_ge;have hb:Below (R+4) w w1:=((Below.refl (R+4) w).alloc hs o).grown hg (by simp; omega) hge;have b:∀j,j<R+4→w1.heap[j]?=w.heap[j]?:=fun j h1=>hb.block j h1;have b2:∀j,j≠R+3→(w1.setCell ⟨R+3,1,none⟩ vs').heap[j]?=w1.heap[j]?:=fun j hj=>heap_setCell_other w1 ⟨R+3,1,none⟩ j _ hj;have hbox:=(b (R+3) (by omega)).trans h.box;have hoc:OwnI w1 (R+4) 3 .i64 vc caps:=(h.oc.alloc o).kept hg (own_apart (h.oc.alloc o) (h.os.alloc o) (by decide));have hsb:Below (R+3) w1 (w1.setCell ⟨R+3,1,none⟩ vs'):=(Below.refl (R+3) w1).setCell (p:=⟨R+3,1,none⟩) (Nat.le_refl _) _;refine ⟨hl,h.eq,(h.codes.kept (B:=R+4) (by omega) hb).kept (B:=R+3) (by omega) hsb,?_,(b2 R (by omega)).trans ((b R (by omega)).trans h.res),(b2 (R+1) (by omega)).trans ((b (R+1) (by omega)).trans h.lc),(b2 (R+2) (by omega)).trans ((b (R+2) (by omega)).trans h.ls),?_,
  hoc.kept (grownBy_setCell w1 ⟨R+3,1,none⟩ vs') (hoc.ne (by simp)),ho.kept (grownBy_setCell w1 ⟨R+3,1,none⟩ vs') (ho.ne (by simp))⟩
 ·have e:=h.eq
  exact grownBy_of_below (grownBy_of_below h.grown (hb.mono (by omega))) ((hsb).mono (by omega))
 ·have:=heap_setCell_same w1 (R+3) 1 _ _ vs' hbox
  simpa using this
theorem undrew {a b:World} {row:Option Nat} (h:a.drew.grownBy b row):a.grownBy b row:=⟨h.os,h.tape,h.output,h.size,h.block⟩
theorem nxt_nat (r:List Int) (n:Int) (h:1≤n):∃p:Nat,nxt r n=p∧(p:Int)<n:=by
 have:=nxt_bd r n (by omega);exact ⟨(nxt r n).toNat,by omega,by omega⟩
theorem caps_at (w:World) (b p:Nat) (hp:p<6) (h:w.heap[b]?=some (.cells capsArr 3 (0,0))):∃q:Int,w.cell? ⟨b,p,none⟩=some (.int .i64 q)∧0≤q∧q≤3:=by
 rw [cell_of_row w b p _ _ _ h];obtain rfl | rfl | rfl | rfl | rfl | rfl:p=0∨p=1∨p=2∨p=3∨p=4∨p=5:=by omega
 all_goals exact ⟨_,rfl,by decide,by decide⟩
theorem starts_at (w:World) (b p:Nat) (hp:p<6) (h:w.heap[b]?=some (.cells startsArr 41 (0,0))):∃q:Int,w.cell? ⟨b,p,none⟩=some (.int .u64 q)∧Hid (0≤q∧q<9223372036854775808):=by
 rw [cell_of_row w b p _ _ _ h];obtain rfl | rfl | rfl | rfl | rfl | rfl:p=0∨p=1∨p=2∨p=3∨p=4∨p=5:=by omega
 all_goals exact ⟨_,rfl,Lib.hid (by decide)⟩
def CfgOk (caps starts:List Int) (k:Nat):Prop:=caps.length=k∧starts.length=k∧(∀x∈caps,0≤x∧x≤3)∧∀x∈starts,0≤x∧x<9223372036854775808
theorem CfgOk.snoc {caps starts:List Int} {k:Nat} (h:CfgOk caps starts k) (q s:Int) (hq:0≤q∧q≤3) (hs:0≤s∧s<9223372036854775808):CfgOk (caps ++ [q]) (starts ++ [s]) (k+1):=by
 obtain ⟨h1,h2,h3,h4⟩:=h;refine ⟨by simp [h1],by simp [h2],fun x hx=>?_,fun x hx=>?_⟩
 ·simp at hx; rcases hx with hx | rfl
  ·exact h3 x hx
  ·exact hq
 ·simp at hx; rcases hx with hx | rfl
  ·exact h4 x hx
  ·exact hs
theorem CfgInv.start (w:World) (g:Nat) (r:List Int) (val:Int) (h:CodesAt w g r val) :
  CfgInv w ((((w.alloc (.cells #[.slice none 0 0,.slice none 0 0,.int .i64 0] 29)).alloc (.cells capsArr 3)).alloc (.cells startsArr 41)).alloc (.cells #[.slice none 0 0,.slice none 0 0,.int .i64 0] 29))
   g val w.heap.size (.slice none 0 0) (.slice none 0 0) [] [] r:=by
 have hb:Below w.heap.size w ((((w.alloc (.cells #[.slice none 0 0,.slice none 0 0,.int .i64 0] 29)).alloc (.cells capsArr 3)).alloc (.cells startsArr 41)).alloc (.cells #[.slice none 0 0,.slice none 0 0,.int .i64 0] 29)):=
  below_new (below_new (below_new (below_new (Below.refl _ _) _) _) _) _
 refine ⟨h.lt,rfl,h.kept h.lt hb,grownBy_of_below (grownBy_refl _ _) hb,?_,?_,?_,?_,OwnI.nil _ _ _ _,OwnI.nil _ _ _ _⟩
 ·rw [heap_alloc_old _ _ (by simp <;> omega),heap_alloc_old _ _ (by simp <;> omega),heap_alloc_old _ _ (by simp <;> omega),heap_alloc_new]
 ·rw [heap_alloc_old _ _ (by simp <;> omega),heap_alloc_old _ _ (by simp <;> omega)]
  have:=heap_alloc_new (w.alloc (.cells #[.slice none 0 0,.slice none 0 0,.int .i64 0] 29)) (.cells capsArr 3);simpa using this
 ·rw [heap_alloc_old _ _ (by simp <;> omega)]
  have:=heap_alloc_new ((w.alloc (.cells #[.slice none 0 0,.slice none 0 0,.int .i64 0] 29)).alloc (.cells capsArr 3)) (.cells startsArr 41);simpa using this
 ·have:=heap_alloc_new (((w.alloc (.cells #[.slice none 0 0,.slice none 0 0,.int .i64 0] 29)).alloc (.cells capsArr 3)).alloc (.cells startsArr 41)) (.cells #[.slice none 0 0,.slice none 0 0,.int .i64 0] 29)
  simpa using this
theorem CfgInv.fin {w0 w:World} {g:Nat} {val:Int} {R k:Nat} {vc vs:Value} {caps starts r:List Int} (h:CfgInv w0 w g val R vc vs caps starts r) (hok:CfgOk caps starts k) (hk:k≤100) (a b c d:Value) :
  SlI ((((w.setCell ⟨R+3,2,none⟩ a).setCell ⟨R,0,none⟩ b).setCell ⟨R,1,none⟩ c).setCell ⟨R,2,none⟩ d) .i64 vc caps∧
  SlI ((((w.setCell ⟨R+3,2,none⟩ a).setCell ⟨R,0,none⟩ b).setCell ⟨R,1,none⟩ c).setCell ⟨R,2,none⟩ d) .u64 vs starts∧
  CodesAt ((((w.setCell ⟨R+3,2,none⟩ a).setCell ⟨R,0,none⟩ b).setCell ⟨R,1,none⟩ c).setCell ⟨R,2,none⟩ d) g r val∧
  w0.grownBy ((((w.setCell ⟨R+3,2,none⟩ a).setCell ⟨R,0,none⟩ b).setCell ⟨R,1,none⟩ c).setCell ⟨R,2,none⟩ d) (some g)∧
  OwnI ((((w.setCell ⟨R+3,2,none⟩ a).setCell ⟨R,0,none⟩ b).setCell ⟨R,1,none⟩ c).setCell ⟨R,2,none⟩ d) (R+4) 3 .i64 vc caps∧OwnI ((((w.setCell ⟨R+3,2,none⟩ a).setCell ⟨R,0,none⟩ b).setCell ⟨R,1,none⟩ c).setCell ⟨R,2,none⟩ d) (R+4) 41 .u64 vs starts:=by
 obtain ⟨o1,o2,o3,o4⟩:=hok;have hb:Below R w ((((w.setCell ⟨R+3,2,none⟩ a).setCell ⟨R,0,none⟩ b).setCell ⟨R,1,none⟩ c).setCell ⟨R,2,none⟩ d):=
  ((((Below.refl R w).setCell (p:=⟨R+3,2,none⟩) (by simp) a).setCell (p:=⟨R,0,none⟩) (Nat.le_refl _) b).setCell (p:=⟨R,1,none⟩) (Nat.le_refl _) c).setCell (p:=⟨R,2,none⟩) (Nat.le_refl _) d
 have keep:∀{e k v l},OwnI w (R+4) e k v l→OwnI ((((w.setCell ⟨R+3,2,none⟩ a).setCell ⟨R,0,none⟩ b).setCell ⟨R,1,none⟩ c).setCell ⟨R,2,none⟩ d) (R+4) e k v l:=fun ho=>by
  have h1:=ho.kept (grownBy_setCell w ⟨R+3,2,none⟩ a) (ho.ne (by simp));have h2:=h1.kept (grownBy_setCell _ ⟨R,0,none⟩ b) (h1.ne (by simp));have h3:=h2.kept (grownBy_setCell _ ⟨R,1,none⟩ c) (h2.ne (by simp));exact h3.kept (grownBy_setCell _ ⟨R,2,none⟩ d) (h3.ne (by simp))
 refine ⟨(keep h.oc).read (by omega) fun x hx=>?_,(keep h.os).read (by omega) fun x hx=>?_,h.codes.kept h.lt hb,grownBy_of_below h.grown (hb.mono (by rw [h.eq]; exact Nat.le_refl _)),keep h.oc,keep h.os⟩
 ·have:=o3 x hx; exact i64_ok x (by omega) (by omega)
 ·have:=o4 x hx; rw [IntKind.wrap_u64]; omega
set_option maxRecDepth 100000 in
set_option maxHeartbeats 1000000 in
theorem config_own (g:Nat) (r:List Int) (val:Int) (w:World) (h:CodesAt w g r val) :
  Calls Try.prog 11 #[.pointer (some ⟨g,0,none⟩)] w fun e w'=>∃vc vs t caps starts r',e=.returned (.agg #[vc,vs,.int .i64 t])∧
   SlI w' .i64 vc caps∧SlI w' .u64 vs starts∧caps.length=starts.length∧1≤caps.length∧caps.length≤3∧2≤t∧t≤4∧CodesAt w' g r' val∧w.grownBy w' (some g)∧offB g vc∧offB g vs∧CfgOk caps starts caps.length∧OwnI w' w.heap.size 3 .i64 vc caps∧OwnI w' w.heap.size 41 .u64 vs starts:=by
 have hgl:=h.lt;go_enter Try.func11,Try.ntmps11;have ST:=Lib.hid (CfgInv.start w g r val h);go_wp2_with fail;rw [show w.heap.size+1+1+1=w.heap.size+3 from rfl,show w.heap.size+1+1=w.heap.size+2 from rfl];generalize hRR:w.heap.size=R at *;clear hRR;go_loopw [6] (fun c wr=>∃k:Nat,∃vc vs caps starts r',k≤3∧c=.int .i64 k∧Hid (CfgInv w wr g val R vc vs caps starts r')∧Hid (CfgOk caps starts k)) (fun c _=>4 - (intOf c).toNat)
 case atStart=>exact ⟨0,_,_,_,_,_,by omega,rfl,ST,rfl,rfl,by simp,by simp⟩
 case round=>
  clear ST;obtain ⟨k,vc,vs,caps,starts,r',hk,rfl,hI,hL⟩:=hrel;obtain ⟨wo,rfl⟩:∃wo:World,wo=wr:=⟨_,rfl⟩;go_wp2_with fail;refine (next_any g r' val 3 _ hI.out.codes (by omega) (by omega)).mono ?_; rintro e w1 ⟨rfl,hc1,hg1⟩;have nb:=nxt_bd r' 3 (by omega);generalize nxt r' 3=y at *;have hI1:=Lib.hid (hI.out.next hc1 hg1);clear hI hc1 hg1;by_cases hlt:(k:Int)≤y
  ·go_wp2_with fail
   have c0:=cell_of_row w1 (R+3) 0 _ _ _ hI1.out.box;simp at c0;go_region_law (first
     | (refine step_append_i64 (by rfl) _ _ (by rfl) (R+4) vc caps (by rfl) (hI2.out.oc.alloc _) q _ (by rfl) (by exact World.cell?_alloc_at _ _ _ _ rfl) (by rw [hL.out.1]; omega) (by have:=hI2.out.size; simp; omega) ?_; intro vc2 w3 ho3 hg3; obtain ⟨gg,cg,hvc2⟩:=OwnI.shape_ne ho3; obtain ⟨⟨c3,f3⟩,-⟩:=hI2.out.spot _ hg3 hI2.out.oc.own_ge; subst hvc2)
     | (go_simp; go_at_call 16; refine (next_any g _ val 6 _ (by exact hI1.out.codes) (by omega) (by omega)).mono ?_; rintro e w2 ⟨rfl,hc2,hg2⟩; have hI2:=Lib.hid (hI1.out.next hc2 (undrew hg2)); obtain ⟨p,hp,hp6⟩:=nxt_nat (List.tail r') 6 (by omega); rw [hp]; obtain ⟨q,hq,hq3⟩:=caps_at w2 (R+1) p (by omega) hI2.out.lc; have c0:=cell_of_row w2 (R+3) 0 _ _ _ hI2.out.box; have f0:=frozen_of_row w2 (R+3) 0 _ _ hI2.out.box; have z2:R+3<w2.heap.size:=(by have:=hI2.out.size; omega); simp at c0))
   all_goals
    have hI3:=Lib.hid (hI2.out.addCap _ ho3 hg3);have HQ3:=Lib.hid hq3;generalize hc2e:caps ++ [q]=caps2 at *;have HC2:=Lib.hid hc2e;generalize (Value.slice (some ⟨gg,0,none⟩) (caps.length+1) cg)=vc2 at *;clear hI1 hI2 ho3 hg3 hc2 hg2 c0 f0 c3 f3 z2 hq hq3 hp hp6 hc2e;go_wp2_with fail;generalize w3.setCell ⟨R+3,0,none⟩ vc2=W3 at *;have d0:=cell_of_row W3 (R+3) 1 _ _ _ hI3.out.box;simp at d0;go_region_law (first
     | (refine step_append_u64 (by rfl) _ _ (by rfl) (R+4) vs starts (by rfl) (hI4.out.os.alloc _) q4 _ (by rfl) (by exact World.cell?_alloc_at _ _ _ _ rfl) (by rw [hL.out.2.1]; omega) (by have:=hI4.out.size; simp; omega) ?_; intro vs2 w5 ho5 hg5; obtain ⟨gg5,cg5,hvs2⟩:=OwnI.shape_ne ho5; obtain ⟨-,⟨c5,f5⟩⟩:=hI4.out.spot _ hg5 hI4.out.os.own_ge; subst hvs2)
     | (go_simp; go_at_call 16; refine (next_any g _ val 6 _ (by exact hI3.out.codes) (by omega) (by omega)).mono ?_; rintro e w4 ⟨rfl,hc4,hg4⟩; have hI4:=Lib.hid (hI3.out.next hc4 (undrew hg4)); obtain ⟨p4,hp4,hp64⟩:=nxt_nat (List.tail (List.tail r')) 6 (by omega); rw [hp4]; obtain ⟨q4,hq4,hq43⟩:=starts_at w4 (R+2) p4 (by omega) hI4.out.ls; have d0:=cell_of_row w4 (R+3) 1 _ _ _ hI4.out.box; have f0:=frozen_of_row w4 (R+3) 1 _ _ hI4.out.box; have z4:R+3<w4.heap.size:=(by have:=hI4.out.size; omega); simp at d0))
    all_goals
     have hI5:=Lib.hid (hI4.out.addStart _ ho5 hg5);have hL5:=Lib.hid (hL.out.snoc q q4 HQ3.out hq43.out);rw [HC2.out] at hL5;clear hI4 ho5 hg5 hc4 hg4 d0 f0 c5 f5 z4 hq4 hp4 hp64;go_wp2;go_roundw
     case rel=>exact ⟨k+1,_,_,_,_,_,by omega,by go_num,hI5,hL5⟩
     case measure=>simp [intOf]; omega
  ·have hk1:1≤k:=by omega
   go_wp2_with fail;refine (next_any g _ val 3 _ hI1.out.codes (by omega) (by omega)).mono ?_; rintro e w2 ⟨rfl,hc2,hg2⟩;have nb2:=nxt_bd r'.tail 3 (by omega);generalize nxt r'.tail 3=t at *;have hI2:=Lib.hid (hI1.out.next hc2 hg2);have c0:=cell_of_row w2 (R+3) 0 _ _ _ hI2.out.box;have c1:=cell_of_row w2 (R+3) 1 _ _ _ hI2.out.box;have c2:=cell_of_row w2 (R+3) 2 _ _ _ hI2.out.box;have f2:=frozen_of_row w2 (R+3) 2 _ _ hI2.out.box;have d0:=cell_of_row w2 R 0 _ _ _ hI2.out.res;have d1:=cell_of_row w2 R 1 _ _ _ hI2.out.res;have d2:=cell_of_row w2 R 2 _ _ _ hI2.out.res;have g0:=frozen_of_row w2 R 0 _ _ hI2.out.res;have g1:=frozen_of_row w2 R 1 _ _ hI2.out.res;have g2:=frozen_of_row w2 R 2 _ _ hI2.out.res;simp at c0 c1 c2 d0 d1 d2;have hRR:¬R=R+3:=by omega
   have hR3:¬R+3=R:=by omega
   obtain ⟨ac,cc,rfl⟩:∃ac cc,vc=.slice ac caps.length cc:=by
    rcases hI2.out.oc.shape with ⟨rfl,h⟩ | ⟨g',cap',rfl,_⟩
    ·exact ⟨none,0,by rw [h]; rfl⟩
    ·exact ⟨_,_,rfl⟩
   obtain ⟨ast,cst,rfl⟩:∃ac cc,vs=.slice ac starts.length cc:=by
    rcases hI2.out.os.shape with ⟨rfl,h⟩ | ⟨g',cap',rfl,_⟩
    ·exact ⟨none,0,by rw [h]; rfl⟩
    ·exact ⟨_,_,rfl⟩
   clear hc2 hg2 hI1;have HI:=Lib.hid hI2.out;go_wp2;refine bodyPost_ret (v:=.agg #[.slice ac caps.length cc,.slice ast starts.length cst,.int .i64 (2+t)]) (by simp [results,Try.results11,go_sem, *]) rfl ?_;obtain ⟨s1,s2,s3,s4,s5,s6⟩:=HI.out.fin hL.out (by omega) (.int .i64 (2+t)) (.slice ac caps.length cc) (.slice ast starts.length cst) (.int .i64 (2+t));have hl:=hL.out;exact ⟨_,_,_,caps,starts,_,rfl,s1,s2,by rw [hl.1,hl.2.1],by rw [hl.1]; exact hk1,by rw [hl.1]; exact hk,by omega,by omega,s3,s4,HI.out.oc.off (by omega),HI.out.os.off (by omega),by rw [hl.1]; exact hl,s5.mono_base (by have:=HI.out.eq; omega),s6.mono_base (by have:=HI.out.eq; omega)⟩
theorem config_any (g:Nat) (r:List Int) (val:Int) (w:World) (h:CodesAt w g r val) :
  Calls Try.prog 11 #[.pointer (some ⟨g,0,none⟩)] w fun e w'=>∃vc vs t caps starts r',e=.returned (.agg #[vc,vs,.int .i64 t])∧
   SlI w' .i64 vc caps∧SlI w' .u64 vs starts∧caps.length=starts.length∧1≤caps.length∧caps.length≤3∧2≤t∧t≤4∧CodesAt w' g r' val∧w.grownBy w' (some g)∧offB g vc∧offB g vs∧CfgOk caps starts caps.length:=by
 refine (config_own g r val w h).mono ?_;rintro e w' ⟨vc,vs,t,caps,starts,r',h0,h1,h2,h3,h4,h5,h6,h7,h8,h9,h10,h11,h12,-,-⟩;exact ⟨vc,vs,t,caps,starts,r',h0,h1,h2,h3,h4,h5,h6,h7,h8,h9,h10,h11,h12⟩
theorem SlC.offOf {w:World} {v:Value} {l:List CaseM} (h:SlC w v l) {g:Nat} (hg:w.heap.size≤g):offB g v:=by
 intro a n c e;obtain ⟨_,_,a',cap,rfl,_,h5⟩:=h;rcases Nat.eq_zero_or_pos l.length with h0 | h0
 ·simp only [Value.slice.injEq] at e; exact .inl (by omega)
 ·obtain ⟨b,off,rfl,hlt,_⟩:=h5 0 h0
  simp only [Value.slice.injEq,Option.some.injEq] at e;obtain ⟨rfl,_⟩:=e;exact .inr (by simp; omega)
theorem SlC.grown {w w':World} {v:Value} {l:List CaseM} {g:Nat} (h:SlC w v l) (hg:w.grownBy w' (some g)) (ho:offB g v):SlC w' v l:=by
 obtain ⟨h1,h2,a,cap,rfl,h4,h5⟩:=h;refine ⟨h1,h2,a,cap,rfl,h4,fun t ht=>?_⟩;obtain ⟨b,off,rfl,hlt,c0,c1,c2⟩:=h5 t ht;have hb:b≠g:=(ho _ _ _ rfl).resolve_left (by omega);have k:∀j,w'.cell? ⟨b,j,none⟩=w.cell? ⟨b,j,none⟩:=fun j=>World.cell?_of_block (a:=⟨b,j,none⟩) (hg.block b hlt (by simpa using hb));exact ⟨b,off,rfl,Nat.lt_of_lt_of_le hlt hg.size,(k _).trans c0,(k _).trans c1,(k _).trans c2⟩
theorem OwnC.off {w:World} {base:Nat} {v:Value} {l:List CaseM} (h:OwnC w base v l) {g:Nat} (hg:g<base):offB g v:=by
 intro a n c e;subst e;have:=h.own_ge a.block rfl;exact .inr (by omega)
def ConfX (w:World) (g:Nat) (v:Value) (c:ConfM):Prop:=
 ∃vc vs,v=.agg #[vc,vs,.int .i64 c.threads]∧SlI w .i64 vc c.caps∧SlI w .u64 vs c.starts∧offB g vc∧offB g vs
theorem ConfX.conf {w:World} {g:Nat} {v:Value} {c:ConfM} (h:ConfX w g v c):ConfV w v c:=by
 obtain ⟨vc,vs,e,h1,h2,_⟩:=h; exact ⟨vc,vs,e,h1,h2⟩
theorem ConfX.below {w w':World} {g:Nat} {v:Value} {c:ConfM} (h:ConfX w g v c) (hb:Below w.heap.size w w'):ConfX w' g v c:=by
 obtain ⟨vc,vs,e,h1,h2,h3⟩:=h; exact ⟨vc,vs,e,h1.below hb,h2.below hb,h3⟩
theorem ConfX.grown {w w':World} {g:Nat} {v:Value} {c:ConfM} (h:ConfX w g v c) (hg:w.grownBy w' (some g)):ConfX w' g v c:=by
 obtain ⟨vc,vs,e,h1,h2,h3,h4⟩:=h; exact ⟨vc,vs,e,h1.grown hg h3,h2.grown hg h4,h3,h4⟩
def OpX (w:World) (g:Nat) (v:Value) (op:OpM):Prop:=
 ∃vc vd,v=.agg #[.int .i64 op.kind,.int .i64 op.mode,.int .i64 op.chan,.int .u64 op.val,.int .i64 op.dl,vc,vd]∧SlC w vc op.cases∧SlI w .i64 vd op.draws∧offB g vc∧offB g vd
theorem OpX.below {w w':World} {g:Nat} {v:Value} {op:OpM} (h:OpX w g v op) (hb:Below w.heap.size w w'):OpX w' g v op:=by
 obtain ⟨vc,vs,e,h1,h2,h3⟩:=h; exact ⟨vc,vs,e,h1.below hb,h2.below hb,h3⟩
theorem OpX.grown {w w':World} {g:Nat} {v:Value} {op:OpM} (h:OpX w g v op) (hg:w.grownBy w' (some g)):OpX w' g v op:=by
 obtain ⟨vc,vs,e,h1,h2,h3,h4⟩:=h; exact ⟨vc,vs,e,h1.grown hg h3,h2.grown hg h4,h3,h4⟩
set_option maxRecDepth 100000 in
theorem channelE (g:Nat) (v:Value) (c:ConfM) (w:World) (h:CodesE w g) (hv:ConfX w g v c) (hc:c.caps.length≤8) :
  Calls Try.prog 46 #[.pointer (some ⟨g,0,none⟩),v] w fun e w'=>∃x:Int,e=.returned (.int .i64 x)∧-1≤x∧x<8∧CodesE w' g∧w.grownBy w' (some g):=by
 have hlt:=h.lt;have HC:=Lib.hid h;obtain ⟨vc,vs,rfl,h1,h2,_⟩:=hv;obtain ⟨a,cap,rfl,-⟩:=h1.len;obtain ⟨a2,cap2,rfl,-⟩:=h2.len;clear h h1 h2;obtain ⟨W,hW⟩:∃W,w.alloc (.cells #[.slice a c.caps.length cap,.slice a2 c.starts.length cap2,.int .i64 c.threads] 29)=W:=⟨_,rfl⟩;have HB:Hid (Below w.heap.size w W):=hW▸below_new (Below.refl w.heap.size w) _;have hz:w.heap.size+1≤W.heap.size:=by rw [← hW]; simp
 have R0:Hid (W.heap[w.heap.size]?=some (.cells #[.slice a c.caps.length cap,.slice a2 c.starts.length cap2,.int .i64 c.threads] 29 (0,0))):=by
  show _=_;rw [← hW]; exact heap_alloc_new _ _
 have HCW:=Lib.hid (HC.out.kept hlt HB.out);have HW:=Lib.hid hW;clear hW;generalize c.caps.length=n at *;go_enter Try.func46,Try.ntmps46;go_wp2_with fail;rw [HW.out];refine (nextE g 16 _ HCW.out (by omega) (by omega)).mono ?_; rintro e w1 ⟨x,rfl,hx0,hx1,hc1,hg1⟩;have HC1:=Lib.hid hc1;have HG1:=Lib.hid (grownBy_trans (⟨HB.out.os,HB.out.tape,HB.out.output,HB.out.size,fun j hj _=>HB.out.block j hj⟩:w.grownBy W (some g)) hg1);have bx:=(hg1.block w.heap.size (by omega) (by simp; omega)).trans R0.out;have c0:=cell_of_row _ _ 0 _ _ _ bx;simp at c0;clear hc1 hg1 bx;by_cases h9:x=9
 ·subst h9
  go_wp2_with fail;refine (nextE g 9 _ HC1.out (by omega) (by omega)).mono ?_; rintro e w2 ⟨y,rfl,hy0,hy1,hc2,hg2⟩;have HC2:=Lib.hid hc2;have HG2:=Lib.hid (grownBy_trans HG1.out hg2);clear hc2 hg2;go_wp2;go_ret;exact ⟨y - 1,rfl,by omega,by omega,HC2.out,HG2.out⟩
 ·have h9b:(x == 9)=false:=by simpa using h9
  clear h9;by_cases h0:n=0
  ·subst h0
   go_wp2;go_ret;exact ⟨-1,rfl,by omega,by omega,HC1.out,HG1.out⟩
  ·have h0b:((n:Int) == 0)=false:=by simpa using h0
   go_wp2_with fail;refine (nextE g n _ HC1.out (by omega) (by omega)).mono ?_; rintro e w2 ⟨y,rfl,hy0,hy1,hc2,hg2⟩;have HC2:=Lib.hid hc2;have HG2:=Lib.hid (grownBy_trans HG1.out hg2);clear hc2 hg2;go_wp2;go_ret;exact ⟨y,rfl,by omega,by omega,HC2.out,HG2.out⟩
structure DeskM where
 chans:List ChanM
 wait:List WaitM
 tick:Int
structure DoneM where
 thr:Int
 res:ResM
def fstI {α:Type} (p:α→Bool) (l:List α):Int:=match l.findIdx? p with | some i=>(i:Int) | none=>-1
theorem getD_lt {α:Type} {l:List α} {i:Nat} {d:α} (hi:i<l.length):l.getD i d=l[i]:=by
 rw [List.getD_eq_getElem?_getD,List.getElem?_eq_getElem hi];rfl
theorem fstI_hit {α:Type} {p:α→Bool} {l:List α} {i:Nat} (d:α) (hi:i<l.length) (h:p (l.getD i d)=true) (hb:∀j,j<i→p (l.getD j d)=false):fstI p l=i:=by
 have e:l.findIdx? p=some i:=by
  rw [List.findIdx?_eq_some_iff_getElem];refine ⟨hi,by rw [← getD_lt (d:=d) hi]; exact h,fun j hj=>?_⟩;have:=hb j hj;rw [getD_lt (Nat.lt_trans hj hi)] at this;simp [this]
 unfold fstI;rw [e]
theorem fstI_none {α:Type} {p:α→Bool} {l:List α} (d:α) (h:∀j,j<l.length→p (l.getD j d)=false):fstI p l=-1:=by
 have e:l.findIdx? p=none:=by
  rw [List.findIdx?_eq_none_iff];intro x hx;obtain ⟨j,hj,rfl⟩:=List.mem_iff_getElem.1 hx;have:=h j hj;rw [getD_lt hj] at this;exact this
 unfold fstI;rw [e]
theorem fstI_cases {α:Type} (p:α→Bool) (l:List α) (d:α):(fstI p l=-1∧∀j,j<l.length→p (l.getD j d)=false)∨∃i:Nat,i<l.length∧fstI p l=i∧p (l.getD i d)=true∧∀j,j<i→p (l.getD j d)=false:=by
 cases h:l.findIdx? p with
 | none=>
  refine .inl ⟨by unfold fstI; rw [h],fun j hj=>?_⟩;rw [List.findIdx?_eq_none_iff] at h;rw [getD_lt hj];exact h _ (List.getElem_mem hj)
 | some i=>
  rw [List.findIdx?_eq_some_iff_getElem] at h;obtain ⟨hi,h1,h2⟩:=h;refine .inr ⟨i,hi,?_,by rw [getD_lt hi]; exact h1,fun j hj=>?_⟩
  ·refine fstI_hit d hi (by rw [getD_lt hi]; exact h1) fun j hj=>?_
   rw [getD_lt (Nat.lt_trans hj hi)];simpa using h2 j hj
  ·rw [getD_lt (Nat.lt_trans hj hi)]
   simpa using h2 j hj
theorem fstI_range {α:Type} (p:α→Bool) (l:List α):-1≤fstI p l∧fstI p l<(l.length:Int):=by
 unfold fstI;cases h:l.findIdx? p with
 | none=>simp; omega
 | some i=>
  rw [List.findIdx?_eq_some_iff_getElem] at h;obtain ⟨hi,-⟩:=h;simp;omega
def isSide (ch:Int) (sd:Bool) (x:CaseM):Bool:=x.chan == ch && x.send == sd
def sideI (op:OpM) (ch:Int) (sd:Bool):Int:=fstI (isSide ch sd) (casesE op)
def isPart (thr ch:Int) (sd:Bool) (y:WaitM):Bool:=y.thr != thr && decide (0≤sideI y.op ch sd)
def partI (d:DeskM) (thr:Int) (x:CaseM):Int:=if exB d.chans x.chan=true then fstI (isPart thr x.chan (!x.send)) d.wait else -1
def readyD (d:DeskM) (thr:Int) (x:CaseM):Bool:=readyB d.chans x || decide (0≤partI d thr x)
def choiceL (d:DeskM) (thr:Int) (op:OpM) (ol:List Int):Int:=match ol.find? (fun i=>readyD d thr (op.cases.getD i.toNat noCase)) with | some i=>i | none=>-1
def choiceD (d:DeskM) (thr:Int) (op:OpM):Int:=choiceL d thr op (ordL op.cases.length op.draws)
theorem choiceL_hit {d:DeskM} {thr:Int} {op:OpM} {ol:List Int} {k:Nat} (hk:k<ol.length) (h:readyD d thr (op.cases.getD (ol.getD k 0).toNat noCase)=true) (hb:∀j,j<k→readyD d thr (op.cases.getD (ol.getD j 0).toNat noCase)=false):choiceL d thr op ol=ol.getD k 0:=by
 have e:ol.find? (fun i=>readyD d thr (op.cases.getD i.toNat noCase))=some (ol.getD k 0):=by
  rw [List.find?_eq_some_iff_getElem];refine ⟨h,k,hk,(getD_lt hk).symm,fun j hj=>?_⟩;have:=hb j hj;rw [getD_lt (Nat.lt_trans hj hk)] at this;rw [this]; rfl
 unfold choiceL;rw [e]
theorem choiceL_none {d:DeskM} {thr:Int} {op:OpM} {ol:List Int} (h:∀j,j<ol.length→readyD d thr (op.cases.getD (ol.getD j 0).toNat noCase)=false):choiceL d thr op ol=-1:=by
 have e:ol.find? (fun i=>readyD d thr (op.cases.getD i.toNat noCase))=none:=by
  rw [List.find?_eq_none];intro x hx;obtain ⟨j,hj,rfl⟩:=List.mem_iff_getElem.1 hx;have:=h j hj;rw [getD_lt hj] at this;rw [this]; simp
 unfold choiceL;rw [e]
def namedI (op:OpM) (i:Int):Int:=if op.kind=4 then i else -1
structure DeskM.ok (d:DeskM):Prop where
 cl:d.chans.length≤1000
 wl:d.wait.length≤1000
 bf:∀c∈d.chans,c.buf.length≤1000
 wop:∀x∈d.wait,x.op.fine
def doneL (x:DoneM):List Value:=.int .i64 x.thr :: resL x.res
def doneRows (l:List DoneM):List (List Value):=l.map doneL
theorem doneRows_length (l:List DoneM):(doneRows l).length=l.length:=List.length_map _
def doneZ:DoneM:=⟨0,⟨0,0,0,false,0⟩⟩
theorem doneRows_get (l:List DoneM) (i:Nat) (hi:i<l.length):(doneRows l).getD i []=doneL (l.getD i doneZ):=by
 simp [doneRows,List.getD_eq_getElem?_getD,hi]
def SlWX (P:Nat→Prop) (w:World) (v:Value) (l:List WaitM):Prop:=
 ∃rows:List (List Value),rows.length=l.length∧SlS w 8 v rows∧(∀i,i<l.length→∃vc vd,rows.getD i []=wtL (wat l i) vc vd∧SlC w vc (wat l i).op.cases∧SlI w .i64 vd (wat l i).op.draws∧atP P vc∧atP P vd)∧atP P v
theorem SlWX.slW {P:Nat→Prop} {w:World} {v:Value} {l:List WaitM} (h:SlWX P w v l):SlW w v l:=by
 obtain ⟨rows,h1,h2,h3,-⟩:=h;exact ⟨rows,h1,h2,fun i hi=>by
  obtain ⟨vc,vd,e,h4,h5,-⟩:=h3 i hi;exact ⟨vc,vd,e,h4,h5⟩⟩
theorem SlWX.mono {P Q:Nat→Prop} {w:World} {v:Value} {l:List WaitM} (h:SlWX P w v l) (hpq:∀b,P b→Q b):SlWX Q w v l:=by
 obtain ⟨rows,h1,h2,h3,h4⟩:=h;exact ⟨rows,h1,h2,fun i hi=>by
  obtain ⟨vc,vd,e,h5,h6,h7,h8⟩:=h3 i hi;exact ⟨vc,vd,e,h5,h6,h7.mono hpq,h8.mono hpq⟩,h4.mono hpq⟩
theorem SlWX.below {P:Nat→Prop} {w w':World} {v:Value} {l:List WaitM} (h:SlWX P w v l) (hb:Below w.heap.size w w'):SlWX P w' v l:=by
 obtain ⟨rows,h1,h2,h3,h4⟩:=h;exact ⟨rows,h1,h2.below hb,fun i hi=>by
  obtain ⟨vc,vd,e,h5,h6,h7,h8⟩:=h3 i hi;exact ⟨vc,vd,e,h5.below hb,h6.below hb,h7,h8⟩,h4⟩
theorem SlS.off {P:Nat→Prop} {w w2:World} {s g:Nat} {v:Value} {rows:List (List Value)} (h:SlS w s v rows) (hg:w.grownBy w2 (some g)) (ha:atP P v) (hP:∀b,P b→b≠g):SlS w2 s v rows:=by
 obtain ⟨q1,q2,a,cap,rfl,q4,q5⟩:=h;refine ⟨q1,q2,a,cap,rfl,q4,fun i hi=>?_⟩;obtain ⟨b,off,rfl,hb,hr⟩:=q5 i hi;have hne:b≠g:=by
  rcases ha _ _ _ rfl with h7 | h7
  ·omega
  ·exact hP _ h7
 exact ⟨b,off,rfl,Nat.lt_of_lt_of_le hb hg.size,fun j u hj=>by
  have hbk:=hg.block b hb (fun e=>hne (by simpa using e));have:=hr j u hj;unfold World.cell? at this ⊢;rw [hbk];exact this⟩
theorem SlWX.off {P:Nat→Prop} {w w2:World} {g:Nat} {v:Value} {l:List WaitM} (h:SlWX P w v l) (hg:w.grownBy w2 (some g)) (hP:∀b,P b→b≠g):SlWX P w2 v l:=by
 obtain ⟨rows,h1,h2,h3,h4⟩:=h;exact ⟨rows,h1,h2.off hg h4 hP,fun i hi=>by
  obtain ⟨vc,vd,e,h5,h6,h7,h8⟩:=h3 i hi;exact ⟨vc,vd,e,h5.grown hg (h7.off hP),h6.grown hg (h8.off hP),h7,h8⟩,h4⟩
def OpY (P:Nat→Prop) (w:World) (v:Value) (op:OpM):Prop:=
 ∃vc vd,v=.agg #[.int .i64 op.kind,.int .i64 op.mode,.int .i64 op.chan,.int .u64 op.val,.int .i64 op.dl,vc,vd]∧SlC w vc op.cases∧SlI w .i64 vd op.draws∧atP P vc∧atP P vd
theorem OpY.below {P:Nat→Prop} {w w':World} {v:Value} {op:OpM} (h:OpY P w v op) (hb:Below w.heap.size w w'):OpY P w' v op:=by
 obtain ⟨vc,vd,e,h1,h2,h3,h4⟩:=h;exact ⟨vc,vd,e,h1.below hb,h2.below hb,h3,h4⟩
def DeskX (P:Nat→Prop) (w:World) (v:Value) (d:DeskM):Prop:=
 ∃vc vw,v=.agg #[vc,vw,.int .i64 d.tick]∧SlHX P w vc d.chans∧SlWX P w vw d.wait
theorem DeskX.below {P:Nat→Prop} {w w':World} {v:Value} {d:DeskM} (h:DeskX P w v d) (hb:Below w.heap.size w w'):DeskX P w' v d:=by
 obtain ⟨vc,vw,e,h1,h2⟩:=h;exact ⟨vc,vw,e,h1.below hb,h2.below hb⟩
theorem DeskX.off {P:Nat→Prop} {w w2:World} {g:Nat} {v:Value} {d:DeskM} (h:DeskX P w v d) (hg:w.grownBy w2 (some g)) (hP:∀b,P b→b≠g):DeskX P w2 v d:=by
 obtain ⟨vc,vw,e,h1,h2⟩:=h;exact ⟨vc,vw,e,h1.off hg hP,h2.off hg hP⟩
theorem DeskX.mono {P Q:Nat→Prop} {w:World} {v:Value} {d:DeskM} (h:DeskX P w v d) (hpq:∀b,P b→Q b):DeskX Q w v d:=by
 obtain ⟨vc,vw,e,h1,h2⟩:=h;exact ⟨vc,vw,e,h1.mono hpq,h2.mono hpq⟩
def DeskV (w:World) (v:Value) (d:DeskM):Prop:=∃vc vw,v=.agg #[vc,vw,.int .i64 d.tick]∧SlH w vc d.chans∧SlW w vw d.wait
theorem DeskX.deskV {P:Nat→Prop} {w:World} {v:Value} {d:DeskM} (h:DeskX P w v d):DeskV w v d:=by
 obtain ⟨vc,vw,e,h1,h2⟩:=h;exact ⟨vc,vw,e,h1.slH,h2.slW⟩
theorem DeskV.below {w w':World} {v:Value} {d:DeskM} (h:DeskV w v d) (hb:Below w.heap.size w w'):DeskV w' v d:=by
 obtain ⟨vc,vw,e,h1,h2⟩:=h;exact ⟨vc,vw,e,h1.below hb,h2.below hb⟩
set_option maxRecDepth 100000 in
set_option maxHeartbeats 16000000 in
theorem rside_any (v:Value) (op:OpM) (ch:Int) (sd:Bool) (w:World) (h:OpV w v op) (hok:op.chan=IntKind.i64.wrap op.chan∧op.val=IntKind.u64.wrap op.val) (hl:(casesE op).length≤100000):Calls Try.prog 81 #[v,.int .i64 ch,.bool sd] w fun e w'=>e=.returned (.int .i64 (sideI op ch sd))∧Below w.heap.size w w':=by
 have TC:=Lib.hid fun w' (hb:Below w.heap.size w w')=>rcases_any v op w' (h.below hb) hok;obtain ⟨vc,vd,rfl,hc,hd⟩:=h;obtain ⟨q,hq⟩:∃z,sideI op ch sd=z:=⟨_,rfl⟩;rw [hq];obtain ⟨lc,hlc⟩:∃z,casesE op=z:=⟨_,rfl⟩;have HQ1:Hid (∀i,i<lc.length→isSide ch sd (lc.getD i noCase)=true→(∀j,j<i→isSide ch sd (lc.getD j noCase)=false)→q=(i:Int)):=fun i hi h1 h2=>by rw [← hq]; unfold sideI; rw [hlc]; exact fstI_hit noCase hi h1 h2
 have HQ2:Hid ((∀j,j<lc.length→isSide ch sd (lc.getD j noCase)=false)→q=-1):=fun h=>by rw [← hq]; unfold sideI; rw [hlc]; exact fstI_none noCase h
 rw [hlc] at TC hl;obtain ⟨kd,md,oc,vl,dl,cs,ds⟩:=op;dsimp only at *;obtain ⟨a3,cap3,rfl⟩:=hc.len;obtain ⟨a4,cap4,rfl,-⟩:=hd.len;clear hc hd hok hq hlc;obtain ⟨W,hW,HB,R0,hz⟩:=one_new w (.cells #[.int .i64 kd,.int .i64 md,.int .i64 oc,.int .u64 vl,.int .i64 dl,.slice a3 cs.length cap3,.slice a4 ds.length cap4] 44);have HW:=Lib.hid hW;clear hW;go_enter Try.func81,Try.ntmps81;go_upto_region 1 with fail
 rw [HW.out];clear HW;obtain ⟨x0_0,x0_1,x0_2,x0_3,x0_4,x0_5,x0_6⟩:=rowc7 R0.out;go_wp2_with fail;refine (TC.out _ HB.out).mono ?_; rintro e w1 ⟨u,rfl,hsc,hb1⟩;have HB1:=Lib.hid (below_then HB.out hb1);obtain ⟨-,-,a,cap,rfl,-,hcell⟩:=hsc;have HC:=Lib.hid hcell;clear x0_0 x0_1 x0_2 x0_3 x0_4 x0_5 x0_6 hb1 hcell TC;go_wp2_with fail;go_loopw [8] (fun u8 wr=>∃i:Nat,u8=.int .i64 i∧i≤lc.length∧Hid (wr=w1)∧Hid (∀j,j<i→isSide ch sd (lc.getD j noCase)=false)) (fun u8 _=>lc.length - (intOf u8).toNat)
 case atStart=>exact ⟨0,rfl,by omega,rfl,fun j hj=>by omega⟩
 case round=>
  obtain ⟨i,rfl,hi,HW,HP⟩:=hrel;obtain ⟨wo,rfl⟩:∃wo:World,wo=wr:=⟨_,rfl⟩;have hw:=HW.out;clear HW;subst hw;by_cases hlt:i<lc.length
  ·have hltI:(i:Int)<(lc.length:Int):=by omega
   obtain ⟨b,off,rfl,hb,hca⟩:=HC.out i hlt;obtain ⟨⟨s1,s2,s3⟩,hx⟩:∃x,lc.getD i noCase=x:=⟨_,rfl⟩;rw [hx] at hca;obtain ⟨c0,c1,c2⟩:=hca;dsimp only at c0 c1 c2;have HQ:=Lib.hid (HQ1.out i hlt);rw [hx] at HQ;have HX:=Lib.hid hx;obtain ⟨q1,hq1⟩:∃z,(s2 == ch)=z:=⟨_,rfl⟩;obtain ⟨q2,hq2⟩:∃z,(s1 == sd)=z:=⟨_,rfl⟩;have HIS:Hid (isSide ch sd ⟨s1,s2,s3⟩=(q1 && q2)):=by show ((s2 == ch) && (s1 == sd))=_; rw [hq1,hq2]
   clear hx hb;cases q1 with
   | false=>
    go_wp2_with fail;go_roundw
    case rel=>exact ⟨i+1,by go_num,by omega,Lib.hid trivial,fun j hj=>by
     rcases Nat.lt_or_ge j i with h | h
     ·exact HP.out j h
     ·rw [show j=i by omega,HX.out]; exact HIS.out⟩
    case measure=>simp [intOf]; omega
   | true=>
    cases q2 with
    | false=>
     go_wp2_with fail;go_roundw
     case rel=>exact ⟨i+1,by go_num,by omega,Lib.hid trivial,fun j hj=>by
      rcases Nat.lt_or_ge j i with h | h
      ·exact HP.out j h
      ·rw [show j=i by omega,HX.out]; exact HIS.out⟩
     case measure=>simp [intOf]; omega
    | true=>
     have HF:=Lib.hid (HQ.out HIS.out HP.out);clear HQ1 HQ2 HQ;go_wp2_with fail;go_ret;exact ⟨by rw [HF.out]; rfl,HB1.out⟩
  ·have hge:¬(i:Int)<(lc.length:Int):=by omega
   have HF:=Lib.hid (HQ2.out (fun j hj=>HP.out j (by omega)));clear HQ1 HQ2;go_wp2_with fail;go_ret;exact ⟨by rw [HF.out]; rfl,HB1.out⟩
theorem DeskM.ok.fine {d:DeskM} (h:d.ok) (i:Nat) (hi:i<d.wait.length):(wat d.wait i).op.fine:=by
 unfold wat;rw [getD_lt hi];exact h.wop _ (List.getElem_mem hi)
set_option maxRecDepth 100000 in
set_option maxHeartbeats 16000000 in
theorem rpartner_any (v:Value) (d:DeskM) (thr:Int) (x:CaseM) (w:World) (h:DeskV w v d) (hd:d.ok):Calls Try.prog 58 #[v,.int .i64 thr,caseW x] w fun e w'=>e=.returned (.int .i64 (partI d thr x))∧Below w.heap.size w w':=by
 obtain ⟨vc,vw,rfl,hch,hwt⟩:=h;obtain ⟨ac,kc,rfl,-⟩:=hch.len;obtain ⟨aw,kw,rfl,-⟩:=hwt.len;have TS:=Lib.hid fun (i:Nat) (hi:i<d.wait.length) (vo:Value) w' (hb:OpV w' vo (wat d.wait i).op) ch sd=>rside_any vo (wat d.wait i).op ch sd w' hb (hd.fine i hi).ok (hd.fine i hi).len;have HWT:=Lib.hid hwt;obtain ⟨q,hq⟩:∃z,partI d thr x=z:=⟨_,rfl⟩;rw [hq];obtain ⟨sd,ch,vl⟩:=x;unfold caseW;dsimp only;have HQ0:Hid (exB d.chans ch=false→q=-1):=fun h=>by rw [← hq]; unfold partI; rw [if_neg (by rw [h]; decide)]
 have HQ1:Hid (exB d.chans ch=true→∀i,i<d.wait.length→isPart thr ch (!sd) (wat d.wait i)=true→(∀j,j<i→isPart thr ch (!sd) (wat d.wait j)=false)→q=(i:Int)):=fun h i hi h1 h2=>by rw [← hq]; unfold partI; rw [if_pos h]; exact fstI_hit watZ hi h1 h2
 have HQ2:Hid (exB d.chans ch=true→(∀j,j<d.wait.length→isPart thr ch (!sd) (wat d.wait j)=false)→q=-1):=fun h h1=>by rw [← hq]; unfold partI; rw [if_pos h]; exact fstI_none watZ h1
 have hnl:=hd.wl;obtain ⟨cn,hcn⟩:∃z,d.chans.length=z:=⟨_,rfl⟩;obtain ⟨wl,hwl⟩:∃z,d.wait=z:=⟨_,rfl⟩;have HEX:Hid (exB d.chans ch=(decide (0≤ch) && decide (ch<(cn:Int)))):=by show _=_; unfold exB; rw [hcn]
 rw [hwl] at TS HWT HQ1 HQ2 hnl ⊢;rw [hcn];clear hch hwt hd hq hcn hwl;obtain ⟨tk,htk⟩:∃z,d.tick=z:=⟨_,rfl⟩;rw [htk];clear htk;obtain ⟨W,hW,HB,R0,R1,hz⟩:=two_new w (.cells #[.slice ac cn kc,.slice aw wl.length kw,.int .i64 tk] 34) (.cells #[.bool sd,.int .i64 ch,.int .u64 vl] 58);have HW:=Lib.hid hW;clear hW;go_enter Try.func58,Try.ntmps58;go_upto_region 1 with fail
 rw [HW.out];clear HW;obtain ⟨x0_0,x0_1,x0_2⟩:=rowc3 R0.out;obtain ⟨x1_0,x1_1,x1_2⟩:=rowc3 R1.out;by_cases h0:ch<0
 ·have hbad:exB d.chans ch=false:=by rw [HEX.out,decide_eq_false (by omega)]; rfl
  have HF:=Lib.hid (HQ0.out hbad);clear HQ0 HQ1 HQ2 HEX hbad TS;go_wp2_with fail;go_ret;exact ⟨by rw [HF.out]; rfl,HB.out⟩
 by_cases h1:(cn:Int)≤ch
 ·have hbad:exB d.chans ch=false:=by rw [HEX.out,decide_eq_false (show ¬ch<(cn:Int) by omega),Bool.and_false]
  have HF:=Lib.hid (HQ0.out hbad);clear HQ0 HQ1 HQ2 HEX hbad TS;go_wp2_with fail;go_ret;exact ⟨by rw [HF.out]; rfl,HB.out⟩
 have hex:exB d.chans ch=true:=by rw [HEX.out,decide_eq_true (show 0≤ch by omega),decide_eq_true (show ch<(cn:Int) by omega)]; rfl
 have HQ3:=Lib.hid (HQ1.out hex);have HQ4:=Lib.hid (HQ2.out hex);clear HQ0 HQ1 HQ2 HEX hex;have hch1:¬ch ≥ (cn:Int):=by omega
 go_wp2_with fail;go_loopw [7] (fun u7 wr=>∃i:Nat,u7=.int .i64 i∧i≤wl.length∧Hid (Below W.heap.size W wr)∧Hid (∀j,j<i→isPart thr ch (!sd) (wat wl j)=false)) (fun u7 _=>wl.length - (intOf u7).toNat)
 case atStart=>exact ⟨0,rfl,by omega,Below.refl _ _,fun j hj=>by omega⟩
 case round=>
  clear x0_0 x0_1 x0_2 x1_0 x1_1 x1_2;obtain ⟨i,rfl,hi,HBi,HP⟩:=hrel;obtain ⟨wo,rfl⟩:∃wo:World,wo=wr:=⟨_,rfl⟩;have R0o:=keepR HBi.out R0;have R1o:=keepR HBi.out R1;have HBo:=Lib.hid (below_then HB.out HBi.out);obtain ⟨x0,x1,x2⟩:=rowc3 R0o.out;obtain ⟨y0,y1,y2⟩:=rowc3 R1o.out;by_cases hlt:i<wl.length
  ·have hltI:(i:Int)<(wl.length:Int):=by omega
   obtain ⟨b,off,cap,wc1,wd1,hve,hb,c0,c1,c2,c3,c4,c5,c6,c7,hsc,hsd⟩:=(HWT.out.below HBo.out).at i hlt;simp only [Value.slice.injEq] at hve;obtain ⟨rfl,-,rfl⟩:=hve;obtain ⟨⟨tt,⟨kd,md,oc,ov,odl,cs,ds⟩⟩,hx⟩:∃x,wat wl i=x:=⟨_,rfl⟩;have HQ:=Lib.hid (HQ3.out i hlt);have TSi:=Lib.hid (TS.out i hlt);rw [hx] at c0 c1 c2 c3 c4 c5 hsc hsd HQ TSi;dsimp only at c0 c1 c2 c3 c4 c5 hsc hsd;obtain ⟨a5,k5,rfl⟩:=hsc.len;obtain ⟨a6,k6,rfl,-⟩:=hsd.len;have HSC:=Lib.hid hsc;have HSD:=Lib.hid hsd;have HX:=Lib.hid hx;obtain ⟨q1,hq1⟩:∃z,(tt != thr)=z:=⟨_,rfl⟩;obtain ⟨r,hr⟩:∃z,sideI ⟨kd,md,oc,ov,odl,cs,ds⟩ ch (!sd)=z:=⟨_,rfl⟩;have TT:=Lib.hid fun w' (hb:Below wo.heap.size wo w')=>TSi.out (.agg #[.int .i64 kd,.int .i64 md,.int .i64 oc,.int .u64 ov,.int .i64 odl,.slice a5 cs.length k5,.slice a6 ds.length k6]) w' ⟨_,_,rfl,HSC.out.below hb,HSD.out.below hb⟩ ch (!sd);dsimp only at TT;rw [hr] at TT;obtain ⟨q2,hq2⟩:∃z,decide (r ≥ 0)=z:=⟨_,rfl⟩;have HIS:Hid (isPart thr ch (!sd) ⟨tt,⟨kd,md,oc,ov,odl,cs,ds⟩⟩=(q1 && q2)):=by
    show ((tt != thr) && decide (0≤sideI ⟨kd,md,oc,ov,odl,cs,ds⟩ ch (!sd)))=_;rw [hq1,hr,← hq2]
   have hW0:w.heap.size<wo.heap.size:=(ltR R0o);have hW1:w.heap.size+1<wo.heap.size:=(ltR R1o);clear hsc hsd hx hr TSi;have HQ2:=Lib.hid hq2;cases q1 with
   | false=>
    go_upto_region 6 with fail
    have Xx1:=ext_cell _ _ (hW0) _ x1;have Xy1:=ext_cell _ _ (hW1) _ y1;have Xy0:=ext_cell _ _ (hW1) _ y0;have Xc0:=ext_cell _ _ (hb) _ c0;have Xc1:=ext_cell _ _ (hb) _ c1;have Xc2:=ext_cell _ _ (hb) _ c2;have Xc3:=ext_cell _ _ (hb) _ c3;have Xc4:=ext_cell _ _ (hb) _ c4;have Xc5:=ext_cell _ _ (hb) _ c5;have Xc6:=ext_cell _ _ (hb) _ c6;have Xc7:=ext_cell _ _ (hb) _ c7;clear x1 y1 y0 c0 c1 c2 c3 c4 c5 c6 c7;refine wp_region_ext wo (by kernel_rfl) (by kernel_rfl) (Below.refl _ _) ?_
    repeat (go_big_quiet_step (first | (go_at_call 81; with_reducible exact calls_ext (TT.out _ (Ext.below _)))))
    refine wpQuiet_nil ?_;intro _ hw';obtain ⟨n9,rfl⟩:=hw';have HB9:=Lib.hid (below_then HBi.out n9.below);generalize n9.wd=w9 at *;clear Xx1 Xy1 Xy0 Xc0 Xc1 Xc2 Xc3 Xc4 Xc5 Xc6 Xc7;clear hq2;go_wp2_with fail;go_roundw
    case rel=>exact ⟨i+1,by go_num,by omega,HB9,fun j hj=>by
     rcases Nat.lt_or_ge j i with h | h
     ·exact HP.out j h
     ·rw [show j=i by omega,HX.out]; exact HIS.out⟩
    case measure=>simp [intOf]; omega
   | true=>
    go_upto_region 6 with fail
    have Xx1:=ext_cell _ _ (hW0) _ x1;have Xy1:=ext_cell _ _ (hW1) _ y1;have Xy0:=ext_cell _ _ (hW1) _ y0;have Xc0:=ext_cell _ _ (hb) _ c0;have Xc1:=ext_cell _ _ (hb) _ c1;have Xc2:=ext_cell _ _ (hb) _ c2;have Xc3:=ext_cell _ _ (hb) _ c3;have Xc4:=ext_cell _ _ (hb) _ c4;have Xc5:=ext_cell _ _ (hb) _ c5;have Xc6:=ext_cell _ _ (hb) _ c6;have Xc7:=ext_cell _ _ (hb) _ c7;clear x1 y1 y0 c0 c1 c2 c3 c4 c5 c6 c7;refine wp_region_ext wo (by kernel_rfl) (by kernel_rfl) (Below.refl _ _) ?_
    repeat (go_big_quiet_step (first | (go_at_call 81; with_reducible exact calls_ext (TT.out _ (Ext.below _)))))
    refine wpQuiet_nil ?_;intro _ hw';obtain ⟨n9,rfl⟩:=hw';have HB9:=Lib.hid (below_then HBi.out n9.below);generalize n9.wd=w9 at *;clear Xx1 Xy1 Xy0 Xc0 Xc1 Xc2 Xc3 Xc4 Xc5 Xc6 Xc7;cases q2 with
    | false=>
     go_wp2_with fail;go_roundw
     case rel=>exact ⟨i+1,by go_num,by omega,HB9,fun j hj=>by
      rcases Nat.lt_or_ge j i with h | h
      ·exact HP.out j h
      ·rw [show j=i by omega,HX.out]; exact HIS.out⟩
     case measure=>simp [intOf]; omega
    | true=>
     have HF:=Lib.hid (HQ.out HIS.out HP.out);clear HQ3 HQ4 HQ;go_wp2_with fail;go_ret;exact ⟨by rw [HF.out]; rfl,below_then HB.out HB9.out⟩
  ·have hge:¬(i:Int)<(wl.length:Int):=by omega
   have HF:=Lib.hid (HQ4.out (fun j hj=>HP.out j (by omega)));clear HQ3 HQ4;go_wp2_with fail;go_ret;exact ⟨by rw [HF.out]; rfl,HBo.out⟩
theorem ownOrder_any (v:Value) (op:OpM) (w:World) (h:OpV w v op) :
  Calls Try.prog 59 #[v] w fun e w'=>∃u,e=.returned u∧SlI w' .i64 u (ordL op.cases.length op.draws)∧Below w.heap.size w w':=by
 obtain ⟨kd,md,ch,vl,dl,cs,ds⟩:=op;obtain ⟨vc,vd,rfl,hc,hd⟩:=h;dsimp only at *;have hl:=hc.1;obtain ⟨a3,cap3,rfl⟩:=hc.len;have HD:=Lib.hid hd;obtain ⟨a4,cap4,rfl,-⟩:=hd.len;clear hc hd;have HB:=Lib.hid (below_new (Below.refl w.heap.size w) (.cells #[.int .i64 kd,.int .i64 md,.int .i64 ch,.int .u64 vl,.int .i64 dl,.slice a3 cs.length cap3,.slice a4 ds.length cap4] 44));have OR:=Lib.hid fun w' h=>order_read cs.length (.slice a4 ds.length cap4) ds w' h;generalize ordL cs.length ds=ol at *;go_enter Try.func59,Try.ntmps59;go_wp2_with (go_at_call 87; refine (OR.out _ (HD.out.below HB.out)).mono ?_; rintro e w1 ⟨u,rfl,hu,hb⟩);go_ret;exact ⟨u,rfl,hu,below_then HB.out hb⟩
theorem refOrder_any (v:Value) (op:OpM) (w:World) (h:OpV w v op) :
  Calls Try.prog 35 #[v] w fun e w'=>∃u,e=.returned u∧SlI w' .i64 u (ordL op.cases.length op.draws)∧Below w.heap.size w w':=by
 obtain ⟨kd,md,ch,vl,dl,cs,ds⟩:=op;obtain ⟨vc,vd,rfl,hc,hd⟩:=h;dsimp only at *;have hl:=hc.1;obtain ⟨a3,cap3,rfl⟩:=hc.len;have HD:=Lib.hid hd;obtain ⟨a4,cap4,rfl,-⟩:=hd.len;clear hc hd;have HB:=Lib.hid (below_new (Below.refl w.heap.size w) (.cells #[.int .i64 kd,.int .i64 md,.int .i64 ch,.int .u64 vl,.int .i64 dl,.slice a3 cs.length cap3,.slice a4 ds.length cap4] 44));have OR:=Lib.hid fun w' h=>rorder_read cs.length (.slice a4 ds.length cap4) ds w' h;generalize ordL cs.length ds=ol at *;go_enter Try.func35,Try.ntmps35;go_wp2_with (go_at_call 65; refine (OR.out _ (HD.out.below HB.out)).mono ?_; rintro e w1 ⟨u,rfl,hu,hb⟩);go_ret;exact ⟨u,rfl,hu,below_then HB.out hb⟩
set_option maxRecDepth 100000 in
set_option maxHeartbeats 16000000 in
theorem rreadyD_any (v:Value) (d:DeskM) (thr:Int) (x:CaseM) (w:World) (h:DeskV w v d) (hd:d.ok):Calls Try.prog 28 #[v,.int .i64 thr,caseW x] w fun e w'=>e=.returned (.bool (readyD d thr x))∧Below w.heap.size w w':=by
 have TP:=Lib.hid fun w' (hb:Below w.heap.size w w')=>rpartner_any v d thr x w' (h.below hb) hd;obtain ⟨vc,vw,rfl,hch,hwt⟩:=h;obtain ⟨ac,kc,rfl,-⟩:=hch.len;obtain ⟨aw,kw,rfl,-⟩:=hwt.len;have TR:=Lib.hid fun w' (hb:Below w.heap.size w w')=>mready_any (.slice ac d.chans.length kc) d.chans x w' (hch.below hb);obtain ⟨q,hq⟩:∃z,readyD d thr x=z:=⟨_,rfl⟩;rw [hq];unfold readyD at hq;obtain ⟨q1,hq1⟩:∃z,readyB d.chans x=z:=⟨_,rfl⟩;obtain ⟨q2,hq2⟩:∃z,partI d thr x=z:=⟨_,rfl⟩;rw [hq1,hq2] at hq;rw [hq1] at TR;rw [hq2] at TP;obtain ⟨sd,ch,vl⟩:=x;unfold caseW at TR TP ⊢;dsimp only at TR TP ⊢;obtain ⟨cn,hcn⟩:∃z,d.chans.length=z:=⟨_,rfl⟩;obtain ⟨wn,hwn⟩:∃z,d.wait.length=z:=⟨_,rfl⟩;obtain ⟨tk,htk⟩:∃z,d.tick=z:=⟨_,rfl⟩;rw [hcn] at TR;rw [hcn,hwn,htk] at TP ⊢;have HQ:=Lib.hid hq;clear hch hwt hd hq hq1 hq2 hcn hwn htk;obtain ⟨W,hW,HB,R0,R1,hz⟩:=two_new w (.cells #[.slice ac cn kc,.slice aw wn kw,.int .i64 tk] 34) (.cells #[.bool sd,.int .i64 ch,.int .u64 vl] 58);have HW:=Lib.hid hW;clear hW;go_enter Try.func28,Try.ntmps28;go_upto_region 1 with fail
 rw [HW.out];clear HW;obtain ⟨x0_0,x0_1,x0_2⟩:=rowc3 R0.out;obtain ⟨x1_0,x1_1,x1_2⟩:=rowc3 R1.out;go_wp2_with fail;refine (TR.out _ HB.out).mono ?_; rintro e w1 ⟨rfl,hb1⟩;have HB1:=Lib.hid (below_then HB.out hb1);have R01:=keepR hb1 R0;have R11:=keepR hb1 R1;clear x0_0 x0_1 x0_2 x1_0 x1_1 x1_2 hb1 TR;obtain ⟨x0,x1,x2⟩:=rowc3 R01.out;obtain ⟨y0,y1,y2⟩:=rowc3 R11.out;cases q1 with
 | true=>
  have HF:Hid (q=true):=by show _=_; rw [← HQ.out]; rfl
  go_wp2_with fail;go_ret;exact ⟨by rw [HF.out]; rfl,HB1.out⟩
 | false=>
  obtain ⟨b2,hb2⟩:∃z,decide (q2 ≥ 0)=z:=⟨_,rfl⟩;have HF:Hid (q=b2):=by show _=_; rw [← HQ.out,← hb2]; rfl
  go_wp2_with fail;refine (TP.out _ HB1.out).mono ?_; rintro e w2 ⟨rfl,hb2b⟩;have HB2:=Lib.hid (below_then HB1.out hb2b);clear x0 x1 x2 y0 y1 y2 hb2b TP;cases b2 with
  | true=>
   go_wp2_with fail;go_ret;exact ⟨by rw [HF.out]; rfl,HB2.out⟩
  | false=>
   go_wp2_with fail;go_ret;exact ⟨by rw [HF.out]; rfl,HB2.out⟩
set_option maxRecDepth 100000 in
set_option maxHeartbeats 16000000 in
theorem rchoice_any (v vo:Value) (d:DeskM) (thr:Int) (op:OpM) (w:World) (h:DeskV w v d) (hd:d.ok) (ho:OpV w vo op):Calls Try.prog 30 #[v,.int .i64 thr,vo] w fun e w'=>e=.returned (.int .i64 (choiceD d thr op))∧Below w.heap.size w w':=by
 have TO:=Lib.hid fun w' (hb:Below w.heap.size w w')=>refOrder_any vo op w' (ho.below hb);have TR:=Lib.hid fun x w' (hb:Below w.heap.size w w')=>rreadyD_any v d thr x w' (h.below hb) hd;obtain ⟨vc,vw,rfl,hch,hwt⟩:=h;obtain ⟨ac,kc,rfl,-⟩:=hch.len;obtain ⟨aw,kw,rfl,-⟩:=hwt.len;obtain ⟨ol,hol⟩:∃z,ordL op.cases.length op.draws=z:=⟨_,rfl⟩;obtain ⟨q,hq⟩:∃z,choiceD d thr op=z:=⟨_,rfl⟩;rw [hq];have HQ1:Hid (∀k,k<ol.length→readyD d thr (op.cases.getD (ol.getD k 0).toNat noCase)=true→(∀j,j<k→readyD d thr (op.cases.getD (ol.getD j 0).toNat noCase)=false)→q=ol.getD k 0):=fun k hk h1 h2=>by rw [← hq]; unfold choiceD; rw [hol]; exact choiceL_hit hk h1 h2
 have HQ2:Hid ((∀j,j<ol.length→readyD d thr (op.cases.getD (ol.getD j 0).toNat noCase)=false)→q=-1):=fun h=>by rw [← hq]; unfold choiceD; rw [hol]; exact choiceL_none h
 have HOM:Hid (∀k,k<ol.length→0≤ol.getD k 0∧ol.getD k 0<(op.cases.length:Int)):=fun k hk=>ordL_mem _ op.draws _ (by rw [hol,getD_lt hk]; exact List.getElem_mem hk);have hoL:ol.length≤20:=by rw [← hol]; exact ordL_length _ _
 rw [hol] at TO;obtain ⟨vc,vd,rfl,hc,hdr⟩:=ho;obtain ⟨kd,md,oc,vl,dl,cs,ds⟩:=op;dsimp only at *;have HCS:=Lib.hid hc;obtain ⟨a3,cap3,rfl⟩:=hc.len;obtain ⟨a4,cap4,rfl,-⟩:=hdr.len;obtain ⟨cn,hcn⟩:∃z,d.chans.length=z:=⟨_,rfl⟩;obtain ⟨wn,hwn⟩:∃z,d.wait.length=z:=⟨_,rfl⟩;obtain ⟨tk,htk⟩:∃z,d.tick=z:=⟨_,rfl⟩;rw [hcn,hwn,htk] at TR ⊢;clear hch hwt hd hq hcn hwn htk hc hdr hol;obtain ⟨W,hW,HB,R0,R1,hz⟩:=two_new w (.cells #[.slice ac cn kc,.slice aw wn kw,.int .i64 tk] 34) (.cells #[.int .i64 kd,.int .i64 md,.int .i64 oc,.int .u64 vl,.int .i64 dl,.slice a3 cs.length cap3,.slice a4 ds.length cap4] 44);have HW:=Lib.hid hW;clear hW;go_enter Try.func30,Try.ntmps30;go_upto_region 1 with fail
 rw [HW.out];clear HW;obtain ⟨x0_0,x0_1,x0_2⟩:=rowc3 R0.out;obtain ⟨x1_0,x1_1,x1_2,x1_3,x1_4,x1_5,x1_6⟩:=rowc7 R1.out;go_wp2_with fail;refine (TO.out _ HB.out).mono ?_; rintro e w1 ⟨u,rfl,hsu,hb1⟩;have HSU:=Lib.hid hsu;have HB1:=Lib.hid (below_then HB.out hb1);have R01:=keepR hb1 R0;have R11:=keepR hb1 R1;obtain ⟨au,ku,rfl,-⟩:=hsu.len;clear x0_0 x0_1 x0_2 x1_0 x1_1 x1_2 x1_3 x1_4 x1_5 x1_6 hb1 TO hsu R0 R1 HB hz;go_wp2_with fail;go_loopw [8] (fun u8 wr=>∃k:Nat,u8=.int .i64 k∧k≤ol.length∧Hid (Below w1.heap.size w1 wr)∧Hid (∀j,j<k→readyD d thr (cs.getD (ol.getD j 0).toNat noCase)=false)) (fun u8 _=>ol.length - (intOf u8).toNat)
 case atStart=>exact ⟨0,rfl,by omega,Below.refl _ _,fun j hj=>by omega⟩
 case round=>
  obtain ⟨k,rfl,hk,HBk,HP⟩:=hrel;obtain ⟨wo,rfl⟩:∃wo:World,wo=wr:=⟨_,rfl⟩;have R02:=keepR HBk.out R01;have R12:=keepR HBk.out R11;have HBo:=Lib.hid (below_then HB1.out HBk.out);obtain ⟨x0,x1,x2⟩:=rowc3 R02.out;obtain ⟨y0,y1,y2,y3,y4,y5,y6⟩:=rowc7 R12.out;by_cases hlt:k<ol.length
  ·have hltI:(k:Int)<(ol.length:Int):=by omega
   obtain ⟨-,-,a5,cp5,hve,-,hoc⟩:=HSU.out.below HBk.out;simp only [Value.slice.injEq,true_and] at hve;obtain ⟨rfl,rfl⟩:=hve;obtain ⟨b,off,rfl,hb,c0⟩:=hoc k hlt;obtain ⟨z,hz⟩:∃z,ol.getD k 0=z:=⟨_,rfl⟩;have hzr:=HOM.out k hlt;have HQ:=Lib.hid (HQ1.out k hlt);rw [hz] at c0 hzr HQ;have HZ:=Lib.hid hz;obtain ⟨i,rfl⟩:∃i:Nat,z=i:=⟨z.toNat,by omega⟩;have hil:i<cs.length:=by omega
   rw [Int.toNat_natCast] at HQ;obtain ⟨-,-,a6,cp6,hve,-,hcc⟩:=HCS.out.below HBo.out;simp only [Value.slice.injEq,true_and] at hve;obtain ⟨rfl,rfl⟩:=hve;obtain ⟨b2,off2,rfl,hb2,hca⟩:=hcc i hil;obtain ⟨⟨s1,s2,s3⟩,hx⟩:∃x,cs.getD i noCase=x:=⟨_,rfl⟩;rw [hx] at hca HQ;obtain ⟨d0,d1,d2⟩:=hca;dsimp only at d0 d1 d2;have HX:=Lib.hid hx;have hiI:(i:Int)<(cs.length:Int):=by omega
   obtain ⟨r,hr⟩:∃z,readyD d thr ⟨s1,s2,s3⟩=z:=⟨_,rfl⟩;have TT:=Lib.hid fun w' (hb:Below w.heap.size w w')=>TR.out ⟨s1,s2,s3⟩ w' hb;unfold caseW at TT;dsimp only at TT;rw [hr] at TT HQ;have HR:=Lib.hid hr;have hW0:w.heap.size<wo.heap.size:=(ltR R02);have hW1:w.heap.size+1<wo.heap.size:=(ltR R12);clear hz hx hr hoc hcc;go_upto_region 5 with fail
   have Xx0:=ext_cell _ _ (hW0) _ x0;have Xx1:=ext_cell _ _ (hW0) _ x1;have Xx2:=ext_cell _ _ (hW0) _ x2;have Xy5:=ext_cell _ _ (hW1) _ y5;have Xc0:=ext_cell _ _ (hb) _ c0;have Xd0:=ext_cell _ _ (hb2) _ d0;have Xd1:=ext_cell _ _ (hb2) _ d1;have Xd2:=ext_cell _ _ (hb2) _ d2;clear x0 x1 x2 y5 c0 d0 d1 d2;refine wp_region_ext wo (by kernel_rfl) (by kernel_rfl) (Below.refl _ _) ?_
   repeat (go_big_quiet_step (first | (go_at_call 28; with_reducible exact calls_ext (TT.out _ (below_then HBo.out (Ext.below _))))))
   refine wpQuiet_nil ?_;intro _ hw';obtain ⟨n9,rfl⟩:=hw';have HB9:=Lib.hid (below_then HBk.out n9.below);have c0:=Xc0 n9;generalize n9.wd=w9 at *;clear Xx0 Xx1 Xx2 Xy5 Xc0 Xd0 Xd1 Xd2;cases r with
   | false=>
    go_wp2_with fail;go_roundw
    case rel=>exact ⟨k+1,by go_num,by omega,HB9,fun j hj=>by
     rcases Nat.lt_or_ge j k with h | h
     ·exact HP.out j h
     ·rw [show j=k by omega,HZ.out,Int.toNat_natCast,HX.out]; exact HR.out⟩
    case measure=>simp [intOf]; omega
   | true=>
    have HF:=Lib.hid (HQ.out rfl HP.out);clear HQ1 HQ2 HQ;go_wp2_with fail;go_ret;exact ⟨by rw [HF.out]; rfl,below_then HB1.out HB9.out⟩
  ·have hge:¬(k:Int)<(ol.length:Int):=by omega
   have HF:=Lib.hid (HQ2.out (fun j hj=>HP.out j (by omega)));clear HQ1 HQ2;go_wp2_with fail;go_ret;exact ⟨by rw [HF.out]; rfl,HBo.out⟩
set_option maxRecDepth 100000 in
set_option maxHeartbeats 16000000 in
theorem rnamed_any (v:Value) (op:OpM) (i:Int) (w:World) (h:OpV w v op):Calls Try.prog 82 #[v,.int .i64 i] w fun e w'=>e=.returned (.int .i64 (namedI op i))∧Below w.heap.size w w':=by
 obtain ⟨vc,vd,rfl,hc,hd⟩:=h;obtain ⟨q,hq⟩:∃z,namedI op i=z:=⟨_,rfl⟩;rw [hq];unfold namedI at hq;obtain ⟨kd,md,oc,vl,dl,cs,ds⟩:=op;dsimp only at *;obtain ⟨a3,cap3,rfl⟩:=hc.len;obtain ⟨a4,cap4,rfl,-⟩:=hd.len;have HQ:=Lib.hid hq;clear hc hd hq;obtain ⟨W,hW,HB,R0,hz⟩:=one_new w (.cells #[.int .i64 kd,.int .i64 md,.int .i64 oc,.int .u64 vl,.int .i64 dl,.slice a3 cs.length cap3,.slice a4 ds.length cap4] 44);have HW:=Lib.hid hW;clear hW;go_enter Try.func82,Try.ntmps82;go_upto_region 1 with fail
 rw [HW.out];clear HW;obtain ⟨x0_0,x0_1,x0_2,x0_3,x0_4,x0_5,x0_6⟩:=rowc7 R0.out;by_cases h4:kd=4
 ·have HF:Hid (q=i):=by show _=_; rw [← HQ.out,if_pos h4]
  have h4b:(kd == 4)=true:=by simpa using h4
  clear h4;go_wp2_with fail;go_ret;exact ⟨by rw [HF.out]; rfl,HB.out⟩
 ·have HF:Hid (q=-1):=by show _=_; rw [← HQ.out,if_neg h4]
  have h4b:(kd == 4)=false:=by simpa using h4
  clear h4;go_wp2_with fail;go_ret;exact ⟨by rw [HF.out]; rfl,HB.out⟩
section
variable {e:TypeId} {s base:Nat} {w:World} {v v0:Value} {rows rows0:List (List Value)}
theorem run_app_ss (w:World) (st ty:TypeId) {bytes:Nat} {z:Value} (hu:Try.prog.underlying st=some (.slice e)) (hinfo:(Try.prog.info? e).map (fun i=>(i.zero,i.size,i.bytes))=some (some z,s,bytes)) (hzs:z.cells.size=s) (hsz:0<s) (hby:bytes≤200)
  (hown:OwnS w base e s v0 rows0) (hS:SlS w s v rows) (hl:rows0.length+rows.length≤1000000) (hb:base≤w.heap.size) :
  ∃v' w',(Builtin.append_ #[st,st] ty #[v0,v]).run Try.prog w=.ok v' w'∧OwnS w' base e s v' (rows0 ++ rows)∧w.grownBy w' v0.ownBlock∧(v'.ownBlock=v0.ownBlock∨v'.ownBlock=some w.heap.size):=by
 obtain ⟨i0,hi,hz0,hz1,hz2⟩:=info_parts hinfo;have hr1:=hS.2.1;by_cases hne:rows=[]
 ·subst hne
  obtain ⟨B,c',rfl,-⟩:=hS.len;have e:∃A c,v0=.slice A rows0.length c∧rows0.length≤c:=by
   rcases hown.shape with ⟨rfl,rfl⟩ | ⟨g,cap,rfl,-,-,h⟩
   ·exact ⟨_,_,rfl,Nat.le_refl _⟩
   ·exact ⟨_,_,rfl,h⟩
  obtain ⟨A,c,rfl,hc⟩:=e;exact ⟨_,w,run_append_zero hu hi A B rows0.length c c' hc,by rw [List.append_nil]; exact hown,grownBy_refl _ _,.inl rfl⟩
 obtain ⟨b,off,cap,rfl,hbl,hr⟩:=hS.open (List.length_pos_iff.2 hne);obtain ⟨v',w',hrun,h2,h3,-,h4⟩:=run_append_own_at (P:=Try.prog) w base st ty e i0 z s bytes hu hi hz0 hz1 hz2 hzs hsz v0 rows0.length _ hown.2 ⟨b,off,none⟩ rows.length cap rows.flatten (flatS_length rows hr1) (fun j u hj=>by
   have hlt:=(List.getElem?_eq_some_iff.1 hj).1;rw [flatS_length rows hr1] at hlt;have hq:j / s<rows.length:=Nat.div_lt_of_lt_mul (by rw [Nat.mul_comm]; exact hlt);have hm:j % s<s:=Nat.mod_lt _ hsz;have hj2:j=j / s * s+j % s:=by rw [Nat.mul_comm]; exact (Nat.div_add_mod j s).symm
   have e2:((⟨b,off,none⟩:Addr).add j)=⟨b,off+(j / s) * s+j % s,none⟩:=by rw [Addr.add_mid,Nat.add_assoc,← hj2]
   rw [e2];refine hr (j / s) hq (j % s) u ?_;rw [List.getD_eq_getElem?_getD,List.getElem?_eq_getElem hq];have h9:=flatS_get rows hr1 (j / s) (j % s) hq hm;rw [← hj2] at h9;show rows[j / s][j % s]?=some u;rw [← h9];exact hj) (fun u hu=>by
   obtain ⟨r,hr,hur⟩:=List.mem_flatten.1 hu;exact (hr1 r hr).2 u hur) (by unfold maxLen; omega) (by have:(rows0.length+rows.length) * bytes≤1000000 * 200:=Nat.mul_le_mul (by omega) hby; omega) hb
 refine ⟨v',w',hrun,⟨fun r hr2=>?_,?_⟩,h3,h4⟩
 ·rcases List.mem_append.1 hr2 with h | h
  ·exact hown.1 r h
  ·exact hr1 r h
 ·rw [List.length_append,List.flatten_append]
  exact h2
theorem step_app_ss (st:TypeId) {bytes:Nat} {z:Value} (hu:Try.prog.underlying st=some (.slice e)) (hinfo:(Try.prog.info? e).map (fun i=>(i.zero,i.size,i.bytes))=some (some z,s,bytes)) (hzs:z.cells.size=s) (hsz:0<s) (hby:bytes≤200)
  {ops:Array Oper} {o:Oper} {a:Act} {K:Act→World→Prop} {Q:Exit→Act→World→Prop} {E:Prop}
  (hgd:o.guard=none) (sl x:Operand) (hop:o.op=Op.call { callee:=Callee.builtin Builtin.append,args:=#[sl,x],argTypes:=#[st,st] })
  (hs:a.eval sl=v0) (hx:a.eval x=v) (hown:OwnS w base e s v0 rows0) (hS:SlS w s v rows) (hl:rows0.length+rows.length≤1000000) (hb:base≤w.heap.size)
  (hK:∀v' w',OwnS w' base e s v' (rows0 ++ rows)→w.grownBy w' v0.ownBlock→(v'.ownBlock=v0.ownBlock∨v'.ownBlock=some w.heap.size)→K (a.put o.dst v') w') :
  if Region.wanted o (yielded ops a.tmps)=true then Oper.wp Try.prog o a w K Q else E:=by
 rw [if_pos (by simp [Region.wanted,hgd])];obtain ⟨v',w',hrun,h2,h3,h4⟩:=run_app_ss w st o.type hu hinfo hzs hsz hby hown hS hl hb;exact Lib.wp_append_run w sl x _ _ hop _ _ hs hx v' w' hrun (hK v' w' h2 h3 h4)
theorem wp_app_ss (st:TypeId) {bytes:Nat} {z:Value} (hu:Try.prog.underlying st=some (.slice e)) (hinfo:(Try.prog.info? e).map (fun i=>(i.zero,i.size,i.bytes))=some (some z,s,bytes)) (hzs:z.cells.size=s) (hsz:0<s) (hby:bytes≤200)
  {ops:Array Oper} {rest:List Oper} {o:Oper} {a:Act} {Q:Exit→Act→World→Prop}
  (hgd:o.guard=none) (sl x:Operand) (hop:o.op=Op.call { callee:=Callee.builtin Builtin.append,args:=#[sl,x],argTypes:=#[st,st] })
  (hs:a.eval sl=v0) (hx:a.eval x=v) (hown:OwnS w base e s v0 rows0) (hS:SlS w s v rows) (hl:rows0.length+rows.length≤1000000) (hb:base≤w.heap.size)
  (hK:∀v' w',OwnS w' base e s v' (rows0 ++ rows)→w.grownBy w' v0.ownBlock→(v'.ownBlock=v0.ownBlock∨v'.ownBlock=some w.heap.size)→wpList Try.prog ops Q rest (a.put o.dst v') w') :
  wpList Try.prog ops Q (o :: rest) a w:=by
 obtain ⟨v',w',hrun,h2,h3,h4⟩:=run_app_ss w st o.type hu hinfo hzs hsz hby hown hS hl hb;exact Lib.wpList_append_run w hgd sl x _ _ hop _ _ hs hx v' w' hrun (hK v' w' h2 h3 h4)
theorem SlS.take {a:Option Addr} {n c:Nat} (h:SlS w s (.slice a n c) rows) (i:Nat) (hi:i≤rows.length):SlS w s (.slice a i c) (rows.take i):=by
 obtain ⟨h1,h2,a',cap,e,h3,h4⟩:=h;simp only [Value.slice.injEq] at e;obtain ⟨rfl,-,rfl⟩:=e;have hl:(rows.take i).length=i:=by simp; omega
 refine ⟨by rw [hl]; omega,fun r hr=>h2 r (List.mem_of_mem_take hr),a,c,by rw [hl],by rw [hl]; omega,fun j hj=>?_⟩;rw [hl] at hj;obtain ⟨b,off,rfl,hb,hr⟩:=h4 j (by omega);refine ⟨b,off,rfl,hb,?_⟩;rw [List.getD_eq_getElem?_getD,List.getElem?_take,if_pos hj,← List.getD_eq_getElem?_getD];exact hr
theorem SlS.drop {b off n c:Nat} (h:SlS w s (.slice (some ⟨b,off,none⟩) n c) rows) (i:Nat) (hi:i≤rows.length) {p:Option Addr} (hp:p=if c=i then some ⟨b,off,none⟩ else some ⟨b,off+i * s,none⟩):SlS w s (.slice p (n - i) (c - i)) (rows.drop i):=by
 obtain ⟨h1,h2,a',cap,e,h3,h4⟩:=h;simp only [Value.slice.injEq] at e;obtain ⟨rfl,rfl,rfl⟩:=e;have hl:(rows.drop i).length=rows.length - i:=by simp
 refine ⟨by rw [hl]; omega,fun r hr=>h2 r (List.mem_of_mem_drop hr),p,c - i,by rw [hl],by rw [hl]; omega,fun j hj=>?_⟩;rw [hl] at hj;rw [if_neg (by omega)] at hp;obtain ⟨b2,off2,e2,hb,hr⟩:=h4 (i+j) (by omega);simp only [Option.some.injEq,Addr.mk.injEq] at e2;obtain ⟨rfl,rfl,-⟩:=e2;refine ⟨b,off+i * s,hp,hb,?_⟩;rw [List.getD_eq_getElem?_getD,List.getElem?_drop,← List.getD_eq_getElem?_getD];rw [show off+i * s+j * s=off+(i+j) * s by rw [Nat.add_mul]; omega];exact hr
end
def passB (v:Int) (s r:ResM):Bool:=(s.kind == 1 && (s.val == 0 && (!s.ok && s.num == 0))) && (r.kind == 2 && (r.val == v && (r.ok && r.num == 0)))
theorem four_new (w:World) (a b c d:Obj):∃W,(((w.alloc a).alloc b).alloc c).alloc d=W∧Hid (Below w.heap.size w W)∧Hid (W.heap[w.heap.size]?=some a)∧Hid (W.heap[w.heap.size+1]?=some b)∧Hid (W.heap[w.heap.size+2]?=some c)∧Hid (W.heap[w.heap.size+3]?=some d)∧w.heap.size+4=W.heap.size:=by
 refine ⟨_,rfl,below_new (below_new (below_new (below_new (Below.refl w.heap.size w) _) _) _) _,Lib.hid ?_,Lib.hid ?_,Lib.hid ?_,Lib.hid ?_,by simp⟩
 ·rw [heap_alloc_old _ _ (by simp <;> omega),heap_alloc_old _ _ (by simp <;> omega),heap_alloc_old _ _ (by simp <;> omega),heap_alloc_new]
 ·rw [heap_alloc_old _ _ (by simp <;> omega),heap_alloc_old _ _ (by simp <;> omega)]
  simpa using heap_alloc_new (w.alloc a) b
 ·rw [heap_alloc_old _ _ (by simp <;> omega)]
  simpa using heap_alloc_new ((w.alloc a).alloc b) c
 ·simpa using heap_alloc_new (((w.alloc a).alloc b).alloc c) d
def pairC (o1 o2:Option CaseM) (l:List ChanM) (x y:ResM):Bool:=match o1,o2 with | some p,some q=>rdvB l p q && (if p.send then passB p.val x y else passB q.val y x) | _,_=>false
def pairP (l:List ChanM) (a:OpM) (x:ResM) (b:OpM) (y:ResM):Bool:=pairC (chosenE a x) (chosenE b y) l x y
end Go.Proofs.Ytiekicailidhcaa
