import Derived.WalkKit
import Derived.WalkLawsBesides
import Derived.WalkSpells
import Derived.ProofKit
import Derived.Lib.Hide
import Derived.LoopTactic
import Derived.Test.YtiekicailidhcaaRows
import Derived.Laws.AppendOwnNone
import Derived.Lib.AppendZeros
import Derived.Deep.QuietTactic
import Derived.BigQuiet
import Derived.Deep.DeepCutAuto
import Derived.OrdersHeld
import Derived.RegionTactic
import Derived.Laws.Tables
import Derived.Laws.MakeOwn
import Derived.Laws.AppendOwn
import Derived.Laws.OwnMore
import Derived.Maps.AppendAt
import Derived.Deep.MidRow
import Derived.RowKit
import Derived.Shelf.RegionOpenPlain
import Derived.Lib.SliceRun
import Derived.Deep.LoopGhost
import Derived.Deep.CutBlock
import Derived.Laws.BitsAllLaws
import Derived.BigRegion
import Derived.Deep.RegionHeld3
import Derived.Deep.RegionLaw
import Derived.Lib.Overlaps
import Derived.Lib.AppendZerosOnto
import Derived.Shelf.Spec.SlicesInsert
import Derived.Test.YtiekicailidhcaaB01
import Derived.Test.YtiekicailidhcaaB02
import Derived.Test.YtiekicailidhcaaB03
import Derived.Test.YtiekicailidhcaaB04
import Derived.Test.YtiekicailidhcaaB05
import Derived.Test.YtiekicailidhcaaB06
import Derived.Test.YtiekicailidhcaaB07
import Derived.Test.YtiekicailidhcaaB08
import Derived.Test.YtiekicailidhcaaB09
import Derived.Test.YtiekicailidhcaaB10
import Derived.Test.YtiekicailidhcaaB11
import Derived.Test.YtiekicailidhcaaB12
import Derived.Test.YtiekicailidhcaaB13
import Derived.Test.YtiekicailidhcaaB14
import Derived.Test.YtiekicailidhcaaB15
set_option linter.unusedVariables false
set_option linter.unusedSimpArgs false
namespace Go.Proofs.Ytiekicailidhcaa
open Go.ChangeShapes Go.WideShapes Go.ChangeAt Go.RowKit
set_option maxRecDepth 100000
theorem wp_append_i64 (w:World) {ops:Array Oper} {rest:List Oper} {o:Oper} {a:Act} {Q:Exit→Act→World→Prop}
  (hg:o.guard=none) (s x:Operand) (hop:o.op=Op.call { callee:=Callee.builtin Builtin.append,args:=#[s,x],argTypes:=#[26,26] })
  (base:Nat) (v:Value) (l:List Int) (hs:a.eval s=v) (hown:OwnI w base 3 .i64 v l) (y:Int) (g:Nat)
  (hx:a.eval x=.slice (some ⟨g,0,none⟩) 1 1) (hcell:w.cell? ⟨g,0,none⟩=some (.int .i64 y)) (hl:l.length≤1000000) (hb:base≤w.heap.size)
  (hK:∀v' w',OwnI w' base 3 .i64 v' (l ++ [y])→w.grownBy w' v.ownBlock→wpList Try.prog ops Q rest (a.put o.dst v') w') :
  wpList Try.prog ops Q (o :: rest) a w:=by
 obtain ⟨i0,hi,hz0,hz1,hz2⟩:=info_parts Try.info_i64;refine wpList_append_own w hg s x _ hop base _ i0 (.int .i64 0) 1 _ (by kernel_rfl) hi hz0 hz1 rfl rfl (by decide) v l.length _ hs hown ⟨g,0,none⟩ 1 1 [.int .i64 y] hx rfl ?_ ?_ (by unfold maxLen; omega) (by rw [hz2]; omega) hb fun v' w' h1 h2 h3=>hK v' w' ?_ h2
 ·intro j u hj
  match j,hj with
  | 0,hj=>simp at hj; subst hj; simpa [Addr.add] using hcell
 ·intro u hu; simp at hu; subst hu; rfl
 ·unfold OwnI
  rw [List.length_append,List.map_append];exact h1
theorem run_app_i64 (w:World) (ty:TypeId) (base:Nat) (v:Value) (l:List Int) (hown:OwnI w base 3 .i64 v l) (xv:Value) (l2:List Int) (hS:SlI w .i64 xv l2)
  (hl:l.length≤1000000) (hl2:l2.length≤1000000) (hb:base≤w.heap.size) :
  ∃v' w',(Builtin.append_ #[26,26] ty #[v,xv]).run Try.prog w=.ok v' w'∧OwnI w' base 3 .i64 v' (l ++ l2)∧w.grownBy w' v.ownBlock:=by
 obtain ⟨i0,hi,hz0,hz1,hz2⟩:=info_parts Try.info_i64;by_cases hne:l2=[]
 ·subst hne
  obtain ⟨B,c',rfl,-⟩:=hS.len;have e:∃A c,v=.slice A l.length c∧l.length≤c:=by
   rcases hown.shape with ⟨rfl,rfl⟩ | ⟨g,cap,rfl,_,_,h,_⟩
   ·exact ⟨_,_,rfl,Nat.le_refl _⟩
   ·exact ⟨_,_,rfl,h⟩
  obtain ⟨A,c,rfl,hc⟩:=e;refine ⟨_,w,run_append_zero (by kernel_rfl) hi A B l.length c c' hc,by simpa using hown,grownBy_refl _ _⟩
 ·obtain ⟨b,off,cap,rfl,hcap,hbk,hc⟩:=hS.open hne
  obtain ⟨v',w',hr,h2,h3,-⟩:=run_append_own (P:=Try.prog) w base 26 ty 3 i0 (.int .i64 0) 1 _ (by kernel_rfl) hi hz0 hz1 rfl rfl (by decide) v l.length _ hown ⟨b,off,none⟩ l2.length cap (l2.map (Value.int .i64)) (by simp) (by
   intro j u hj;rw [add_plain];simp only [List.getElem?_map,Option.map_eq_some_iff] at hj;obtain ⟨y,hy,rfl⟩:=hj;have hjl:j<l2.length:=(List.getElem?_eq_some_iff.1 hy).1;rw [hc j hjl,List.getD_eq_getElem?_getD,hy]; rfl) (by intro u hu; simp only [List.mem_map] at hu; obtain ⟨y,_,rfl⟩:=hu; rfl) (by unfold maxLen; omega) (by rw [hz2]; omega) hb
  refine ⟨v',w',hr,?_,h3⟩;unfold OwnI;rw [List.length_append,List.map_append];exact h2
theorem wp_app_i64 (w:World) {ops:Array Oper} {rest:List Oper} {o:Oper} {a:Act} {Q:Exit→Act→World→Prop}
  (hg:o.guard=none) (s x:Operand) (hop:o.op=Op.call { callee:=Callee.builtin Builtin.append,args:=#[s,x],argTypes:=#[26,26] })
  (base:Nat) (v:Value) (l:List Int) (hs:a.eval s=v) (hown:OwnI w base 3 .i64 v l) (xv:Value) (l2:List Int) (hx:a.eval x=xv) (hS:SlI w .i64 xv l2)
  (hl:l.length≤1000000) (hl2:l2.length≤1000000) (hb:base≤w.heap.size)
  (hK:∀v' w',OwnI w' base 3 .i64 v' (l ++ l2)→w.grownBy w' v.ownBlock→wpList Try.prog ops Q rest (a.put o.dst v') w') :
  wpList Try.prog ops Q (o :: rest) a w:=by
 obtain ⟨v',w',hr,h1,h2⟩:=run_app_i64 w o.type base v l hown xv l2 hS hl hl2 hb;exact Lib.wpList_append_run w hg s x _ _ hop _ _ hs hx v' w' hr (hK v' w' h1 h2)
theorem Try.info_li:(Try.prog.info? 26).map (fun i=>(i.zero,i.size,i.bytes))=some (some (.slice none 0 0),1,24):=by kernel_rfl
instance (W:World):Nonempty (Ext W):=⟨⟨W,Below.refl _ _⟩⟩
def dLs:Nat→List (List Int)
 | 0=>[[]]
 | n+1=>(dLs n).flatMap fun l=>(List.range (n+1)).map fun (d:Nat)=>l ++ [(d:Int)]
def pickL (f:Int→Bool) (ol:List Int):Int:=match ol.find? f with | some i=>i | none=>-1
theorem pickL_congr {f g:Int→Bool} {ol:List Int} (h:∀x∈ol,f x=g x):pickL f ol=pickL g ol:=by
 have e:∀l:List Int,(∀x∈l,f x=g x)→l.find? f=l.find? g:=fun l=>by
  induction l with
  | nil=>intro _; rfl
  | cons y l ih=>
   intro h;rw [List.find?_cons,List.find?_cons,h y (List.mem_cons_self ..),ih fun x hx=>h x (List.mem_cons_of_mem _ hx)]
 unfold pickL;rw [e ol h]
def winsL (f:Int→Bool) (n:Nat) (i:Int):Nat:=((dLs n).filter fun o=>pickL f (ordL n o) == i).length
def rdyL (f:Int→Bool) (n:Nat):Nat:=((List.range n).filter fun i=>f (i:Nat)).length
def bitsF (m:Nat) (i:Int):Bool:=m.testBit i.toNat
def fairB (n m:Nat):Bool:=
 ((dLs n).all fun o=>decide (-1≤pickL (bitsF m) (ordL n o)) && decide (pickL (bitsF m) (ordL n o)<n) && ((decide (0≤pickL (bitsF m) (ordL n o))) == decide (0<rdyL (bitsF m) n))) &&
 (List.range n).all fun i=>if bitsF m (i:Nat) then winsL (bitsF m) n i * rdyL (bitsF m) n == (dLs n).length else winsL (bitsF m) n i == 0
theorem fair_all:((List.range 5).all fun n=>(List.range 16).all fun m=>fairB n m)=true:=by decide +kernel
def maskOf (f:Int→Bool):Nat:=(if f 0 then 1 else 0)+(if f 1 then 2 else 0)+(if f 2 then 4 else 0)+(if f 3 then 8 else 0)
theorem mask_lt (f:Int→Bool):maskOf f<16:=by unfold maskOf; split <;> split <;> split <;> split <;> omega
theorem mask_bits (f:Int→Bool) (i:Int) (h0:0≤i) (h1:i<4):bitsF (maskOf f) i=f i:=by
 obtain rfl | rfl | rfl | rfl:i=0∨i=1∨i=2∨i=3:=by omega
 all_goals (unfold bitsF maskOf; cases f 0 <;> cases f 1 <;> cases f 2 <;> cases f 3 <;> rfl)
theorem fairF {n:Nat} (hn:n≤4) (f:Int→Bool):fairB n (maskOf f)=true:=by
 have h:=List.all_eq_true.1 fair_all n (List.mem_range.2 (by omega));exact List.all_eq_true.1 h _ (List.mem_range.2 (mask_lt f))
theorem pick_mask {n:Nat} (hn:n≤4) (f:Int→Bool) (o:List Int):pickL (bitsF (maskOf f)) (ordL n o)=pickL f (ordL n o):=pickL_congr fun x hx=>by
 have:=ordL_mem _ _ _ hx;exact mask_bits f x this.1 (by omega)
theorem rdy_mask {n:Nat} (hn:n≤4) (f:Int→Bool):rdyL (bitsF (maskOf f)) n=rdyL f n:=by
 unfold rdyL;congr 1;refine List.filter_congr fun i hi=>?_;exact mask_bits f _ (by omega) (by have:=List.mem_range.1 hi; omega)
theorem wins_mask {n:Nat} (hn:n≤4) (f:Int→Bool) (i:Int):winsL (bitsF (maskOf f)) n i=winsL f n i:=by
 unfold winsL;congr 1;refine List.filter_congr fun o _=>?_;rw [pick_mask hn]
theorem pick_fair {n:Nat} (hn:n≤4) (f:Int→Bool) {o:List Int} (ho:o∈dLs n):-1≤pickL f (ordL n o)∧pickL f (ordL n o)<n∧(0≤pickL f (ordL n o)↔0<rdyL f n):=by
 have h:=(Bool.and_eq_true_iff.1 (fairF hn f)).1;have h2:=List.all_eq_true.1 h o ho;rw [pick_mask hn,rdy_mask hn] at h2;simp only [Bool.and_eq_true,decide_eq_true_eq,beq_iff_eq,decide_eq_decide] at h2;exact ⟨h2.1.1,h2.1.2,h2.2⟩
theorem wins_fair {n:Nat} (hn:n≤4) (f:Int→Bool) {i:Nat} (hi:i<n):(f (i:Nat)=true→winsL f n i * rdyL f n=(dLs n).length)∧(f (i:Nat)=false→winsL f n i=0):=by
 have h:=(Bool.and_eq_true_iff.1 (fairF hn f)).2;have h2:=List.all_eq_true.1 h i (List.mem_range.2 hi);rw [mask_bits f _ (by omega) (by omega),wins_mask hn,rdy_mask hn] at h2;refine ⟨fun e=>?_,fun e=>?_⟩
 ·rw [e] at h2; simpa using h2
 ·rw [e] at h2; simpa using h2
theorem dLs_le:∀n,n≤4→(dLs n).length≤24:=by decide +kernel
theorem dLs_len {n:Nat}:∀o∈dLs n,o.length=n:=by
 induction n with
 | zero=>intro o h; rw [List.mem_singleton.1 h]; rfl
 | succ n ih=>
  intro o h;unfold dLs at h;obtain ⟨l,hl,h⟩:=List.mem_flatMap.1 h;obtain ⟨d,-,rfl⟩:=List.mem_map.1 h;rw [List.length_append,ih l hl];rfl
theorem apart_rows {w:World} {b1 b2 n1 n2 s1 s2:Nat} {e1 e2:TypeId} {v1 v2:Value} {l1 l2:List Value} (h1:w.ownsRow b1 e1 s1 v1 n1 l1) (h2:w.ownsRow b2 e2 s2 v2 n2 l2) (he:e1≠e2):v1.ownBlock=none∨v1.ownBlock≠v2.ownBlock:=by
 rcases h1.2 with ⟨rfl,_⟩ | ⟨g,cap,cur,rfl,_,hg,_⟩
 ·exact .inl rfl
 ·rcases h2.2 with ⟨rfl,_⟩ | ⟨g',cap',cur',rfl,_,hg',_⟩
  ·exact .inr (by simp [Value.ownBlock])
  ·refine .inr ?_
   simp only [Value.ownBlock,ne_eq,Option.some.injEq];intro e;rw [e,hg'] at hg;simp at hg;exact he hg.2.symm
theorem wp_append_li (w:World) {ops:Array Oper} {rest:List Oper} {o:Oper} {a:Act} {Q:Exit→Act→World→Prop}
  (hg:o.guard=none) (s x:Operand) (hop:o.op=Op.call { callee:=Callee.builtin Builtin.append,args:=#[s,x],argTypes:=#[69,69] })
  (base:Nat) (v:Value) (n:Nat) (us:List Value) (hs:a.eval s=v) (hown:w.ownsRow base 26 1 v n us) (u:Value) (hu:u.oneCell'=true) (g:Nat)
  (hx:a.eval x=.slice (some ⟨g,0,none⟩) 1 1) (hcell:w.cell? ⟨g,0,none⟩=some u) (hl:n≤1000000) (hb:base≤w.heap.size)
  (hK:∀v' w',w'.ownsRow base 26 1 v' (n+1) (us ++ [u])→w.grownBy w' v.ownBlock→wpList Try.prog ops Q rest (a.put o.dst v') w') :
  wpList Try.prog ops Q (o :: rest) a w:=by
 obtain ⟨i0,hi,hz0,hz1,hz2⟩:=info_parts Try.info_li;refine wpList_append_own w hg s x _ hop base _ i0 (.slice none 0 0) 1 _ (by kernel_rfl) hi hz0 hz1 rfl rfl (by decide) v n _ hs hown ⟨g,0,none⟩ 1 1 [u] hx rfl ?_ ?_ (by unfold maxLen; omega) (by rw [hz2]; omega) hb fun v' w' h1 h2 _=>hK v' w' h1 h2
 ·intro j y hj
  match j,hj with
  | 0,hj=>simp at hj; subst hj; simpa [Addr.add] using hcell
 ·intro y hy; simp at hy; subst hy; exact hu
theorem OwnI.shape2 {w:World} {base:Nat} {e:TypeId} {k:IntKind} {v:Value} {l:List Int} (h:OwnI w base e k v l):∃A c,v=.slice A l.length c:=by
 rcases h.shape with ⟨rfl,rfl⟩ | ⟨g,cap,rfl,_⟩
 ·exact ⟨_,_,rfl⟩
 ·exact ⟨_,_,rfl⟩
theorem row_shape {w:World} {base n s:Nat} {e:TypeId} {v:Value} {l:List Value} (h:w.ownsRow base e s v n l):∃A c,v=.slice A n c:=by
 rcases h.2 with ⟨rfl,h2⟩ | ⟨g,cap,cur,rfl,_⟩
 ·rw [h2]; exact ⟨_,_,rfl⟩
 ·exact ⟨_,_,rfl⟩
def nxL (i t d:Nat):List (List Int):=((dLs i).take t).flatMap (fun l=>(List.range (i+1)).map fun (d:Nat)=>l ++ [(d:Int)]) ++ (List.range d).map fun (d:Nat)=>(dLs i).getD t [] ++ [(d:Int)]
theorem nxL_next (i t d:Nat):nxL i t (d+1)=nxL i t d ++ [(dLs i).getD t [] ++ [(d:Int)]]:=by
 unfold nxL;rw [show List.range (d+1)=List.range d ++ [d] from List.range_succ,List.map_append,← List.append_assoc];rfl
theorem nxL_row {i t:Nat} (ht:t<(dLs i).length):nxL i t (i+1)=nxL i (t+1) 0:=by
 unfold nxL;rw [List.take_succ_eq_append_getElem ht,List.flatMap_append,show (dLs i).getD t []=(dLs i)[t] from getD_lt ht];simp
theorem nxL_end (i:Nat):nxL i (dLs i).length 0=dLs (i+1):=by
 unfold nxL;rw [List.take_length];simp [dLs]
theorem nxL_len {i t d:Nat} (ht:t≤(dLs i).length):(nxL i t d).length=t * (i+1)+d:=by
 unfold nxL;rw [List.length_append,List.length_map,List.length_range,List.length_flatMap];congr 1;rw [show ((dLs i).take t).map (fun a=>((List.range (i+1)).map fun (d:Nat)=>a ++ [(d:Int)]).length)=List.replicate t (i+1) from ?_,List.sum_replicate_nat];rw [List.eq_replicate_iff];refine ⟨by rw [List.length_map,List.length_take]; omega,fun b hb=>?_⟩;obtain ⟨l,-,rfl⟩:=List.mem_map.1 hb;simp
theorem dLs_vals:∀n,n≤4→((dLs n).all fun l=>l.all fun x=>decide (0≤x) && decide (x≤10))=true:=by decide +kernel
theorem dLs_fit {n:Nat} (hn:n≤4) {l:List Int} (hl:l∈dLs n):∀x∈l,x=IntKind.i64.wrap x:=fun x hx=>by
 have h:=List.all_eq_true.1 (List.all_eq_true.1 (dLs_vals n hn) l hl) x hx;simp only [Bool.and_eq_true,decide_eq_true_eq] at h;exact i64_small x (by omega) (by omega)
theorem rdyL_succ (f:Int→Bool) (n:Nat):rdyL f (n+1)=rdyL f n+(if f (n:Nat) then 1 else 0):=by
 unfold rdyL;rw [List.range_succ,List.filter_append,List.length_append];congr 1;cases h:f (n:Nat) <;> simp [h]
theorem rdyL_le (f:Int→Bool) (n:Nat):rdyL f n≤n:=by
 unfold rdyL;have:=List.length_filter_le (fun i:Nat=>f i) (List.range n);rw [List.length_range] at this;exact this
structure OwL (w:World) (base:Nat) (v:Value) (us:List Value) (ll:List (List Int)):Prop where
 own:w.ownsRow base 26 1 v ll.length us
 each:∀t,t<ll.length→OwnI w base 3 .i64 (us.getD t (.slice none 0 0)) (ll.getD t [])
theorem OwL.nil (w:World) (base:Nat):OwL w base (.slice none 0 0) [] []:=⟨World.ownsRow_nil _ _ _ _,fun t ht=>by simp at ht⟩
theorem OwL.len {w:World} {base:Nat} {v:Value} {us:List Value} {ll:List (List Int)} (h:OwL w base v us ll):us.length=ll.length:=by have:=h.own.1; omega
theorem OwL.below {w w2:World} {base:Nat} {v:Value} {us:List Value} {ll:List (List Int)} (h:OwL w base v us ll) (hb:Below w.heap.size w w2):OwL w2 base v us ll:=
 ⟨World.ownsRow.kept h.own (row:=none) ⟨hb.os,hb.tape,hb.output,hb.size,fun j hj _=>hb.block j hj⟩ (by cases v.ownBlock <;> simp),fun t ht=>(h.each t ht).below hb⟩
theorem OwL.add {w w2:World} {base:Nat} {v v2 u:Value} {us:List Value} {ll:List (List Int)} {l:List Int} (h:OwL w base v us ll) (hu:OwnI w base 3 .i64 u l) (ho:w2.ownsRow base 26 1 v2 (ll.length+1) (us ++ [u])) (hg:w.grownBy w2 v.ownBlock):OwL w2 base v2 (us ++ [u]) (ll ++ [l]):=by
 have hus:=h.len;refine ⟨by rw [List.length_append,List.length_singleton]; exact ho,fun t ht=>?_⟩;rw [List.length_append,List.length_singleton] at ht;by_cases e:t<ll.length
 ·have e1:=(h.each t e).kept hg (apart_rows (h.each t e) h.own (by decide))
  simpa [List.getD_eq_getElem?_getD,List.getElem?_append_left,e,show t<us.length by omega] using e1
 ·obtain rfl:t=ll.length:=by omega
  have e1:=hu.kept hg (apart_rows hu h.own (by decide));simpa [List.getD_eq_getElem?_getD,hus.symm] using e1
theorem OwL.read {w:World} {base:Nat} {v:Value} {us:List Value} {ll:List (List Int)} (h:OwL w base v us ll) (hl:ll.length≤1000000) (hf:∀l∈ll,l.length≤1000000∧∀x∈l,x=IntKind.i64.wrap x):SlL w v us ll:=by
 have hus:=h.len;obtain ⟨A,c,rfl⟩:=row_shape h.own;refine ⟨by omega,hus,A,c,rfl,?_,fun t ht=>?_⟩
 ·rcases h.own.2 with ⟨e,h2⟩ | ⟨g,cap,cur,e,h3,h4,h5,h6,h7⟩
  ·omega
  ·simp only [Value.slice.injEq] at e
   omega
 ·rcases h.own.2 with ⟨e,h2⟩ | ⟨g,cap,cur,e,h3,h4,h5,h6,h7⟩
  ·omega
  ·simp only [Value.slice.injEq] at e
   obtain ⟨rfl,-,rfl⟩:=e;have hc:=World.ownsRow.cellAt h.own t (by omega);have hget:ll.getD t []∈ll:=by rw [getD_lt ht]; exact List.getElem_mem ht
   have hlt:=(World.ownsRow.lt h.own g rfl).2;refine ⟨g,0,rfl,hlt,?_,(h.each t ht).read (by have:=(hf _ hget).1; omega) (hf _ hget).2⟩;rw [Nat.zero_add,hc,List.getElem?_eq_getElem (by omega),List.getD_eq_getElem?_getD,List.getElem?_eq_getElem (by omega)];rfl
structure FrL (B:Nat) (w:World) (v:Value) (us:List Value) (ll:List (List Int)):Prop where
 read:SlL w v us ll
 at':atP (fun b=>B≤b) v
 each:∀t,t<ll.length→atP (fun b=>B≤b) (us.getD t (.slice none 0 0))
theorem FrL.below {B:Nat} {w w2:World} {v:Value} {us:List Value} {ll:List (List Int)} (h:FrL B w v us ll) (hb:Below w.heap.size w w2):FrL B w2 v us ll:=⟨h.read.below hb,h.at',h.each⟩
theorem FrL.mono {B C:Nat} {w:World} {v:Value} {us:List Value} {ll:List (List Int)} (h:FrL B w v us ll) (hb:C≤B):FrL C w v us ll:=⟨h.read,h.at'.mono fun b hb=>by omega,fun t ht=>(h.each t ht).mono fun b hb=>by omega⟩
theorem FrL.off {B g:Nat} {w w2:World} {v:Value} {us:List Value} {ll:List (List Int)} (h:FrL B w v us ll) (hg:w.grownBy w2 (some g)) (hB:g<B):FrL B w2 v us ll:=by
 obtain ⟨h1,h2,a,cap,rfl,h4,h5⟩:=h.read;refine ⟨⟨h1,h2,a,cap,rfl,h4,fun t ht=>?_⟩,h.at',h.each⟩;obtain ⟨b,off,rfl,hlt,hc,hu⟩:=h5 t ht;have hbB:B≤b:=by
  rcases h.at' ⟨b,off,none⟩ _ _ rfl with h6 | h6
  ·omega
  ·exact h6
 refine ⟨b,off,rfl,Nat.lt_of_lt_of_le hlt hg.size,?_,hu.grown hg ((h.each t ht).off fun b hb=>by omega)⟩;have hk:=hg.block b hlt (fun e=>by simp only [Option.some.injEq] at e; omega);simp only [World.cell?] at hc ⊢;rw [hk];exact hc
theorem OwL.fresh {w:World} {base:Nat} {v:Value} {us:List Value} {ll:List (List Int)} (h:OwL w base v us ll) (hl:ll.length≤1000000) (hf:∀l∈ll,l.length≤1000000∧∀x∈l,x=IntKind.i64.wrap x):FrL base w v us ll:=by
 refine ⟨h.read hl hf,fun a n c e=>?_,fun t ht=>(h.each t ht).isP fun b hb=>hb⟩;subst e;by_cases hz:n=0
 ·exact .inl hz
 ·rcases h.own.2 with ⟨e,h2⟩ | ⟨g,cap,cur,e,h3,-⟩
  ·simp at e
  ·simp only [Value.slice.injEq,Option.some.injEq] at e
   obtain ⟨rfl,-,-⟩:=e;exact .inr h3
theorem dLs_big {n:Nat} (hn:n≤4):(dLs n).length≤24:=dLs_le n hn
theorem first_list (w:World):FrL w.heap.size (w.alloc (.cells #[.slice none 0 0] 26)) (.slice (some ⟨w.heap.size,0,none⟩) 1 1) [.slice none 0 0] (dLs 0):=by
 refine ⟨⟨by decide,rfl,_,1,rfl,Nat.le_refl _,fun t ht=>?_⟩,fun a n c e=>?_,fun t ht a n c e=>?_⟩
 ·obtain rfl:t=0:=by have:(dLs 0).length=1:=rfl; omega
  exact ⟨w.heap.size,0,rfl,by simp,World.cell?_alloc_at _ _ _ _ rfl,SlI.nil _ _⟩
 ·simp only [Value.slice.injEq,Option.some.injEq] at e
  obtain ⟨rfl,-,-⟩:=e;exact .inr (Nat.le_refl _)
 ·obtain rfl:t=0:=by have:(dLs 0).length=1:=rfl; omega
  simp at e
set_option maxRecDepth 100000 in
set_option maxHeartbeats 16000000 in
theorem draws_any (n:Nat) (w:World) (hn:n≤4):Calls Try.prog 34 #[.int .i64 (n:Int)] w fun e w'=>∃v us,e=.returned v∧FrL w.heap.size w' v us (dLs n)∧Below w.heap.size w w':=by
 have HS0:=Lib.hid (first_list w);have HB0:Hid (Below w.heap.size w (w.alloc (.cells #[.slice none 0 0] 26))):=below_new (Below.refl _ _) _;go_enter Try.func34,Try.ntmps34;go_wp2_with fail;go_loopw [3,4] (fun u3 u4 wr=>∃(i:Nat) (us:List Value),u4=.int .i64 i∧i≤n∧Hid (FrL w.heap.size wr u3 us (dLs i))∧Hid (Below w.heap.size w wr)) (fun _ u4 _=>n - (intOf u4).toNat)
 case atStart=>exact ⟨0,_,rfl,by omega,HS0,HB0⟩
 case round=>
  clear HS0 HB0;obtain ⟨i,us,rfl,hi,HS,HB⟩:=hrel;obtain ⟨wo,rfl⟩:∃wo:World,wo=wr:=⟨_,rfl⟩;obtain ⟨a,cap,hve,-⟩:=HS.out.read.len;subst hve;by_cases hlt:i<n
  ·have hltI:(i:Int)<(n:Int):=by omega
   have hbig:=dLs_big (n:=i) (by omega);obtain ⟨N,hN⟩:∃N,(dLs i).length=N:=⟨_,rfl⟩;rw [hN] at HS hbig;rw [hN];have HN:=Lib.hid hN;clear hN;have HW0:Hid (OwL wo wo.heap.size (.slice none 0 0) [] (nxL i 0 0)):=OwL.nil _ _;go_wp2_with fail;go_loopw [5,17] (fun u5 u17 wq=>∃(t:Nat) (us2:List Value),u17=.int .i64 t∧t≤N∧Hid (OwL wq wo.heap.size u5 us2 (nxL i t 0))∧Hid (Below wo.heap.size wo wq)) (fun _ u17 _=>N - (intOf u17).toNat)
   case atStart=>exact ⟨0,_,rfl,by omega,HW0,Below.refl _ _⟩
   case round=>
    clear HW0;obtain ⟨t,us2,rfl,ht,HW,HBq⟩:=hrel;obtain ⟨wp,rfl⟩:∃wp:World,wp=wr:=⟨_,rfl⟩;by_cases htl:t<N
    ·have htI:(t:Int)<(N:Int):=by omega
     obtain ⟨-,-,a',cap',e,-,h5⟩:=HS.out.read;simp only [Value.slice.injEq] at e;obtain ⟨rfl,-,rfl⟩:=e;obtain ⟨b,off,rfl,hbl,hc,hu⟩:=h5 t (by rw [HN.out]; exact htl);have hc:=(HBq.out.cell (p:=⟨b,off+t,none⟩) hbl).trans hc;obtain ⟨u,hue⟩:∃u,us.getD t (.slice none 0 0)=u:=⟨_,rfl⟩;obtain ⟨L,hL⟩:∃L,(dLs i).getD t []=L:=⟨_,rfl⟩;rw [hue] at hc hu;rw [hL] at hu;have hLl:L.length≤4:=by
      rw [← hL,getD_lt (by rw [HN.out]; exact htl),dLs_len _ (List.getElem_mem _)];omega
     have HU:=Lib.hid hu;have HL:=Lib.hid hL;obtain ⟨au,cu,rfl,-⟩:=hu.len;clear h5 hue hL hu;go_wp2_with fail;clear hc;go_loopw [5,8] (fun u5 u8 wx=>∃(d:Nat) (us3:List Value),u8=.int .i64 d∧d≤i+1∧Hid (OwL wx wo.heap.size u5 us3 (nxL i t d))∧Hid (Below wo.heap.size wo wx)) (fun _ u8 _=>i+1 - (intOf u8).toNat)
     case atStart=>exact ⟨0,_,rfl,by omega,HW,HBq⟩
     case round=>
      clear HW;obtain ⟨d,us3,rfl,hd,HW,HBx⟩:=hrel;obtain ⟨wx0,rfl⟩:∃wx0:World,wx0=wr:=⟨_,rfl⟩;by_cases hdl:d≤i
      ·have hdI:(d:Int)≤(i:Int):=by omega
       have hnl:=nxL_len (i:=i) (t:=t) (d:=d) (by rw [HN.out]; omega);have hnb:(nxL i t d).length≤1000000:=by
        rw [hnl];have:t * (i+1)≤24 * 5:=Nat.mul_le_mul (by omega) (by omega);omega
       have HNB:=Lib.hid hnb;have hw5:=HBx.out.size;have hwq:=HBq.out.size;have HUx:=Lib.hid (HU.out.below HBx.out);obtain ⟨av,cv,hve⟩:=row_shape HW.out.own;obtain ⟨m,hm⟩:∃m,(nxL i t d).length=m:=⟨_,rfl⟩;rw [hm] at hve;subst hve;have HM:=Lib.hid hm;clear hnl hnb hm;go_wp2_with (first
        | (at_builtin; refine wp_app_i64 _ rfl _ _ rfl wx0.heap.size (.slice none 0 0) [] rfl (OwnI.nil _ _ _ _) _ L rfl HUx.out (by simp) (by omega) (Nat.le_refl _) ?_; intro v2 w2 h1 h2; rw [List.nil_append] at h1; have hs2:=h2.size; have H1:=Lib.hid h1; have HB2:=Lib.hid ((Below.refl wx0.heap.size wx0).grown h2 (Nat.le_refl _) (fun k hk=>by cases hk)); obtain ⟨a2,c2,hv2⟩:=h1.shape2; subst hv2; clear h1 h2)
        | (at_builtin; refine wp_append_i64 _ rfl _ _ rfl wx0.heap.size _ L rfl (H1.out.below (below_new (Below.refl _ _) _)) (d:Int) _ rfl (World.cell?_alloc_at _ _ _ _ rfl) (by omega) (by simp; omega) ?_; intro v3 w3 h3 h4; have hs3:=h4.size; have H3:=Lib.hid h3; have HB3:=Lib.hid ((below_new HB2.out _).grown h4 (by simp; omega) (fun k hk=>H1.out.own_ge k hk)); obtain ⟨a3,c3,hv3⟩:=h3.shape2; subst hv3; have h9:=(HW.out.below HB3.out).own; rw [HM.out] at h9; have HO3:=Lib.hid h9; clear h3 h4 h9)
        | (at_builtin; refine wp_append_li _ rfl _ _ rfl wo.heap.size (.slice av m cv) m us3 rfl (HO3.out.alloc _) _ rfl _ rfl (World.cell?_alloc_at _ _ _ _ rfl) (by have h9:=HNB.out; rw [HM.out] at h9; exact h9) (by simp at hs3 ⊢; omega) ?_; intro v4 w4 h5 h6; have H5:=Lib.hid h5; have H6:=Lib.hid h6; obtain ⟨a4,c4,hv4⟩:=row_shape h5; subst hv4; clear h5 h6))
       have HWn:Hid (OwL w4 wo.heap.size (.slice a4 (m+1) c4) (us3 ++ [.slice a3 (L.length+1) c3]) (nxL i t (d+1))):=by
        show OwL _ _ _ _ _;rw [nxL_next,HL.out];exact ((HW.out.below HB3.out).below (below_new (Below.refl _ _) _)).add (OwnI.mono_base (base:=wx0.heap.size) (by have h8:=H3.out.below (below_new (Below.refl _ _) (.cells #[.slice a3 (L.length+1) c3] 26)); rw [List.length_append,List.length_singleton] at h8; exact h8) (by omega)) (by rw [HM.out]; exact H5.out) H6.out
       have HBn:Hid (Below wo.heap.size wo w4):=(below_new (below_then HBx.out HB3.out) _).grown H6.out (by simp at hs3 ⊢; omega) (fun k hk=>(World.ownsRow.lt HW.out.own k hk).1);go_roundw
       case rel=>exact ⟨d+1,_,by go_num,by omega,HWn,HBn⟩
       case measure=>simp [intOf]; omega
      ·have hdI:¬(d:Int)≤(i:Int):=by omega
       obtain rfl:d=i+1:=by omega
       have HWr:Hid (OwL wx0 wo.heap.size u5 us3 (nxL i (t+1) 0)):=by
        have h9:=HW.out;rw [nxL_row (by rw [HN.out]; exact htl)] at h9;exact h9
       go_wp2_with fail;go_roundw
       case rel=>exact ⟨t+1,_,by go_num,by omega,HWr,HBx⟩
       case measure=>simp [intOf]; omega
    ·have htI:¬(t:Int)<(N:Int):=by omega
     obtain rfl:t=N:=by omega
     have HSn:Hid (FrL w.heap.size wp u5 us2 (dLs (i+1))):=by
      have h9:=HW.out;rw [← HN.out,nxL_end] at h9;have hww:=HB.out.size;refine (h9.fresh (by have:=dLs_big (n:=i+1) (by omega); omega) fun l hl=>⟨by rw [dLs_len l hl]; omega,dLs_fit (by omega) hl⟩).mono hww
     have HBn:=Lib.hid (below_then HB.out HBq.out);go_wp2_with fail;go_roundw
     case rel=>exact ⟨i+1,_,by go_num,by omega,HSn,HBn⟩
     case measure=>simp [intOf]; omega
  ·have hltI:¬(i:Int)<(n:Int):=by omega
   obtain rfl:i=n:=by omega
   go_wp2
   all_goals (go_ret; exact ⟨_,rfl,⟨_,HS.out⟩,HB.out⟩)
def winsT (f:Int→Bool) (n t:Nat):List Int:=(List.range n).map fun i=>((((dLs n).take t).filter fun o=>pickL f (ordL n o) == (i:Nat)).length:Int)
theorem winsT_len (f:Int→Bool) (n t:Nat):(winsT f n t).length=n:=by unfold winsT; simp
theorem winsT_zero (f:Int→Bool) (n:Nat):winsT f n 0=List.replicate n 0:=by
 unfold winsT;rw [List.eq_replicate_iff];refine ⟨by simp,fun b hb=>?_⟩;obtain ⟨i,-,rfl⟩:=List.mem_map.1 hb;rfl
theorem winsT_get {f:Int→Bool} {n t i:Nat} (hi:i<n):(winsT f n t).getD i 0=((((dLs n).take t).filter fun o=>pickL f (ordL n o) == (i:Nat)).length:Int):=by
 unfold winsT;rw [List.getD_eq_getElem?_getD,List.getElem?_map,List.getElem?_range hi];rfl
theorem winsT_le {f:Int→Bool} {n t i:Nat} (hi:i<n) (hn:n≤4):0≤(winsT f n t).getD i 0∧(winsT f n t).getD i 0≤24:=by
 rw [winsT_get hi];have h1:=List.length_filter_le (fun o=>pickL f (ordL n o) == (i:Nat)) ((dLs n).take t);have h2:=dLs_big hn;rw [List.length_take] at h1;omega
theorem winsT_end {f:Int→Bool} {n i:Nat} (hi:i<n):(winsT f n (dLs n).length).getD i 0=(winsL f n i:Nat):=by
 rw [winsT_get hi,List.take_length];rfl
theorem winsT_next {f:Int→Bool} {n t:Nat} (ht:t<(dLs n).length) (i:Nat) (hi:i<n):(winsT f n (t+1)).getD i 0=(winsT f n t).getD i 0+(if pickL f (ordL n ((dLs n).getD t []))=(i:Nat) then 1 else 0):=by
 rw [winsT_get hi,winsT_get hi,List.take_succ_eq_append_getElem ht,List.filter_append,List.length_append,show (dLs n).getD t []=(dLs n)[t] from getD_lt ht];by_cases h:pickL f (ordL n (dLs n)[t])=(i:Nat)
 ·rw [if_pos h]
  simp [h]
 ·rw [if_neg h]
  simp [h]
theorem list_ext0 {l m:List Int} (h:l.length=m.length) (h2:∀i,i<l.length→l.getD i 0=m.getD i 0):l=m:=List.ext_getElem h fun i h3 h4=>by
 have:=h2 i h3;rwa [getD_lt h3,getD_lt h4] at this
theorem winsT_hit {f:Int→Bool} {n t k:Nat} (ht:t<(dLs n).length) (hk:k<n) (h:pickL f (ordL n ((dLs n).getD t []))=(k:Nat)):(winsT f n t).set k ((winsT f n t).getD k 0+1)=winsT f n (t+1):=by
 refine list_ext0 (by rw [List.length_set,winsT_len,winsT_len]) fun i hi=>?_;rw [List.length_set,winsT_len] at hi;rw [winsT_next ht i hi,h,getD_set _ _ _ _ (by rw [winsT_len]; exact hk)];by_cases e:k=i
 ·subst e; simp
 ·rw [if_neg e,if_neg (by omega)]; simp
theorem winsT_miss {f:Int→Bool} {n t:Nat} (ht:t<(dLs n).length) (h:pickL f (ordL n ((dLs n).getD t []))<0):winsT f n (t+1)=winsT f n t:=by
 refine list_ext0 (by rw [winsT_len,winsT_len]) fun i hi=>?_;rw [winsT_len] at hi;rw [winsT_next ht i hi,if_neg (by omega)];simp
structure FsI (w wr:World) (O D W n:Nat) (orow drow:Array Value) (vcs lv:Value) (us:List Value) (cs:List CaseM) (ll:List (List Int)) (ws:List Int) (d:DeskM):Prop where
 bw:Below w.heap.size w wr
 hO:w.heap.size≤O
 hW:O<W
 hD:D<O
 rO:wr.heap[O]?=some (.cells orow 44 (0,0))
 rD:wr.heap[D]?=some (.cells drow 34 (0,0))
 ow:OwnI wr W 3 .i64 (.slice (some ⟨W,0,none⟩) n n) ws
 dk:DeskX (fun b=>b<O) wr (.agg drow) d
 cc:SlC wr vcs cs
 cO:offB O vcs
 cW:offB W vcs
 fr:FrL (W+1) wr lv us ll
section
variable {w wr w2:World} {O D W n:Nat} {orow drow:Array Value} {vcs lv:Value} {us:List Value} {cs:List CaseM} {ll:List (List Int)} {ws:List Int} {d:DeskM}
theorem FsI.below (h:FsI w wr O D W n orow drow vcs lv us cs ll ws d) (hb:Below wr.heap.size wr w2):FsI w w2 O D W n orow drow vcs lv us cs ll ws d:=
 ⟨below_grown h.bw (grown_belowD (row:=some O) hb) h.hO,h.hO,h.hW,h.hD,row_below3 hb h.rO,row_below3 hb h.rD,h.ow.below hb,h.dk.below hb,h.cc.below hb,h.cO,h.cW,h.fr.below hb⟩
theorem FsI.draws (h:FsI w wr O D W n orow drow vcs lv us cs ll ws d) (v:Value):FsI w (wr.setCell ⟨O,6,none⟩ v) O D W n (orow.setIfInBounds 6 v) drow vcs lv us cs ll ws d:=by
 have hg:wr.grownBy (wr.setCell ⟨O,6,none⟩ v) (some O):=grownBy_setCell wr ⟨O,6,none⟩ v;have h1:=h.hD;have h2:=h.hW;exact ⟨below_grown h.bw hg h.hO,h.hO,h.hW,h.hD,heap_setCell_same wr O 6 _ _ v h.rO,row_keepD hg h.rD (by omega),h.ow.kept hg (h.ow.ne (by omega)),h.dk.off hg (fun b hb=>by omega),h.cc.grown hg h.cO,h.cO,h.cW,h.fr.off hg (by omega)⟩
theorem FsI.win (h:FsI w wr O D W n orow drow vcs lv us cs ll ws d) (k:Nat) (x:Int) (hn:n=ws.length):FsI w (wr.setCell ⟨W,k,none⟩ (.int .i64 x)) O D W n orow drow vcs lv us cs ll (ws.set k x) d:=by
 have hg:wr.grownBy (wr.setCell ⟨W,k,none⟩ (.int .i64 x)) (some W):=grownBy_setCell wr ⟨W,k,none⟩ _;have h0:=h.hO;have h1:=h.hD;have h2:=h.hW;exact ⟨below_grown h.bw hg (by omega),h.hO,h.hW,h.hD,row_keepD hg h.rO (by omega),row_keepD hg h.rD (by omega),h.ow.store k x hn,h.dk.off hg (fun b hb=>by omega),h.cc.grown hg h.cW,h.cO,h.cW,h.fr.off hg (by omega)⟩
end
def DrI (w:World) (O W:Nat) (v:Value):Prop:=∃dl,SlI w .i64 v dl∧offB O v∧offB W v
theorem DrI.below {w w2:World} {O W:Nat} {v:Value} (h:DrI w O W v) (hb:Below w.heap.size w w2):DrI w2 O W v:=by
 obtain ⟨dl,h1,h2,h3⟩:=h;exact ⟨dl,h1.below hb,h2,h3⟩
theorem DrI.win {w:World} {O W:Nat} {v:Value} (h:DrI w O W v) (k:Nat) (x:Value):DrI (w.setCell ⟨W,k,none⟩ x) O W v:=by
 obtain ⟨dl,h1,h2,h3⟩:=h;exact ⟨dl,h1.grown (grownBy_setCell w ⟨W,k,none⟩ x) h3,h2,h3⟩
set_option maxRecDepth 100000 in
set_option maxHeartbeats 8000000 in
theorem selectM_any (g most:Nat) (v:Value) (c:ConfM) (w:World) (h:CodesE w g) (hv:ConfX w g v c) (hc:c.caps.length≤8) (hm:most≤6) :
  Calls Try.prog 26 #[.pointer (some ⟨g,0,none⟩),v,.int .i64 most] w fun e w'=>∃u op,e=.returned u∧OpN w' w.heap.size u op∧op.good∧op.cases.length≤most∧CodesE w' g∧w.grownBy w' (some g):=by
 have HX:=Lib.hid hv;obtain ⟨vc,vs,rfl,h1,h2,-⟩:=hv;have ST:=Lib.hid (SelInv.start #[vc,vs,.int .i64 c.threads] h);have HOK:Hid (SelOk [] [] 0):=⟨rfl,rfl,by simp,rfl,by simp⟩;obtain ⟨a,cap,rfl,-⟩:=h1.len;obtain ⟨a2,cap2,rfl,-⟩:=h2.len;have hlt:=h.lt;clear h1 h2 h;obtain ⟨W,hW⟩:∃W,(((w.alloc (.cells #[.slice a c.caps.length cap,.slice a2 c.starts.length cap2,.int .i64 c.threads] 29)).alloc (.cells zeroOp 44)).alloc (.cells #[.int .i64 4,.int .i64 0,.int .i64 0,.int .u64 0,.int .i64 0,.slice none 0 0,.slice none 0 0] 44))=W:=⟨_,rfl⟩;rw [hW] at ST;have HW:=Lib.hid hW;clear hW;go_enter Try.func26,Try.ntmps26;go_wp2_with fail;rw [show (#[.int .i64 0,.int .i64 0,.int .i64 0,.int .u64 0,.int .i64 0,.slice none 0 0,.slice none 0 0]:Array Value)=zeroOp from rfl,HW.out,show w.heap.size+1+1=w.heap.size+2 from rfl];clear HW;go_loopw [8,9] (fun i _ wr=>∃k:Nat,∃vcs vds cs ds,k≤most∧i=.int .i64 k∧Hid (SelInv w wr g #[.slice a c.caps.length cap,.slice a2 c.starts.length cap2,.int .i64 c.threads] vcs vds cs ds)∧Hid (SelOk cs ds k)) (fun i _ _=>most+1 - (intOf i).toNat)
 case atStart=>exact ⟨0,_,_,_,_,by omega,rfl,ST,HOK⟩
 case round=>
  obtain ⟨k,vcs,vds,cs,ds,hk,rfl,hI,hO⟩:=hrel;obtain ⟨wo,rfl⟩:∃wo:World,wo=wr:=⟨_,rfl⟩;go_wp2_with fail;refine (nextE g _ _ hI.out.codes (by omega) (by omega)).mono ?_; rintro e w1 ⟨x,rfl,hx0,hx1,hc1,hg1⟩;have hI1:=Lib.hid (hI.out.next hc1 hg1);clear hI hc1 hg1;by_cases hlt:(k:Int)<x
  ·go_upto_region 5 with fail
   go_cut [9] (fun s9 wx=>∃(Y:Nat) (sd:Bool) (z:Int),s9=.pointer (some ⟨Y,0,none⟩)∧-1≤z∧z<8∧Hid (YInv w wx g #[.slice a c.caps.length cap,.slice a2 c.starts.length cap2,.int .i64 c.threads] vcs vds cs ds Y #[.bool sd,.int .i64 z,.int .u64 0]))
   case first=>
    obtain ⟨b0,b1,b2⟩:=row3 hI1.out.box;have q1:w.heap.size<w1.heap.size:=by have:=hI1.out.size; omega
    go_region_law (first
     | (go_simp; go_at_call 46; refine (channelE g _ c _ (by exact hY2.out.inv.codes) (by exact HX.out.grown hY2.out.inv.grown) hc).mono ?_; rintro e w3 ⟨z,rfl,hz0,hz1,hc3,hg3⟩; have hY3:=Lib.hid (hY2.out.next hc3 hg3); obtain ⟨y0,y1,y2⟩:=row3 hY3.out.row; obtain ⟨z0,z1,z2⟩:=hY3.out.frozen)
     | (go_simp; go_at_call 46; refine (channelE g _ c _ (by exact hI2.out.codes) (by exact HX.out.grown hI2.out.grown) hc).mono ?_; rintro e w3 ⟨z,rfl,hz0,hz1,hc3,hg3⟩; have hI3:=Lib.hid (hI2.out.next hc3 hg3))
     | (go_simp; go_at_call 46; refine (channelE g _ c _ (by exact (YInv.new hI2.out).inv.codes) (by exact HX.out.grown (YInv.new hI2.out).inv.grown) hc).mono ?_; rintro e w3 ⟨z,rfl,hz0,hz1,hc3,hg3⟩; have hY3:=Lib.hid ((YInv.new hI2.out).next hc3 hg3); obtain ⟨y0,y1,y2⟩:=row3 hY3.out.row; obtain ⟨z0,z1,z2⟩:=hY3.out.frozen)
     | (go_simp; go_at_call 16; refine (nextE g 2 _ (by exact hI1.out.codes) (by omega) (by omega)).mono ?_; rintro e w2 ⟨y,rfl,hy0,hy1,hc2,hg2⟩; have hI2:=Lib.hid (hI1.out.next hc2 (undrewG hg2)); obtain ⟨b0,b1,b2⟩:=row3 hI2.out.box; have q2:w.heap.size<w2.heap.size:=(by have:=hI2.out.size; omega))
     | (go_simp; go_at_call 16; refine (nextE g 2 _ (by exact (YInv.new hI1.out).inv.codes) (by omega) (by omega)).mono ?_; rintro e w2 ⟨y,rfl,hy0,hy1,hc2,hg2⟩; have hY2:=Lib.hid ((YInv.new hI1.out).next hc2 (undrewG hg2)); obtain ⟨b0,b1,b2⟩:=row3 hY2.out.inv.box))
    all_goals
     go_wp2_with fail;go_meet;exact ⟨_,_,_,rfl,hz0,hz1,by first | exact hY3.out.set3 _ _ _ | exact YInv.lit hI3.out _⟩
   case rest=>
    obtain ⟨Y,sd,z,rfl,hz0,hz1,hY⟩:=hcut;obtain ⟨y0,y1,y2⟩:=row3 hY.out.row;clear hI1;cases sd with
    | true=>
     go_wp2_with fail;refine (valueE g _ hY.out.inv.codes).mono ?_; rintro e w4 ⟨val,rfl,hval,hc4,hg4⟩;have hY4:=Lib.hid (hY.out.next hc4 hg4);obtain ⟨z0,z1,z2⟩:=hY4.out.frozen;obtain ⟨y0,y1,y2⟩:=row3 hY4.out.row;have hY5':=hY4.out.set 2 (.int .u64 val);simp at hY5';have hY5:=Lib.hid hY5';have HCS:Hid ((⟨true,z,val⟩:CaseM).ok):=⟨i64_small _ (by simp only; omega) (by simp only; omega),hval⟩;clear hval hc4 hg4 hY5' hY4;obtain ⟨y0,y1,y2⟩:=row3 hY5.out.row;obtain ⟨v0,v1,v2,v3,v4,v5,v6⟩:=row7 hY5.out.inv.var;go_upto_region 9 with (at_builtin; refine wp_append_case _ rfl _ _ rfl (w.heap.size+3) vcs cs rfl (hY5.out.inv.oc.alloc _) ⟨true,z,val⟩ _ rfl ?_ ?_ ?_ ?_; exact ⟨World.cell?_alloc_at _ _ _ _ (by simp),World.cell?_alloc_at _ _ _ _ (by simp),World.cell?_alloc_at _ _ _ _ (by simp)⟩; (rw [hO.out.nc]; omega); (have:=hY5.out.inv.size; simp at this ⊢; omega); (intro vcs2 w6 ho6 hg6; obtain ⟨g6,cap6,e6⟩:=OwnC.shape_ne ho6; subst e6; have hV6:=row7 (SelInv.varAt (hY5.out.inv.below (below_new (Below.refl _ _) _)) hg6 hY5.out.inv.oc.own_ge); have hF6:=frozen_of_row _ _ 5 _ _ (SelInv.varAt (hY5.out.inv.below (below_new (Below.refl _ _) _)) hg6 hY5.out.inv.oc.own_ge); obtain ⟨x0,x1,x2,x3,x4,x5,x6⟩:=hV6))
     have hI6:=Lib.hid (SelInv.addCase (hY5.out.inv.below (below_new (Below.refl _ _) _)) ho6 hg6);generalize (Value.slice (some ⟨g6,0,none⟩) (cs.length+1) cap6)=vcs2 at *;clear ho6 hg6 hY5 hY;generalize w6.setCell ⟨w.heap.size+2,5,none⟩ vcs2=W6 at *;clear x0 x1 x2 x3 x4 x5 x6 hF6;obtain ⟨x0,x1,x2,x3,x4,x5,x6⟩:=row7 hI6.out.var;have q9a:(0:Int)≤(k:Int)+1:=by omega
     have q9b:(1:Int)≤(k:Int)+1:=by omega
     have q9c:(k:Int)+1≤256:=by omega
     have e9:IntKind.i64.wrap ((k:Int)+1)=(k:Int)+1:=(i64_small _ (by omega) (by omega)).symm;go_region_law (first
      | (refine step_append_i64 (by rfl) _ _ (by rfl) (w.heap.size+3) vds ds (by rfl) (hI7.out.od.alloc _) d _ (by rfl) (by exact World.cell?_alloc_at _ _ _ _ rfl) (by rw [hO.out.nd]; omega) (by have:=hI7.out.size; simp; omega) ?_; intro vds2 w8 ho8 hg8; obtain ⟨g8,cap8,e8⟩:=OwnI.shape_ne ho8; subst e8; have hr8:=SelInv.varAt (hI7.out.below (below_new (Below.refl _ _) _)) hg8 hI7.out.od.own_ge; have hF8:=frozen_of_row _ _ 6 _ _ hr8; obtain ⟨x0,x1,x2,x3,x4,x5,x6⟩:=row7 hr8; clear hr8)
      | (go_simp; go_at_call 16; refine (nextE g ((k:Int)+1) _ (by exact hI6.out.codes) q9b q9c).mono ?_; rintro e w7 ⟨d,rfl,hd0,hd1,hc7,hg7⟩; have hI7:=Lib.hid (hI6.out.next hc7 (undrewG hg7)); obtain ⟨x0,x1,x2,x3,x4,x5,x6⟩:=row7 hI7.out.var; have q7:w.heap.size+2<w7.heap.size:=(by have:=hI7.out.size; omega)))
     all_goals
      have hI8:=Lib.hid (SelInv.addDraw (hI7.out.below (below_new (Below.refl _ _) _)) ho8 hg8);clear e9 q7 ho8 hg8 hc7 hg7 x0 x1 x2 x3 x4 x5 x6;have hO8:=Lib.hid (hO.out.snoc (by omega) ⟨true,z,val⟩ d HCS.out ⟨hz0,hz1⟩ (.inl rfl) ⟨hd0,by omega⟩);go_wp2;go_roundw
      case rel=>exact ⟨k+1,vcs2,_,_,_,by omega,by go_num,hI8,hO8⟩
      case measure=>simp [intOf]; omega
    | false=>
     have hY5:=hY;obtain ⟨val,hv0⟩:∃val:Int,val=0:=⟨0,rfl⟩;rw [← hv0] at hY5 y2;have HCS:Hid ((⟨false,z,val⟩:CaseM).ok):=⟨i64_small _ (by simp only; omega) (by simp only; omega),u64_ok _ (by simp only; omega) (by simp only; omega)⟩;have HV0:=Lib.hid hv0;clear hv0;obtain ⟨v0,v1,v2,v3,v4,v5,v6⟩:=row7 hY5.out.inv.var;go_upto_region 9 with (at_builtin; refine wp_append_case _ rfl _ _ rfl (w.heap.size+3) vcs cs rfl (hY5.out.inv.oc.alloc _) ⟨false,z,val⟩ _ rfl ?_ ?_ ?_ ?_; exact ⟨World.cell?_alloc_at _ _ _ _ rfl,World.cell?_alloc_at _ _ _ _ rfl,World.cell?_alloc_at _ _ _ _ rfl⟩; (rw [hO.out.nc]; omega); (have:=hY5.out.inv.size; simp at this ⊢; omega); (intro vcs2 w6 ho6 hg6; obtain ⟨g6,cap6,e6⟩:=OwnC.shape_ne ho6; subst e6; have hV6:=row7 (SelInv.varAt (hY5.out.inv.below (below_new (Below.refl _ _) _)) hg6 hY5.out.inv.oc.own_ge); have hF6:=frozen_of_row _ _ 5 _ _ (SelInv.varAt (hY5.out.inv.below (below_new (Below.refl _ _) _)) hg6 hY5.out.inv.oc.own_ge); obtain ⟨x0,x1,x2,x3,x4,x5,x6⟩:=hV6))
     have hI6:=Lib.hid (SelInv.addCase (hY5.out.inv.below (below_new (Below.refl _ _) _)) ho6 hg6);generalize (Value.slice (some ⟨g6,0,none⟩) (cs.length+1) cap6)=vcs2 at *;clear ho6 hg6 hY5 hY;generalize w6.setCell ⟨w.heap.size+2,5,none⟩ vcs2=W6 at *;clear x0 x1 x2 x3 x4 x5 x6 hF6;obtain ⟨x0,x1,x2,x3,x4,x5,x6⟩:=row7 hI6.out.var;have q9a:(0:Int)≤(k:Int)+1:=by omega
     have q9b:(1:Int)≤(k:Int)+1:=by omega
     have q9c:(k:Int)+1≤256:=by omega
     have e9:IntKind.i64.wrap ((k:Int)+1)=(k:Int)+1:=(i64_small _ (by omega) (by omega)).symm;go_region_law (first
      | (refine step_append_i64 (by rfl) _ _ (by rfl) (w.heap.size+3) vds ds (by rfl) (hI7.out.od.alloc _) d _ (by rfl) (by exact World.cell?_alloc_at _ _ _ _ rfl) (by rw [hO.out.nd]; omega) (by have:=hI7.out.size; simp; omega) ?_; intro vds2 w8 ho8 hg8; obtain ⟨g8,cap8,e8⟩:=OwnI.shape_ne ho8; subst e8; have hr8:=SelInv.varAt (hI7.out.below (below_new (Below.refl _ _) _)) hg8 hI7.out.od.own_ge; have hF8:=frozen_of_row _ _ 6 _ _ hr8; obtain ⟨x0,x1,x2,x3,x4,x5,x6⟩:=row7 hr8; clear hr8)
      | (go_simp; go_at_call 16; refine (nextE g ((k:Int)+1) _ (by exact hI6.out.codes) q9b q9c).mono ?_; rintro e w7 ⟨d,rfl,hd0,hd1,hc7,hg7⟩; have hI7:=Lib.hid (hI6.out.next hc7 (undrewG hg7)); obtain ⟨x0,x1,x2,x3,x4,x5,x6⟩:=row7 hI7.out.var; have q7:w.heap.size+2<w7.heap.size:=(by have:=hI7.out.size; omega)))
     all_goals
      have hI8:=Lib.hid (SelInv.addDraw (hI7.out.below (below_new (Below.refl _ _) _)) ho8 hg8);clear e9 q7 ho8 hg8 hc7 hg7 x0 x1 x2 x3 x4 x5 x6;have hO8:=Lib.hid (hO.out.snoc (by omega) ⟨false,z,val⟩ d HCS.out ⟨hz0,hz1⟩ (.inr HV0.out) ⟨hd0,by omega⟩);go_wp2;go_roundw
      case rel=>exact ⟨k+1,vcs2,_,_,_,by omega,by go_num,hI8,hO8⟩
      case measure=>simp [intOf]; omega
  ·obtain ⟨v0,v1,v2,v3,v4,v5,v6⟩:=row7 hI1.out.var
   have hdr:∀x∈ds,x=IntKind.i64.wrap x:=fun x hx=>i64_ok x (by have:=hO.out.dsm x hx; omega) (by have:=hO.out.dsm x hx; omega);have HDR:=Lib.hid hdr;have HSC:=Lib.hid (hI1.out.oc.read (by rw [hO.out.nc]; omega) fun x hx=>(hO.out.good x hx).1);have HSD:=Lib.hid (hI1.out.od.read (by rw [hO.out.nd]; omega) hdr);have one5:=hI1.out.oc.one;have one6:=hI1.out.od.one;clear hdr;go_wp2_with fail;refine (modeE g 4 0 0 0 0 vcs vds cs ds _ hI1.out.codes HSC.out HSD.out).mono ?_; rintro e w2 ⟨m,d,rfl,hmd,hc2,hg2⟩;have hI2:=Lib.hid (hI1.out.next hc2 hg2);have HMD:=Lib.hid hmd;clear hmd hc2 hg2;go_wp2_with (refine wpList_store_row rfl 44 _ _ rfl (w.heap.size+1) _ rfl rfl 44 zeroOp hI2.out.res (by kernel_rfl) rfl (all7 one5 one6) ?_);refine bodyPost_ret (v:=.agg #[.int .i64 4,.int .i64 m,.int .i64 0,.int .u64 0,.int .i64 d,vcs,vds]) (results_cell_row Try.results26 _ _ (w.heap.size+1) 44 _ (0,0) _ rfl (setRow_heap _ _ _ _ 44 (0,0) hI2.out.res) Try.underlying44 rfl (by kernel_rfl)) rfl ?_;obtain ⟨f1,f2,f3⟩:=hI2.out.fin (by rw [hO.out.nc]; omega) (fun x hx=>(hO.out.good x hx).1) (by rw [hO.out.nd]; omega) HDR.out #[.int .i64 4,.int .i64 m,.int .i64 0,.int .u64 0,.int .i64 d,vcs,vds] 4 m 0 0 d;exact ⟨_,_,rfl,f1,hO.out.goodOp (by omega) m d HMD.out,by show cs.length≤most; rw [hO.out.nc]; omega,f2,f3⟩
end Go.Proofs.Ytiekicailidhcaa
