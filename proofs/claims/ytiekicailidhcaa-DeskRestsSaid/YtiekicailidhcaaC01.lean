import Derived.OrdersHeld
import Derived.RegionTactic
import Derived.WalkKit
import Derived.WalkLawsBesides
import Derived.WalkSpells
import Derived.ProofKit
import Derived.Lib.Hide
import Derived.LoopTactic
import Derived.Test.YtiekicailidhcaaRows
import Derived.Laws.Tables
import Derived.Laws.MakeOwn
import Derived.Laws.AppendOwn
import Derived.Laws.OwnMore
import Derived.Maps.AppendAt
import Derived.Lib.AppendZeros
import Derived.Deep.MidRow
import Derived.Deep.QuietTactic
import Derived.BigQuiet
import Derived.Deep.DeepCutAuto
import Derived.Laws.AppendOwnNone
import Derived.Deep.CutBlock
import Derived.Shelf.RegionOpenPlain
import Derived.Lib.SliceRun
import Derived.Deep.LoopGhost
import Derived.Laws.BitsAllLaws
import Derived.Test.YtiekicailidhcaaB01
import Derived.Test.YtiekicailidhcaaB02
import Derived.Test.YtiekicailidhcaaB03
import Derived.Test.YtiekicailidhcaaB04
import Derived.Test.YtiekicailidhcaaB05
import Derived.Test.YtiekicailidhcaaB06
import Derived.Test.YtiekicailidhcaaB07
import Derived.Test.YtiekicailidhcaaB08
import Derived.Test.YtiekicailidhcaaB09
import Derived.Test.YtiekicailidhcaaB10
import Derived.Test.YtiekicailidhcaaB11
import Derived.Test.YtiekicailidhcaaB12
import Derived.Test.YtiekicailidhcaaB13
import Derived.Test.YtiekicailidhcaaB14
import Derived.Test.YtiekicailidhcaaB15
set_option linter.unusedVariables false
set_option linter.unusedSimpArgs false
namespace Go.Proofs.Ytiekicailidhcaa
open Go.ChangeShapes Go.WideShapes Go.ChangeAt Go.RowKit
set_option maxRecDepth 100000
section
variable {P:Program} {ops:Array Oper} {Q:Exit→Act→World→Prop} {md:Region.Mode} {S:World→Prop} {k:Nat}
theorem past_k {S:Prop} {l:Array Bool} {k:Nat} (h:l.getD k true=true):l.getD k true=false→S:=fun h0=>by rw [h] at h0; cases h0
end
section
variable {P:Program} {Q:Exit→Act→World→Prop} {md:Region.Mode} {S:World→Prop} {k:Nat} {l:List Oper} {oi:Oper} {v:Value} {fuel:Nat} {listed:Array Bool} {a:Act} {w:World}
end
structure MemM.fits (m:MemM):Prop where
 words:m.words.length≤100000
 lists:m.lists.length≤100000
 each:∀t,(m.lists.getD t []).length≤100000
 wf:∀x∈m.words,x=IntKind.u64.wrap x
 tick:m.tick=IntKind.i64.wrap m.tick
def setE (l:List ChanM) (n:Int) (c:ChanM):List ChanM:=l.set n.toNat c
def chosenE (op:OpM) (r:ResM):Option CaseM:=
 if op.kind=4 then (if r.case<0∨(op.cases.length:Int)≤r.case then none else some (op.cases.getD r.case.toNat noCase))
 else if oneB op=true∧r.case=-1 then some (oneC op) else none
def onlyB (r:ResM) (value number:Bool):Bool:=(value || (r.val == 0 && !r.ok)) && (number || r.num == 0)
def doE (l:List ChanM) (x:CaseM) (r:ResM):Option (List ChanM):=
 if exB l x.chan=false then none
 else if r.kind=1∧x.send=true then
  (if onlyB r false false=true∧(chE l x.chan).closed=false∧((chE l x.chan).buf.length:Int)<(chE l x.chan).cap then some (setE l x.chan { chE l x.chan with buf:=(chE l x.chan).buf ++ [x.val] }) else none)
 else if r.kind=5∧x.send=true then (if onlyB r false false=true∧(chE l x.chan).closed=true then some l else none)
 else if r.kind=2∧x.send=false∧r.ok=true then
  (if onlyB r true false=true∧(chE l x.chan).buf.head?=some r.val then some (setE l x.chan { chE l x.chan with buf:=(chE l x.chan).buf.tail }) else none)
 else if r.kind=2∧x.send=false then (if onlyB r true false=true∧r.val=0∧(chE l x.chan).closed=true∧(chE l x.chan).buf=[] then some l else none)
 else none
def blockedB (l:List ChanM) (op:OpM):Bool:=(casesE op).all fun x=>!readyB l x
def waitsB (op:OpM):Bool:=op.kind == 1 || op.kind == 2 || op.kind == 4
def modE (l:List ChanM) (op:OpM) (r:ResM):Option (List ChanM):=
 if r.kind=1∨r.kind=2 then (chosenE op r).bind fun x=>doE l x r
 else if r.kind=5 then
  (if op.kind=3 then (if r.case=-1∧onlyB r false false=true∧(exB l op.chan=false∨(chE l op.chan).closed=true) then some l else none)
  else (chosenE op r).bind fun x=>doE l x r)
 else if r.kind=6 then
  (if op.kind=3∧r.case=-1∧onlyB r false false=true∧exB l op.chan=true∧(chE l op.chan).closed=false then some (setE l op.chan { chE l op.chan with closed:=true }) else none)
 else if r.kind=3 then (if waitsB op=true∧op.mode=1∧r.case=-1∧onlyB r false false=true∧blockedB l op=true then some l else none)
 else if r.kind=4 then (if waitsB op=true∧op.mode=2∧r.case=-1∧onlyB r false false=true then some l else none)
 else if r.kind=7 then
  (if (op.kind=5∨op.kind=6)∧r.case=-1∧onlyB r false true=true∧r.num=(if exB l op.chan=true then (if op.kind=6 then (chE l op.chan).cap else ((chE l op.chan).buf.length:Int)) else 0) then some l else none)
 else none
def halfB (l:List ChanM) (a:OpM) (x:ResM) (b:OpM) (y:ResM):Bool:=
 decide (x.kind=1∧y.kind=2) && onlyB x false false && onlyB y true false && y.ok &&
 (match chosenE a x,chosenE b y with
 | some p,some q=>p.send && !q.send && decide (p.chan=q.chan) && exB l p.chan && decide ((chE l p.chan).cap≤0) && !(chE l p.chan).closed && decide (y.val=p.val)
 | _,_=>false)
def pairB (l:List ChanM) (a:OpM) (x:ResM) (b:OpM) (y:ResM):Bool:=halfB l a x b y || halfB l b y a x
def tryE (l:List ChanM) (x:CaseM) (n:Int):List ResM:=
 if x.send then [⟨5,n,0,false,0⟩,⟨1,n,0,false,0⟩]
 else (if exB l x.chan=true∧0<(chE l x.chan).buf.length then [⟨2,n,(chE l x.chan).buf.getD 0 0,true,0⟩] else []) ++ [⟨2,n,0,false,0⟩]
def numE (op:OpM) (i:Nat):Int:=if op.kind=4 then (i:Int) else -1
def triesE (l:List ChanM) (op:OpM) (k:Nat):List ResM:=((List.range k).map fun i=>tryE l ((casesE op).getD i noCase) (numE op i)).flatten
def allE (l:List ChanM) (op:OpM):List ResM:=(if op.kind=3 then [⟨6,-1,0,false,0⟩,⟨5,-1,0,false,0⟩] else []) ++ triesE l op (casesE op).length
def couldE (l:List ChanM) (op:OpM):List ResM:=(allE l op).filter fun r=>(modE l op r).isSome
theorem triesE_succ (l:List ChanM) (op:OpM) (k:Nat):triesE l op (k+1)=triesE l op k ++ tryE l ((casesE op).getD k noCase) (numE op k):=by
 unfold triesE;rw [List.range_succ,List.map_append,List.flatten_append];simp
def meetPQ (a b:OpM) (i k:Nat):ResM × ResM:=
 if ((casesE a).getD i noCase).send then (⟨1,numE a i,0,false,0⟩,⟨2,numE b k,((casesE a).getD i noCase).val,true,0⟩)
 else (⟨2,numE a i,((casesE b).getD k noCase).val,true,0⟩,⟨1,numE b k,0,false,0⟩)
def meetRow (l:List ChanM) (a b:OpM) (i k:Nat):List (ResM × ResM):=((List.range k).map (meetPQ a b i)).filter fun p=>pairB l a p.1 b p.2
def meetingE (l:List ChanM) (a b:OpM) (i:Nat):List (ResM × ResM):=((List.range i).map fun j=>meetRow l a b j (casesE b).length).flatten
def meetsB (l:List ChanM) (a b:OpM):Bool:=!(meetingE l a b (casesE a).length).isEmpty
theorem run_copy_sls (w:World) (st ty:TypeId) {e:TypeId} {s bytes:Nat} {z:Value} (hu:Try.prog.underlying st=some (.slice e)) (hinfo:(Try.prog.info? e).map (fun i=>(i.zero,i.size,i.bytes))=some (some z,s,bytes)) (hzs:z.cells.size=s) (hsz:0<s) (hby:bytes≤200)
  {base:Nat} {v:Value} {rows:List (List Value)} (hS:SlS w s v rows) (hne:rows≠[]) (hl:rows.length≤1000000) (hb:base≤w.heap.size) :
  ∃v' w',(Builtin.append_ #[st,st] ty #[.slice none 0 0,v]).run Try.prog w=.ok v' w'∧OwnS w' base e s v' rows∧w.grownBy w' none:=by
 obtain ⟨i0,hi,hz0,hz1,hz2⟩:=info_parts hinfo;have hr1:=hS.2.1;obtain ⟨b,off,cap,rfl,hbl,hr⟩:=hS.open (List.length_pos_iff.2 hne);obtain ⟨v',w',hrun,h2,h3,-,h4⟩:=run_append_own_at (P:=Try.prog) w base st ty e i0 z s bytes hu hi hz0 hz1 hz2 hzs hsz (.slice none 0 0) 0 [] (World.ownsRow_nil w base e s) ⟨b,off,none⟩ rows.length cap rows.flatten (flatS_length rows hr1) (fun j u hj=>by
   have hlt:=(List.getElem?_eq_some_iff.1 hj).1;rw [flatS_length rows hr1] at hlt;have hq:j / s<rows.length:=Nat.div_lt_of_lt_mul (by rw [Nat.mul_comm]; exact hlt);have hm:j % s<s:=Nat.mod_lt _ hsz;have hj2:j=j / s * s+j % s:=by rw [Nat.mul_comm]; exact (Nat.div_add_mod j s).symm
   have e2:((⟨b,off,none⟩:Addr).add j)=⟨b,off+(j / s) * s+j % s,none⟩:=by rw [Addr.add_mid,Nat.add_assoc,← hj2]
   rw [e2];refine hr (j / s) hq (j % s) u ?_;rw [List.getD_eq_getElem?_getD,List.getElem?_eq_getElem hq];have h9:=flatS_get rows hr1 (j / s) (j % s) hq hm;rw [← hj2] at h9;show rows[j / s][j % s]?=some u;rw [← h9];exact hj) (fun u hu=>by
   obtain ⟨r,hr,hur⟩:=List.mem_flatten.1 hu;exact (hr1 r hr).2 u hur) (by unfold maxLen; omega) (by have:(0+rows.length) * bytes≤1000000 * 200:=Nat.mul_le_mul (by omega) hby; omega) hb
 rw [Nat.zero_add,List.nil_append] at h2;exact ⟨v',w',hrun,⟨hr1,h2⟩,h3⟩
theorem wp_copy_sls (w:World) (st:TypeId) {e:TypeId} {s bytes:Nat} {z:Value} (hu:Try.prog.underlying st=some (.slice e)) (hinfo:(Try.prog.info? e).map (fun i=>(i.zero,i.size,i.bytes))=some (some z,s,bytes)) (hzs:z.cells.size=s) (hsz:0<s) (hby:bytes≤200)
  {ops:Array Oper} {rest:List Oper} {o:Oper} {a:Act} {Q:Exit→Act→World→Prop}
  (hg:o.guard=none) (sl x:Operand) (hop:o.op=Op.call { callee:=Callee.builtin Builtin.append,args:=#[sl,x],argTypes:=#[st,st] })
  {base:Nat} {v:Value} {rows:List (List Value)} (hs:a.eval sl=.slice none 0 0) (hx:a.eval x=v) (hS:SlS w s v rows) (hne:rows≠[]) (hl:rows.length≤1000000) (hb:base≤w.heap.size)
  (hK:∀v' w',OwnS w' base e s v' rows→w.grownBy w' none→wpList Try.prog ops Q rest (a.put o.dst v') w') :
  wpList Try.prog ops Q (o :: rest) a w:=by
 obtain ⟨v',w',hr,h1,h2⟩:=run_copy_sls w st o.type hu hinfo hzs hsz hby hS hne hl hb;exact Lib.wpList_append_run w hg sl x _ _ hop _ _ hs hx v' w' hr (hK v' w' h1 h2)
instance (W:World):Nonempty (Ext W):=⟨⟨W,Below.refl _ _⟩⟩
set_option maxRecDepth 100000 in
set_option maxHeartbeats 16000000 in
theorem monly_any (r:ResM) (value number:Bool) (w:World):Calls Try.prog 107 #[resW r,.bool value,.bool number] w fun e w'=>e=.returned (.bool (onlyB r value number))∧Below w.heap.size w w':=by
 obtain ⟨kd,cs,rv,rok,nm⟩:=r;obtain ⟨bb,hbb⟩:∃b,onlyB ⟨kd,cs,rv,rok,nm⟩ value number=b:=⟨_,rfl⟩;rw [hbb];unfold onlyB at hbb;unfold resW;dsimp only at hbb ⊢;obtain ⟨b1,h1⟩:∃b,(rv == 0)=b:=⟨_,rfl⟩;obtain ⟨b2,h2⟩:∃b,(nm == 0)=b:=⟨_,rfl⟩;rw [h1,h2] at hbb;have HBB:=Lib.hid hbb;clear hbb;obtain ⟨W,hW,HB,R0,hz⟩:=one_new w (.cells #[.int .i64 kd,.int .i64 cs,.int .u64 rv,.bool rok,.int .i64 nm] 73);have HW:=Lib.hid hW;clear hW;go_enter Try.func107,Try.ntmps107;go_upto_region 1 with fail
 rw [HW.out];clear HW;obtain ⟨x0,x1,x2,x3,x4⟩:=rowc5 R0.out;cases value <;> cases number <;> cases rok <;> cases b1 <;> cases b2 <;> (
  go_wp2;go_ret;exact ⟨by rw [← HBB.out]; rfl,HB.out⟩)
set_option maxRecDepth 100000 in
set_option maxHeartbeats 16000000 in
theorem mset_any (v:Value) (l:List ChanM) (i:Nat) (hi:i<l.length) (c:ChanM) (u:Value) (w:World) (hv:SlH w v l) (hu:SlU w u c.buf) (hcw:c.cap=IntKind.i64.wrap c.cap) (hl:l.length≤1000000):Calls Try.prog 108 #[v,.int .i64 i,.agg #[.int .i64 c.cap,u,.bool c.closed]] w fun e w'=>∃v',e=.returned v'∧SlH w' v' (l.set i c)∧Below w.heap.size w w':=by
 obtain ⟨cc,bf,cl⟩:=c;dsimp only at *;obtain ⟨ua,uc,rfl,-⟩:=hu.1.len;have HU:=Lib.hid hu;obtain ⟨us,h1,h2,h3,h4,-⟩:=hv;have hlen:=chRows_length l us h1;obtain ⟨a,cap,hve,-⟩:=h2.len;rw [hlen] at hve;subst hve;have HS:=Lib.hid h2;have H3:=Lib.hid h3;have H4:=Lib.hid h4;have H1:=Lib.hid h1;have HLN:=Lib.hid hlen;have HNE:Hid (chRows l us≠[]):=fun e=>by rw [e] at hlen; simp at hlen; omega
 have HCW:=Lib.hid hcw;clear h1 h2 h3 h4 hu hcw hlen;obtain ⟨W,hW,HB,R0,hz⟩:=one_new w (.cells #[.int .i64 cc,.slice ua bf.length uc,.bool cl] 63);have HW:=Lib.hid hW;clear hW;go_enter Try.func108,Try.ntmps108;go_upto_region 1 with fail
 rw [HW.out];clear HW;obtain ⟨x0_0,x0_1,x0_2⟩:=rowc3 R0.out;have HS1:=Lib.hid (HS.out.below HB.out);go_upto_region 2 with (at_builtin; refine wp_copy_sls _ 31 (by kernel_rfl) Try.info_chan rfl (by decide) (by decide) rfl _ _ rfl (base:=W.heap.size) rfl rfl HS1.out HNE.out (by rw [HLN.out]; omega) (Nat.le_refl _) ?_; intro v2 w2 h5 h6; have H5:=Lib.hid h5; have H6:=Lib.hid h6; clear h5 h6)
 have HB2:Hid (Below W.heap.size W w2):=(Below.refl W.heap.size W).grown H6.out (Nat.le_refl _) (fun j hj=>by cases hj);obtain ⟨g,cap2,hve,hg,hg2,-⟩:=H5.out.open (by rw [HLN.out]; omega);rw [HLN.out] at hve;subst hve;have hT:=(H5.out.row i (by rw [HLN.out]; exact hi)).2;have HT:=Lib.hid hT;have hiI:(i:Int)<(l.length:Int):=by omega
 obtain ⟨y0,y1,y2⟩:=rowc3 ((HB2.out.block w.heap.size (ltR R0)).trans R0.out);clear x0_0 x0_1 x0_2 hT;go_wp2_with (refine wpList_store_mid rfl 63 _ _ rfl g (i * 3) _ rfl rfl HT.out (by kernel_rfl) (by simp [Value.oneCell']) ?_);have H7:=H5.out.setRow i (by rw [HLN.out]; exact hi) (r:=[.int .i64 cc,.slice ua bf.length uc,.bool cl]) rfl (by intro x hx; simp only [List.mem_cons,List.not_mem_nil,or_false] at hx; rcases hx with rfl | rfl | rfl <;> rfl);rw [show ([.int .i64 cc,.slice ua bf.length uc,.bool cl]:List Value)=chRow ⟨cc,bf,cl⟩ (.slice ua bf.length uc) from rfl,chRows_set l us i _ _ H1.out] at H7;have hb3:Below w.heap.size w (w2.setCells g (i * 3) (chRow ⟨cc,bf,cl⟩ (.slice ua bf.length uc))):=(below_then HB.out HB2.out).grown (setCells_grown g _ _ _) (below_then HB.out HB2.out).size (fun j hj=>by cases hj; have:=HB.out.size; omega);have hbw:Below W.heap.size W (w2.setCells g (i * 3) (chRow ⟨cc,bf,cl⟩ (.slice ua bf.length uc))):=HB2.out.grown (setCells_grown g _ _ _) HB2.out.size (fun j hj=>by cases hj; exact hg);go_ret;refine ⟨_,rfl,H7.slH (by rw [List.length_set,List.length_set]; exact H1.out) (by rw [List.length_set]; exact hl) (fun j hj=>?_) (fun c hc=>?_),hb3⟩
 ·rw [List.length_set] at hj
  rw [getD_setL,getD_setL];by_cases hji:i=j
  ·rw [if_pos ⟨hji,by rw [H1.out]; exact hj⟩,if_pos ⟨hji,hj⟩]
   exact HU.out.below hb3
  ·rw [if_neg (fun h=>hji h.1),if_neg (fun h=>hji h.1)]
   exact (H3.out j hj).below hb3
 ·rcases List.mem_or_eq_of_mem_set hc with hc | rfl
  ·exact H4.out c hc
  ·exact HCW.out
def DoQ (o:Option (List ChanM)) (w:World) (e:Ending) (w':World):Prop:=∃(v':Value) (ok:Bool),e=.returned (.tuple #[v',.bool ok])∧((∃l',o=some l'∧ok=true∧SlH w' v' l')∨(o=none∧ok=false))∧Below w.heap.size w w'
def doB (l:List ChanM) (x:CaseM) (c:ChanM) (r:ResM):Option (List ChanM):=
 if r.kind=1∧x.send=true then
  (if onlyB r false false=true∧c.closed=false∧(c.buf.length:Int)<c.cap then some (setE l x.chan { c with buf:=c.buf ++ [x.val] }) else none)
 else if r.kind=5∧x.send=true then (if onlyB r false false=true∧c.closed=true then some l else none)
 else if r.kind=2∧x.send=false∧r.ok=true then
  (if onlyB r true false=true∧c.buf.head?=some r.val then some (setE l x.chan { c with buf:=c.buf.tail }) else none)
 else if r.kind=2∧x.send=false then (if onlyB r true false=true∧r.val=0∧c.closed=true∧c.buf=[] then some l else none)
 else none
theorem doE_in {l:List ChanM} {x:CaseM} {r:ResM} (h:exB l x.chan=true):doE l x r=doB l x (chE l x.chan) r:=by
 unfold doE;rw [if_neg (by simp [h])];rfl
theorem doE_out {l:List ChanM} {x:CaseM} {r:ResM} (h:exB l x.chan=false):doE l x r=none:=by
 unfold doE;rw [if_pos h]
set_option maxRecDepth 100000 in
set_option maxHeartbeats 16000000 in
theorem mdo_any (v:Value) (l:List ChanM) (x:CaseM) (r:ResM) (w:World) (hv:SlH w v l) (hl:l.length≤1000000) (hbf:∀c∈l,c.buf.length≤999999) (hxv:x.val=IntKind.u64.wrap x.val):Calls Try.prog 106 #[v,caseW x,resW r] w fun e w'=>DoQ (doE l x r) w e w':=by
 have HV:=Lib.hid hv;have TE:=Lib.hid fun w' (hb:Below w.heap.size w w')=>mexists_any v l x.chan w' (hv.below hb);have TO:=Lib.hid fun b1 b2 w'=>monly_any r b1 b2 w';obtain ⟨lo,hlo⟩:∃o,doE l x r=o:=⟨_,rfl⟩;rw [hlo];obtain ⟨sd,ch,vl⟩:=x;obtain ⟨kd,cs,rv,rok,nm⟩:=r;dsimp only at hxv TE;unfold caseW;unfold resW at TO ⊢;dsimp only at TO ⊢;have HLO:=Lib.hid hlo;have HXV:=Lib.hid hxv;obtain ⟨ex,hex⟩:∃b,exB l ch=b:=⟨_,rfl⟩;rw [hex] at TE;have HEX:=Lib.hid hex;have HL:=Lib.hid hl;have HBF:=Lib.hid hbf;obtain ⟨a,cap,hve,-⟩:=hv.len;subst hve;clear hv hlo hex hxv hl hbf;obtain ⟨W,hW,HB,R0,R1,hz⟩:=two_new w (.cells #[.bool sd,.int .i64 ch,.int .u64 vl] 58) (.cells #[.int .i64 kd,.int .i64 cs,.int .u64 rv,.bool rok,.int .i64 nm] 73);have HW:=Lib.hid hW;clear hW;go_enter Try.func106,Try.ntmps106;go_upto_region 1 with fail
 rw [HW.out];clear HW;obtain ⟨x0_0,x0_1,x0_2⟩:=rowc3 R0.out;obtain ⟨x1_0,x1_1,x1_2,x1_3,x1_4⟩:=rowc5 R1.out;go_wp2_with fail;refine (TE.out _ HB.out).mono ?_; rintro e w' ⟨rfl,rfl⟩;cases ex with
 | false=>
  have hr:lo=none:=by rw [← HLO.out]; exact doE_out HEX.out
  subst hr;go_wp2;refine bodyPost_ret (v:=.tuple #[.slice none 0 0,.bool false]) (by simp [results,Try.results106,go_sem]) rfl ?_;exact ⟨_,_,rfl,.inr ⟨rfl,rfl⟩,HB.out⟩
 | true=>
  have hx:=HEX.out;unfold exB at hx;simp only [Bool.and_eq_true,decide_eq_true_eq] at hx;obtain ⟨i,hi⟩:∃i:Nat,ch=(i:Int):=⟨ch.toNat,by omega⟩;subst hi;have hil:i<l.length:=by omega
  have HIL:=Lib.hid hil;have hiI:(i:Int)<(l.length:Int):=by omega
  obtain ⟨⟨cc,bf,cl⟩,hcc⟩:∃c,l.getD i noChan=c:=⟨_,rfl⟩;have HDO:Hid (doB l ⟨sd,i,vl⟩ ⟨cc,bf,cl⟩ ⟨kd,cs,rv,rok,nm⟩=lo):=by
   show _=_;rw [← HLO.out,doE_in (by exact HEX.out)];show _=doB l _ (l.getD (Int.toNat (i:Int)) noChan) _;rw [Int.toNat_natCast,hcc]
  have hmem:(⟨cc,bf,cl⟩:ChanM)∈l:=by
   rw [← hcc,List.getD_eq_getElem?_getD,List.getElem?_eq_getElem hil];exact List.getElem_mem hil
  have hbl:bf.length≤999999:=HBF.out _ hmem;have HCW:Hid (cc=IntKind.i64.wrap cc):=by
   obtain ⟨us,-,-,-,h4,-⟩:=HV.out;exact h4 _ hmem
  have TS:=Lib.hid fun c u w' (hb:Below w.heap.size w w') hu hcw=>mset_any _ l i HIL.out c u w' (HV.out.below hb) hu hcw HL.out;have HV2:=HV.out.below HB.out;obtain ⟨b,off,cap',u,hve,hb,c0,c1,c2,hu,hfu⟩:=HV2.at2 i hil;simp only [Value.slice.injEq] at hve;obtain ⟨rfl,-,rfl⟩:=hve;rw [hcc] at c0 c2 hu;dsimp only at c0 c2 hu;obtain ⟨ua,uc,rfl,-⟩:=hu.len;have HU:=Lib.hid hu;have HFU:=Lib.hid hfu;clear hfu hx hcc HEX HV2 TE hmem HBF HLO hu;obtain ⟨Wx,hWx⟩:∃Wx,(W.alloc (.cells #[.int .i64 0,.slice none 0 0,.bool false] 63)).setRow W.heap.size #[.int .i64 cc,.slice ua bf.length uc,.bool cl]=Wx:=⟨_,rfl⟩;have Nx:Hid ((W.alloc (.cells #[.int .i64 0,.slice none 0 0,.bool false] 63)).heap[W.heap.size]?=some (.cells #[.int .i64 0,.slice none 0 0,.bool false] 63 (0,0))):=heap_alloc_new _ _;have HBx:Hid (Below W.heap.size W Wx):=hWx▸row_below (below_new (Below.refl _ _) _) (Nat.le_refl _) _;have Rx:Hid (Wx.heap[W.heap.size]?=some (.cells #[.int .i64 cc,.slice ua bf.length uc,.bool cl] 63 (0,0))):=hWx▸setRow_heap _ _ _ _ _ (0,0) Nx.out;have HWx:=Lib.hid hWx;clear hWx;go_upto_region 4 with (refine wpList_store_row rfl 63 _ _ rfl (W.heap.size) _ rfl rfl 63 _ Nx.out (by kernel_rfl) rfl (by simp [Value.oneCell']) ?_)
  rw [HWx.out];try simp only [Act.put]
  clear HWx Nx;obtain ⟨X,hX⟩:∃X,W.heap.size=X:=⟨_,rfl⟩;rw [hX] at Rx;rw [hX];have hXX:w.heap.size+2≤X:=by omega
  have HUb:Hid (bf≠[]→∃b2 off2,ua=some ⟨b2,off2,none⟩∧b2<X):=fun hne=>by
   obtain ⟨b2,off2,c2,e2,-,hb2,-⟩:=HU.out.open hne;simp only [Value.slice.injEq] at e2;exact ⟨b2,off2,e2.1,hX▸hb2⟩
  clear hX;have HBX:=Lib.hid (below_then HB.out HBx.out);have R0x:=keepR HBx.out R0;have R1x:=keepR HBx.out R1;have HUx:=Lib.hid (HU.out.below HBx.out);have HBx9:=Lib.hid HBx.out;clear c0 c1 c2 x0_0 x0_1 x0_2 x1_0 x1_1 x1_2 x1_3 x1_4 hb HU HB HBx R0 R1;obtain ⟨x0,x1,x2⟩:=rowc3 R0x.out;obtain ⟨r0,r1,r2,r3,r4⟩:=rowc5 R1x.out;obtain ⟨y0,y1,y2⟩:=rowc3 Rx.out;have hnone:lo=none→∀w' e v',Below Wx.heap.size Wx w'→e=.returned (.tuple #[v',.bool false])→DoQ lo w e w':=fun h w' e v' hb he=>⟨v',false,he,.inr ⟨h,rfl⟩,below_then HBX.out hb⟩;have HNONE:=Lib.hid hnone;have hsame:lo=some l→∀w' e,Below Wx.heap.size Wx w'→e=.returned (.tuple #[.slice (some ⟨b,off,none⟩) l.length cap,.bool true])→DoQ lo w e w':=fun h w' e hb he=>⟨_,true,he,.inl ⟨l,h,rfl,HV.out.below (below_then HBX.out hb)⟩,below_then HBX.out hb⟩;have HSAME:=Lib.hid hsame;clear hnone hsame;unfold doB at HDO;dsimp only at HDO;by_cases k1:kd=1
  ·subst k1
   cases sd with
   | false=>
    have hr:Hid (lo=none):=by show _=_; rw [← HDO.out]; simp
    go_wp2;refine bodyPost_ret (v:=.tuple #[.slice none 0 0,.bool false]) (by simp [results,Try.results106,go_sem]) rfl ?_;exact HNONE.out hr.out _ _ _ (Below.refl _ _) rfl
   | true=>
    obtain ⟨o1,ho1⟩:∃b,onlyB ⟨1,cs,rv,rok,nm⟩ false false=b:=⟨_,rfl⟩;have T:=Lib.hid (TO.out false false);rw [ho1] at HDO T;go_wp2_with fail;refine (T.out _).mono ?_; rintro e w1 ⟨rfl,hb1⟩;have HB1:=Lib.hid hb1;have R0y:=keepR hb1 R0x;have Rxy:=keepR hb1 Rx;have HUy:=Lib.hid (HUx.out.below hb1);clear x0 x1 x2 r0 r1 r2 r3 r4 y0 y1 y2 T hb1 R0x R1x Rx HUx;obtain ⟨x0,x1,x2⟩:=rowc3 R0y.out;obtain ⟨y0,y1,y2⟩:=rowc3 Rxy.out;cases o1 with
    | false=>
     have hr:Hid (lo=none):=by show _=_; rw [← HDO.out]; simp
     go_wp2;refine bodyPost_ret (v:=.tuple #[.slice none 0 0,.bool false]) (by simp [results,Try.results106,go_sem]) rfl ?_;exact HNONE.out hr.out _ _ _ HB1.out rfl
    | true=>
     cases cl with
     | true=>
      have hr:Hid (lo=none):=by show _=_; rw [← HDO.out]; simp
      go_wp2;refine bodyPost_ret (v:=.tuple #[.slice none 0 0,.bool false]) (by simp [results,Try.results106,go_sem]) rfl ?_;exact HNONE.out hr.out _ _ _ HB1.out rfl
     | false=>
      by_cases hge:(bf.length:Int) ≥ cc
      ·have hnl:¬(bf.length:Int)<cc:=by omega
       have hr:Hid (lo=none):=by show _=_; rw [← HDO.out]; simp [hnl]
       go_wp2;refine bodyPost_ret (v:=.tuple #[.slice none 0 0,.bool false]) (by simp [results,Try.results106,go_sem]) rfl ?_;exact HNONE.out hr.out _ _ _ HB1.out rfl
      have hr:Hid (lo=some (l.set i ⟨cc,bf ++ [vl],false⟩)):=by
       show _=_;rw [← HDO.out];simp [setE,show (bf.length:Int)<cc by omega]
      have hXl:X<w1.heap.size:=(ltR Rxy);have KS7:Hid (∀w',Below w1.heap.size w1 w'→(fun w':World=>w'.cell? ⟨X,1,none⟩=some (.slice ua bf.length uc)∧w'.cell? ⟨w.heap.size,2,none⟩=some (.int .u64 vl)) w'):=fun w' hb=>⟨(rowc3 ((hb.block X (ltR Rxy)).trans Rxy.out)).2.1,(rowc3 ((hb.block w.heap.size (ltR R0y)).trans R0y.out)).2.2⟩;go_upto_region 7 with fail
      clear x0 x1 x2 y0 y1 y2 HDO;refine untilK KS7 8 9 (by kernel_rfl) rfl ?_;obtain ⟨u0,hu0,HU0⟩:=drew_pack w1;rw [hu0];clear hu0;have hSU0:=KS7.out _ HU0.out;apply tkV 0 hSU0 rfl (by kernel_rfl) (fun _ _ _ h=>h) rfl;intro w hSw;(go_simp<;>with_reducible rfl);simp only [J0,J1,J2,J3,J4];apply tkV 1 hSU0 rfl (by kernel_rfl) (fun _ _ _ h=>h) rfl;intro w hSw;(go_simp<;>with_reducible rfl);simp only [J0,J1,J2,J3,J4];apply tkV 3 hSU0 rfl (by kernel_rfl) (fun _ _ _ h=>h) rfl;intro w hSw;(go_simp<;>with_reducible rfl);simp only [J0,J1,J2,J3,J4];apply tkV 4 hSU0 rfl (by kernel_rfl) (fun _ _ _ h=>h) rfl;intro w hSw;(go_simp<;>with_reducible rfl);simp only [J0,J1,J2,J3,J4];refine wpAnyU_ready (rs:=[2,5]) (by kernel_rfl) rfl ?_;refine AllReadyU.cons la2 rfl (fun K hK=>?_) ?_
      ·refine step_app_u64 (w:=u0) (by rfl) _ _ (by rfl) w1.heap.size (.slice none 0 0) [] (by rfl) (World.ownsRow_nil _ _ _ _) (.slice ua bf.length uc) bf (by rfl) (HUy.out.below HU0.out) (by simp) (by omega) HU0.out.size ?_
       intro v2 u1 ho2 hg2;have HO2:Hid (OwnI u1 w1.heap.size 41 .u64 v2 bf):=ho2;have HU1:=Lib.hid (HU0.out.grown hg2 HU0.out.size (fun j hj=>by cases hj));clear ho2 hg2;refine hK.out _ _ ?_ fun hSU1=>?_;exact KS7.out _ HU1.out;clear hK K hSU0;(try simp only [J0,J1,J2,J3,J4]);refine consU 5 rfl (by kernel_rfl) rfl fun K hK=>?_;go_simp;obtain ⟨u2,nb,hv1,hX,RN,hbn,ltn⟩:=alloc_pack u1 (.cells #[.int .u64 vl] 41);have HO3:Hid (OwnI u2 w1.heap.size 41 .u64 v2 bf):=HO2.out.below hbn.out;rw [hv1,hX];have HU2:=Lib.hid (below_then HU1.out hbn.out);clear hv1 hX hbn ltn;refine hK.out _ _ ?_ fun hSU2=>?_;exact KS7.out _ HU2.out;clear hK K hSU1;(try simp only [J0,J1,J2,J3,J4]);refine consU 6 rfl (by kernel_rfl) rfl fun K hK=>?_;refine step_append_u64 (w:=u2) (by rfl) _ _ (by rfl) w1.heap.size v2 bf (by rfl) HO3.out vl nb (by rfl) (by exact cell_of_row _ _ 0 _ _ _ RN.out) (by omega) HU2.out.size ?_;intro v6 u3 ho6 hg6;obtain ⟨p6,n6,q6,rfl⟩:∃p n q,v6=.slice p n q:=by
        rcases ho6.shape with ⟨rfl,-⟩ | ⟨g,c,rfl,-⟩
        ·exact ⟨_,_,_,rfl⟩
        ·exact ⟨_,_,_,rfl⟩
       have HO6:Hid (OwnI u3 w1.heap.size 41 .u64 (.slice p6 n6 q6) (bf ++ [vl])):=ho6;have HU3:=Lib.hid (HU2.out.grown hg6 HU2.out.size (fun j hj=>HO3.out.own_ge j hj));clear ho6 hg6;refine hK.out _ _ ?_ fun hSU3=>?_;exact KS7.out _ HU3.out;clear hK K hSU2;(try simp only [J0,J1,J2,J3,J4]);apply tkV 7 hSU3 rfl (by kernel_rfl) (fun _ _ _ h=>h) rfl;intro w hSw;(go_simp<;>with_reducible rfl);simp only [J0,J1,J2,J3,J4];refine freeU 8 rfl (by kernel_rfl) rfl (by kernel_rfl) fun K hK=>?_;have rr:=(HU3.out.block X (ltR Rxy)).trans Rxy.out;have RR:=Lib.hid rr;have ff:=frozen_of_row u3 X 1 _ _ rr;obtain ⟨z0,z1,z2⟩:=rowc3 rr;clear rr;go_simp;clear z0 z1 z2 ff;refine hK.out _ _ ?_;clear hK K hSU3;(try simp only [J0,J1,J2,J3,J4]);refine wpAnyU_done (by kernel_rfl) ?_ _;obtain ⟨u4,hu4⟩:∃u4,u3.setCell ⟨X,1,none⟩ (.slice p6 n6 q6)=u4:=⟨_,rfl⟩;have HR4:Hid (u4.heap[X]?=some (.cells #[.int .i64 cc,.slice p6 n6 q6,.bool false] 63 (0,0))):=by
        rw [← hu4];have r1:=heap_setCell_same u3 X 1 _ _ (.slice p6 n6 q6) RR.out;simp at r1;exact r1
       have HC4:Hid (u4.heap[w.heap.size]?=some (.cells #[.bool true,.int .i64 i,.int .u64 vl] 58 (0,0))):=by
        rw [← hu4];exact (heap_setCell_other u3 ⟨X,1,none⟩ w.heap.size (.slice p6 n6 q6) (by show w.heap.size≠X; omega)).trans ((HU3.out.block w.heap.size (ltR R0y)).trans R0y.out)
       have HB4:Hid (Below w.heap.size w u4):=by
        rw [← hu4];exact (below_then HBX.out (below_then HB1.out HU3.out)).setCell (p:=⟨X,1,none⟩) (by show w.heap.size≤X; omega) (.slice p6 n6 q6)
       have HS4:Hid (SlU u4 (.slice p6 n6 q6) (bf ++ [vl])):=by
        rw [← hu4];exact (HO6.out.kept (grownBy_setCell u3 ⟨X,1,none⟩ (.slice p6 n6 q6)) (HO6.out.ne hXl)).slU (by simp; omega) (fun x hx=>by rcases List.mem_append.1 hx with h | h; exact HUy.out.2.1 x h; rw [List.mem_singleton.1 h]; exact HXV.out)
       rw [hu4];clear hu4;obtain ⟨z0,z1,z2⟩:=rowc3 HR4.out;obtain ⟨x0,x1,x2⟩:=rowc3 HC4.out;have T5:=TS.out ⟨cc,bf ++ [vl],false⟩ (.slice p6 n6 q6) u4 HB4.out HS4.out HCW.out;dsimp only at T5;have T5':=Lib.hid T5;clear T5;go_wp2_with fail;refine T5'.out.mono ?_; rintro e u5 ⟨v5,rfl,hs5,hb5⟩;have HB5:=Lib.hid (below_then HB4.out hb5);have HS5:=Lib.hid hs5;clear z0 z1 z2 x0 x1 x2 hb5 hs5 T5';go_wp2_with fail;refine bodyPost_ret (v:=.tuple #[v5,.bool true]) (by simp [results,Try.results106,go_sem]) rfl ?_;exact ⟨v5,true,rfl,.inl ⟨_,hr.out,rfl,HS5.out⟩,HB5.out⟩
      refine AllReadyU.cons la5 rfl (fun K hK=>?_) ?_
      ·go_simp
       obtain ⟨u1,nb,hv1,hX,RN,hbn,ltn⟩:=alloc_pack u0 (.cells #[.int .u64 vl] 41);rw [hv1,hX];have HU1:=Lib.hid (below_then HU0.out hbn.out);clear hv1 hX hbn ltn;refine hK.out _ _ ?_ fun hSU4=>?_;exact KS7.out _ HU1.out;clear hK K hSU0;(try simp only [J0,J1,J2,J3,J4]);refine consU 2 rfl (by kernel_rfl) rfl fun K hK=>?_;refine step_app_u64 (w:=u1) (by rfl) _ _ (by rfl) w1.heap.size (.slice none 0 0) [] (by rfl) (World.ownsRow_nil _ _ _ _) (.slice ua bf.length uc) bf (by rfl) (HUy.out.below HU1.out) (by simp) (by omega) HU1.out.size ?_;intro v2 u2 ho2 hg2;have HO2:Hid (OwnI u2 w1.heap.size 41 .u64 v2 bf):=ho2;have HU2:=Lib.hid (HU1.out.grown hg2 HU1.out.size (fun j hj=>by cases hj));have RN2:=Lib.hid ((((Below.refl u1.heap.size u1).grown hg2 (Nat.le_refl _) (fun j hj=>by cases hj)).block nb (ltR RN)).trans RN.out);clear ho2 hg2;refine hK.out _ _ ?_ fun hSU5=>?_;exact KS7.out _ HU2.out;clear hK K hSU4;(try simp only [J0,J1,J2,J3,J4]);refine consU 6 rfl (by kernel_rfl) rfl fun K hK=>?_;refine step_append_u64 (w:=u2) (by rfl) _ _ (by rfl) w1.heap.size v2 bf (by rfl) HO2.out vl nb (by rfl) (by exact cell_of_row _ _ 0 _ _ _ RN2.out) (by omega) HU2.out.size ?_;intro v6 u3 ho6 hg6;obtain ⟨p6,n6,q6,rfl⟩:∃p n q,v6=.slice p n q:=by
        rcases ho6.shape with ⟨rfl,-⟩ | ⟨g,c,rfl,-⟩
        ·exact ⟨_,_,_,rfl⟩
        ·exact ⟨_,_,_,rfl⟩
       have HO6:Hid (OwnI u3 w1.heap.size 41 .u64 (.slice p6 n6 q6) (bf ++ [vl])):=ho6;have HU3:=Lib.hid (HU2.out.grown hg6 HU2.out.size (fun j hj=>HO2.out.own_ge j hj));clear ho6 hg6;refine hK.out _ _ ?_ fun hSU6=>?_;exact KS7.out _ HU3.out;clear hK K hSU5;(try simp only [J0,J1,J2,J3,J4]);apply tkV 7 hSU6 rfl (by kernel_rfl) (fun _ _ _ h=>h) rfl;intro w hSw;(go_simp<;>with_reducible rfl);simp only [J0,J1,J2,J3,J4];refine freeU 8 rfl (by kernel_rfl) rfl (by kernel_rfl) fun K hK=>?_;have rr:=(HU3.out.block X (ltR Rxy)).trans Rxy.out;have RR:=Lib.hid rr;have ff:=frozen_of_row u3 X 1 _ _ rr;obtain ⟨z0,z1,z2⟩:=rowc3 rr;clear rr;go_simp;clear z0 z1 z2 ff;refine hK.out _ _ ?_;clear hK K hSU6;(try simp only [J0,J1,J2,J3,J4]);refine wpAnyU_done (by kernel_rfl) ?_ _;obtain ⟨u4,hu4⟩:∃u4,u3.setCell ⟨X,1,none⟩ (.slice p6 n6 q6)=u4:=⟨_,rfl⟩;have HR4:Hid (u4.heap[X]?=some (.cells #[.int .i64 cc,.slice p6 n6 q6,.bool false] 63 (0,0))):=by
        rw [← hu4];have r1:=heap_setCell_same u3 X 1 _ _ (.slice p6 n6 q6) RR.out;simp at r1;exact r1
       have HC4:Hid (u4.heap[w.heap.size]?=some (.cells #[.bool true,.int .i64 i,.int .u64 vl] 58 (0,0))):=by
        rw [← hu4];exact (heap_setCell_other u3 ⟨X,1,none⟩ w.heap.size (.slice p6 n6 q6) (by show w.heap.size≠X; omega)).trans ((HU3.out.block w.heap.size (ltR R0y)).trans R0y.out)
       have HB4:Hid (Below w.heap.size w u4):=by
        rw [← hu4];exact (below_then HBX.out (below_then HB1.out HU3.out)).setCell (p:=⟨X,1,none⟩) (by show w.heap.size≤X; omega) (.slice p6 n6 q6)
       have HS4:Hid (SlU u4 (.slice p6 n6 q6) (bf ++ [vl])):=by
        rw [← hu4];exact (HO6.out.kept (grownBy_setCell u3 ⟨X,1,none⟩ (.slice p6 n6 q6)) (HO6.out.ne hXl)).slU (by simp; omega) (fun x hx=>by rcases List.mem_append.1 hx with h | h; exact HUy.out.2.1 x h; rw [List.mem_singleton.1 h]; exact HXV.out)
       rw [hu4];clear hu4;obtain ⟨z0,z1,z2⟩:=rowc3 HR4.out;obtain ⟨x0,x1,x2⟩:=rowc3 HC4.out;have T5:=TS.out ⟨cc,bf ++ [vl],false⟩ (.slice p6 n6 q6) u4 HB4.out HS4.out HCW.out;dsimp only at T5;have T5':=Lib.hid T5;clear T5;go_wp2_with fail;refine T5'.out.mono ?_; rintro e u5 ⟨v5,rfl,hs5,hb5⟩;have HB5:=Lib.hid (below_then HB4.out hb5);have HS5:=Lib.hid hs5;clear z0 z1 z2 x0 x1 x2 hb5 hs5 T5';go_wp2_with fail;refine bodyPost_ret (v:=.tuple #[v5,.bool true]) (by simp [results,Try.results106,go_sem]) rfl ?_;exact ⟨v5,true,rfl,.inl ⟨_,hr.out,rfl,HS5.out⟩,HB5.out⟩
      exact AllReadyU.nil
  have k1b:(kd == 1)=false:=by simpa using k1
  by_cases k5:kd=5
  ·subst k5
   cases sd with
   | false=>
    have hr:Hid (lo=none):=by show _=_; rw [← HDO.out]; simp
    go_wp2;refine bodyPost_ret (v:=.tuple #[.slice none 0 0,.bool false]) (by simp [results,Try.results106,go_sem]) rfl ?_;exact HNONE.out hr.out _ _ _ (Below.refl _ _) rfl
   | true=>
    obtain ⟨o1,ho1⟩:∃b,onlyB ⟨5,cs,rv,rok,nm⟩ false false=b:=⟨_,rfl⟩;have T:=Lib.hid (TO.out false false);rw [ho1] at HDO T;by_cases hq:o1=true∧cl=true
    ·obtain ⟨rfl,rfl⟩:=hq
     have hr:Hid (lo=some l):=by show _=_; rw [← HDO.out]; simp
     go_upto_region 10 with fail
     have Xx0:=ext_cell _ _ ((ltR R0x)) _ x0;have Xx1:=ext_cell _ _ ((ltR R0x)) _ x1;have Xx2:=ext_cell _ _ ((ltR R0x)) _ x2;have Xr0:=ext_cell _ _ ((ltR R1x)) _ r0;have Xr1:=ext_cell _ _ ((ltR R1x)) _ r1;have Xr2:=ext_cell _ _ ((ltR R1x)) _ r2;have Xr3:=ext_cell _ _ ((ltR R1x)) _ r3;have Xr4:=ext_cell _ _ ((ltR R1x)) _ r4;have Xy0:=ext_cell _ _ ((ltR Rx)) _ y0;have Xy1:=ext_cell _ _ ((ltR Rx)) _ y1;have Xy2:=ext_cell _ _ ((ltR Rx)) _ y2;clear x0 x1 x2 r0 r1 r2 r3 r4 y0 y1 y2;refine wp_region_ext Wx (by kernel_rfl) (by kernel_rfl) (Below.refl _ _) ?_
     repeat (go_big_quiet_step (first | (go_at_call 107; with_reducible exact calls_ext (T.out _))))
     refine wpQuiet_nil ?_;intro _ hw';obtain ⟨n9,rfl⟩:=hw';have HB9:=Lib.hid n9.below;generalize n9.wd=w9 at *;clear Xx0 Xx1 Xx2 Xr0 Xr1 Xr2 Xr3 Xr4 Xy0 Xy1 Xy2;go_wp2_with fail;refine bodyPost_ret (v:=.tuple #[.slice (some ⟨b,off,none⟩) l.length cap,.bool true]) (by simp [results,Try.results106,go_sem]) rfl ?_;exact HSAME.out hr.out _ _ HB9.out rfl
    have hr:Hid (lo=none):=by show _=_; rw [← HDO.out]; simp [hq]
    cases o1 <;> cases cl <;> first | exact absurd ⟨rfl,rfl⟩ hq | skip
    all_goals (
     go_upto_region 10 with fail
     have Xx0:=ext_cell _ _ ((ltR R0x)) _ x0;have Xx1:=ext_cell _ _ ((ltR R0x)) _ x1;have Xx2:=ext_cell _ _ ((ltR R0x)) _ x2;have Xr0:=ext_cell _ _ ((ltR R1x)) _ r0;have Xr1:=ext_cell _ _ ((ltR R1x)) _ r1;have Xr2:=ext_cell _ _ ((ltR R1x)) _ r2;have Xr3:=ext_cell _ _ ((ltR R1x)) _ r3;have Xr4:=ext_cell _ _ ((ltR R1x)) _ r4;have Xy0:=ext_cell _ _ ((ltR Rx)) _ y0;have Xy1:=ext_cell _ _ ((ltR Rx)) _ y1;have Xy2:=ext_cell _ _ ((ltR Rx)) _ y2;clear x0 x1 x2 r0 r1 r2 r3 r4 y0 y1 y2;refine wp_region_ext Wx (by kernel_rfl) (by kernel_rfl) (Below.refl _ _) ?_
     repeat (go_big_quiet_step (first | (go_at_call 107; with_reducible exact calls_ext (T.out _))))
     refine wpQuiet_nil ?_;intro _ hw';obtain ⟨n9,rfl⟩:=hw';have HB9:=Lib.hid n9.below;generalize n9.wd=w9 at *;clear Xx0 Xx1 Xx2 Xr0 Xr1 Xr2 Xr3 Xr4 Xy0 Xy1 Xy2;go_wp2_with fail;refine bodyPost_ret (v:=.tuple #[.slice (some ⟨b,off,none⟩) l.length cap,.bool false]) (by simp [results,Try.results106,go_sem]) rfl ?_;exact HNONE.out hr.out _ _ _ HB9.out rfl)
  have k5b:(kd == 5)=false:=by simpa using k5
  by_cases k2:kd=2
  ·subst k2
   cases sd with
   | true=>
    have hr:Hid (lo=none):=by show _=_; rw [← HDO.out]; simp
    go_wp2;refine bodyPost_ret (v:=.tuple #[.slice none 0 0,.bool false]) (by simp [results,Try.results106,go_sem]) rfl ?_;exact HNONE.out hr.out _ _ _ (Below.refl _ _) rfl
   | false=>
    cases rok with
    | true=>
     obtain ⟨o1,ho1⟩:∃b,onlyB ⟨2,cs,rv,true,nm⟩ true false=b:=⟨_,rfl⟩;have T:=Lib.hid (TO.out true false);rw [ho1] at HDO T;cases bf with
     | nil=>
      have hr:Hid (lo=none):=by show _=_; rw [← HDO.out]; simp
      simp only [List.length_nil] at y1;cases o1
      all_goals (
       go_upto_region 12 with fail
       have Xx0:=ext_cell _ _ ((ltR R0x)) _ x0;have Xx1:=ext_cell _ _ ((ltR R0x)) _ x1;have Xx2:=ext_cell _ _ ((ltR R0x)) _ x2;have Xr0:=ext_cell _ _ ((ltR R1x)) _ r0;have Xr1:=ext_cell _ _ ((ltR R1x)) _ r1;have Xr2:=ext_cell _ _ ((ltR R1x)) _ r2;have Xr3:=ext_cell _ _ ((ltR R1x)) _ r3;have Xr4:=ext_cell _ _ ((ltR R1x)) _ r4;have Xy0:=ext_cell _ _ ((ltR Rx)) _ y0;have Xy1:=ext_cell _ _ ((ltR Rx)) _ y1;have Xy2:=ext_cell _ _ ((ltR Rx)) _ y2;clear x0 x1 x2 r0 r1 r2 r3 r4 y0 y1 y2;refine wp_region_ext Wx (by kernel_rfl) (by kernel_rfl) (Below.refl _ _) ?_
       repeat (go_big_quiet_step (first | (go_at_call 107; with_reducible exact calls_ext (T.out _))))
       refine wpQuiet_nil ?_;intro _ hw';obtain ⟨n9,rfl⟩:=hw';have HB9:=Lib.hid n9.below;generalize n9.wd=w9 at *;clear Xx0 Xx1 Xx2 Xr0 Xr1 Xr2 Xr3 Xr4 Xy0 Xy1 Xy2;go_wp2_with fail;refine bodyPost_ret (v:=.tuple #[.slice none 0 0,.bool false]) (by simp [results,Try.results106,go_sem]) rfl ?_;exact HNONE.out hr.out _ _ _ HB9.out rfl)
     | cons yb bt=>
      obtain ⟨b2,off2,cap2,e2,hcp,hb2,hcc2⟩:=HUx.out.open (by simp);simp only [Value.slice.injEq] at e2;obtain ⟨rfl,-,rfl⟩:=e2;have q0:=hcc2 0 (by simp);simp only [Nat.add_zero,List.getD_cons_zero] at q0;simp only [List.length_cons] at y1;have hbl2:bt.length+1≤999999:=by simpa using hbl
      have h01:(((bt.length+1:Nat):Int) == 0)=false:=by simp; omega
      have h02:((bt.length:Int)+1 == 0)=false:=by simp; omega
      have h03:(0:Int)<(bt.length:Int)+1:=by omega
      obtain ⟨b3,off3,e3,hb3⟩:=HUb.out (by simp);simp only [Option.some.injEq,Addr.mk.injEq] at e3;obtain ⟨rfl,rfl,-⟩:=e3;have hbX:b2≠X:=by omega
      clear hcc2 hb3 HUb;cases o1 with
      | false=>
       have hr:Hid (lo=none):=by show _=_; rw [← HDO.out]; simp
       go_upto_region 12 with fail
       have Xx0:=ext_cell _ _ ((ltR R0x)) _ x0;have Xx1:=ext_cell _ _ ((ltR R0x)) _ x1;have Xx2:=ext_cell _ _ ((ltR R0x)) _ x2;have Xr0:=ext_cell _ _ ((ltR R1x)) _ r0;have Xr1:=ext_cell _ _ ((ltR R1x)) _ r1;have Xr2:=ext_cell _ _ ((ltR R1x)) _ r2;have Xr3:=ext_cell _ _ ((ltR R1x)) _ r3;have Xr4:=ext_cell _ _ ((ltR R1x)) _ r4;have Xy0:=ext_cell _ _ ((ltR Rx)) _ y0;have Xy1:=ext_cell _ _ ((ltR Rx)) _ y1;have Xy2:=ext_cell _ _ ((ltR Rx)) _ y2;have Xq0:=ext_cell _ _ (hb2) _ q0;clear x0 x1 x2 r0 r1 r2 r3 r4 y0 y1 y2 q0;refine wp_region_ext Wx (by kernel_rfl) (by kernel_rfl) (Below.refl _ _) ?_
       repeat (go_big_quiet_step (first | (go_at_call 107; with_reducible exact calls_ext (T.out _))))
       refine wpQuiet_nil ?_;intro _ hw';obtain ⟨n9,rfl⟩:=hw';have HB9:=Lib.hid n9.below;generalize n9.wd=w9 at *;clear Xx0 Xx1 Xx2 Xr0 Xr1 Xr2 Xr3 Xr4 Xy0 Xy1 Xy2 Xq0;go_wp2_with fail;refine bodyPost_ret (v:=.tuple #[.slice none 0 0,.bool false]) (by simp [results,Try.results106,go_sem]) rfl ?_;exact HNONE.out hr.out _ _ _ HB9.out rfl
      | true=>
       by_cases hyr:yb=rv
       ·subst hyr
        have hr:Hid (lo=some (l.set i ⟨cc,bt,cl⟩)):=by
         show _=_;rw [← HDO.out];simp [setE]
        go_upto_region 12 with fail
        have Xx0:=ext_cell _ _ ((ltR R0x)) _ x0;have Xx1:=ext_cell _ _ ((ltR R0x)) _ x1;have Xx2:=ext_cell _ _ ((ltR R0x)) _ x2;have Xr0:=ext_cell _ _ ((ltR R1x)) _ r0;have Xr1:=ext_cell _ _ ((ltR R1x)) _ r1;have Xr2:=ext_cell _ _ ((ltR R1x)) _ r2;have Xr3:=ext_cell _ _ ((ltR R1x)) _ r3;have Xr4:=ext_cell _ _ ((ltR R1x)) _ r4;have Xy0:=ext_cell _ _ ((ltR Rx)) _ y0;have Xy1:=ext_cell _ _ ((ltR Rx)) _ y1;have Xy2:=ext_cell _ _ ((ltR Rx)) _ y2;have Xq0:=ext_cell _ _ (hb2) _ q0;clear x0 x1 x2 r0 r1 r2 r3 r4 y0 y1 y2 q0;refine wp_region_ext Wx (by kernel_rfl) (by kernel_rfl) (Below.refl _ _) ?_
        repeat (go_big_quiet_step (first | (go_at_call 107; with_reducible exact calls_ext (T.out _))))
        refine wpQuiet_nil ?_;intro _ hw';obtain ⟨n9,rfl⟩:=hw';have HB9:=Lib.hid n9.below;generalize n9.wd=w9 at *;clear Xx0 Xx1 Xx2 Xr0 Xr1 Xr2 Xr3 Xr4 Xy0 Xy1 Xy2 Xq0;have R9:=keepR HB9.out Rx;have C9:=keepR HB9.out R0x;have U9:=Lib.hid (HUx.out.below HB9.out);have ff:=frozen_of_row w9 X 1 _ _ R9.out;obtain ⟨z0,z1,z2⟩:=rowc3 R9.out;simp only [List.length_cons] at z1;obtain ⟨pa,hpa⟩:∃pa,(if uc=1 then some (⟨b2,off2,none⟩:Addr) else some ⟨b2,off2+1,none⟩)=pa:=⟨_,rfl⟩;have HS9:Hid (SlI w9 .u64 (.slice pa bt.length (uc - 1)) bt):=by
         show SlI _ _ _ _;rw [← hpa];split
         ·have hbt:bt=[]:=List.length_eq_zero_iff.1 (by simp at hcp; omega)
          subst hbt;exact ⟨by simp,by simp,_,_,rfl,Nat.zero_le _,fun t ht=>by simp at ht⟩
         ·exact U9.out.tail1
        have HF9:Hid (fineB w9 (.slice pa bt.length (uc - 1))):=by
         have hf:=HFU.out.below (below_then HBx9.out HB9.out);intro a n c e;rw [← hpa] at e;rcases hf _ _ _ rfl with h0 | h0
         ·simp at h0
         ·split at e <;> (cases e; exact .inr h0)
        have HO9:Hid (offB X (.slice pa bt.length (uc - 1))):=by
         intro a n c e;rw [← hpa] at e;refine .inr ?_;split at e
         ·cases e; exact hbX
         ·cases e; exact hbX
        have HPA:=Lib.hid hpa;clear hpa;go_upto_region 15 with fail
        rw [HPA.out];clear z0 z1 z2 ff;obtain ⟨u4,hu4⟩:∃u4,w9.setCell ⟨X,1,none⟩ (.slice pa bt.length (uc - 1))=u4:=⟨_,rfl⟩;have HR4:Hid (u4.heap[X]?=some (.cells #[.int .i64 cc,.slice pa bt.length (uc - 1),.bool cl] 63 (0,0))):=by
         rw [← hu4];have r1:=heap_setCell_same w9 X 1 _ _ (.slice pa bt.length (uc - 1)) R9.out;simp at r1;exact r1
        have HC4:Hid (u4.heap[w.heap.size]?=some (.cells #[.bool false,.int .i64 i,.int .u64 vl] 58 (0,0))):=by
         rw [← hu4];exact (heap_setCell_other w9 ⟨X,1,none⟩ w.heap.size (.slice pa bt.length (uc - 1)) (by show w.heap.size≠X; omega)).trans C9.out
        have HB4:Hid (Below w.heap.size w u4):=by
         rw [← hu4];exact (below_then HBX.out HB9.out).setCell (p:=⟨X,1,none⟩) (by show w.heap.size≤X; omega) (.slice pa bt.length (uc - 1))
        have HS4:Hid (SlU u4 (.slice pa bt.length (uc - 1)) (bt)):=by
         rw [← hu4];exact ⟨HS9.out.grown (grownBy_setCell w9 ⟨X,1,none⟩ (.slice pa bt.length (uc - 1))) HO9.out,HF9.out.setCell _ _⟩
        rw [hu4];clear hu4;obtain ⟨z0,z1,z2⟩:=rowc3 HR4.out;obtain ⟨x0,x1,x2⟩:=rowc3 HC4.out;have T5:=TS.out ⟨cc,bt,cl⟩ (.slice pa bt.length (uc - 1)) u4 HB4.out HS4.out HCW.out;dsimp only at T5;have T5':=Lib.hid T5;clear T5;go_wp2_with fail;refine T5'.out.mono ?_; rintro e u5 ⟨v5,rfl,hs5,hb5⟩;have HB5:=Lib.hid (below_then HB4.out hb5);have HS5:=Lib.hid hs5;clear z0 z1 z2 x0 x1 x2 hb5 hs5 T5';go_wp2_with fail;refine bodyPost_ret (v:=.tuple #[v5,.bool true]) (by simp [results,Try.results106,go_sem]) rfl ?_;exact ⟨v5,true,rfl,.inl ⟨_,hr.out,rfl,HS5.out⟩,HB5.out⟩
       ·have hyb:(yb == rv)=false:=by simpa using hyr
        have hyn:(yb != rv)=true:=by simpa using hyr
        have hr:Hid (lo=none):=by show _=_; rw [← HDO.out]; simp [hyr]
        go_upto_region 12 with fail
        have Xx0:=ext_cell _ _ ((ltR R0x)) _ x0;have Xx1:=ext_cell _ _ ((ltR R0x)) _ x1;have Xx2:=ext_cell _ _ ((ltR R0x)) _ x2;have Xr0:=ext_cell _ _ ((ltR R1x)) _ r0;have Xr1:=ext_cell _ _ ((ltR R1x)) _ r1;have Xr2:=ext_cell _ _ ((ltR R1x)) _ r2;have Xr3:=ext_cell _ _ ((ltR R1x)) _ r3;have Xr4:=ext_cell _ _ ((ltR R1x)) _ r4;have Xy0:=ext_cell _ _ ((ltR Rx)) _ y0;have Xy1:=ext_cell _ _ ((ltR Rx)) _ y1;have Xy2:=ext_cell _ _ ((ltR Rx)) _ y2;have Xq0:=ext_cell _ _ (hb2) _ q0;clear x0 x1 x2 r0 r1 r2 r3 r4 y0 y1 y2 q0;refine wp_region_ext Wx (by kernel_rfl) (by kernel_rfl) (Below.refl _ _) ?_
        repeat (go_big_quiet_step (first | (go_at_call 107; with_reducible exact calls_ext (T.out _))))
        refine wpQuiet_nil ?_;intro _ hw';obtain ⟨n9,rfl⟩:=hw';have HB9:=Lib.hid n9.below;generalize n9.wd=w9 at *;clear Xx0 Xx1 Xx2 Xr0 Xr1 Xr2 Xr3 Xr4 Xy0 Xy1 Xy2 Xq0;go_wp2_with fail;refine bodyPost_ret (v:=.tuple #[.slice none 0 0,.bool false]) (by simp [results,Try.results106,go_sem]) rfl ?_;exact HNONE.out hr.out _ _ _ HB9.out rfl
    | false=>
     obtain ⟨o1,ho1⟩:∃b,onlyB ⟨2,cs,rv,false,nm⟩ true false=b:=⟨_,rfl⟩;have T:=Lib.hid (TO.out true false);rw [ho1] at HDO T;obtain ⟨z1,hz1⟩:∃b,(rv == 0)=b:=⟨_,rfl⟩;obtain ⟨z2,hz2⟩:∃b,((bf.length:Int) == 0)=b:=⟨_,rfl⟩;have hzz:lo=if o1=true∧z1=true∧cl=true∧z2=true then some l else none:=by
      rw [← HDO.out,← hz1,← hz2];simp
     have HZZ:=Lib.hid hzz;clear hzz HDO;cases o1 <;> cases z1 <;> cases cl <;> cases z2
     all_goals (
      go_upto_region 17 with fail
      have Xx0:=ext_cell _ _ ((ltR R0x)) _ x0;have Xx1:=ext_cell _ _ ((ltR R0x)) _ x1;have Xx2:=ext_cell _ _ ((ltR R0x)) _ x2;have Xr0:=ext_cell _ _ ((ltR R1x)) _ r0;have Xr1:=ext_cell _ _ ((ltR R1x)) _ r1;have Xr2:=ext_cell _ _ ((ltR R1x)) _ r2;have Xr3:=ext_cell _ _ ((ltR R1x)) _ r3;have Xr4:=ext_cell _ _ ((ltR R1x)) _ r4;have Xy0:=ext_cell _ _ ((ltR Rx)) _ y0;have Xy1:=ext_cell _ _ ((ltR Rx)) _ y1;have Xy2:=ext_cell _ _ ((ltR Rx)) _ y2;clear x0 x1 x2 r0 r1 r2 r3 r4 y0 y1 y2;refine wp_region_ext Wx (by kernel_rfl) (by kernel_rfl) (Below.refl _ _) ?_
      repeat (go_big_quiet_step (first | (go_at_call 107; with_reducible exact calls_ext (T.out _))))
      refine wpQuiet_nil ?_;intro _ hw';obtain ⟨n9,rfl⟩:=hw';have HB9:=Lib.hid n9.below;generalize n9.wd=w9 at *;clear Xx0 Xx1 Xx2 Xr0 Xr1 Xr2 Xr3 Xr4 Xy0 Xy1 Xy2;go_wp2_with fail
      first
       | (refine bodyPost_ret (v:=.tuple #[.slice (some ⟨b,off,none⟩) l.length cap,.bool true]) (by simp [results,Try.results106,go_sem]) rfl ?_; exact HSAME.out HZZ.out _ _ HB9.out rfl)
       | (refine bodyPost_ret (v:=.tuple #[.slice (some ⟨b,off,none⟩) l.length cap,.bool false]) (by simp [results,Try.results106,go_sem]) rfl ?_; exact HNONE.out HZZ.out _ _ _ HB9.out rfl))
  have k2b:(kd == 2)=false:=by simpa using k2
  have hr:Hid (lo=none):=by show _=_; rw [← HDO.out]; simp [k1,k5,k2]
  go_wp2;refine bodyPost_ret (v:=.tuple #[.slice none 0 0,.bool false]) (by simp [results,Try.results106,go_sem]) rfl ?_;exact HNONE.out hr.out _ _ _ (Below.refl _ _) rfl
theorem exB_nat {l:List ChanM} {n:Int} (h:exB l n=true):∃i:Nat,n=i∧i<l.length∧chE l n=l.getD i noChan:=by
 unfold exB at h;simp only [Bool.and_eq_true,decide_eq_true_eq] at h;exact ⟨n.toNat,by omega,by omega,rfl⟩
theorem cell_of_block {a b:World} {j o:Nat} (h:b.heap[j]?=a.heap[j]?):b.cell? ⟨j,o,none⟩=a.cell? ⟨j,o,none⟩:=by
 unfold World.cell?;rw [h]
theorem AllReadyU.freeG {P:Program} {md:Region.Mode} {Q:Exit→Act→World→Prop} {S:World→Prop} {k:Nat} {l:List Oper} {fuel:Nat} {listed:Array Bool} {a:Act} {w:World} {i:Nat} {o:Oper} {rs:List Nat} (ho:ListAt l i o)
  (hk:(listed.setIfInBounds i true).getD k true=true)
  (h:∀K':Act→World→Prop,ShutU (∀a w,wpAnyU P md l.toArray Q S k fuel (listed.setIfInBounds i true) a w→K' a w)→if Region.wanted o (yielded l.toArray a.tmps)=true then Oper.wp P o a w K' Q else K' (a.put o.dst undef) w)
  (hs:AllReadyU P md l.toArray Q S k fuel listed a w rs):AllReadyU P md l.toArray Q S k fuel listed a w (i :: rs):=fun j hj=>by
 rcases List.mem_cons.1 hj with rfl | hj
 ·exact wpOp_step ho.get (fun K' hK=>h K' (fun a w hW=>hK a w ⟨fun h0=>(by rw [hk] at h0; cases h0),hW⟩))
 ·exact hs j hj
def ChosQ (lc:Option CaseM) (w:World) (e:Ending) (w':World):Prop:=∃x b,e=.returned (.tuple #[caseW x,.bool b])∧((b=true∧lc=some x)∨(b=false∧lc=none))∧Below w.heap.size w w'
set_option maxRecDepth 100000 in
set_option maxHeartbeats 16000000 in
theorem mchosen_any (v:Value) (op:OpM) (r:ResM) (w:World) (h:OpV w v op):Calls Try.prog 105 #[v,resW r] w (ChosQ (chosenE op r) w):=by
 have TS:=Lib.hid fun w' (hb:Below w.heap.size w w')=>rsingle_any v op w' (h.below hb);obtain ⟨vc,vd,rfl,hc,hd⟩:=h;obtain ⟨lc,hlc⟩:∃l,chosenE op r=l:=⟨_,rfl⟩;rw [hlc];have HLC:=Lib.hid hlc;clear hlc;obtain ⟨kd,md,ch,vl,dl,cs,ds⟩:=op;obtain ⟨rk,rc,rv,rok,nm⟩:=r;unfold resW;dsimp only at *;obtain ⟨a3,cap3,rfl⟩:=hc.len;obtain ⟨a4,cap4,rfl,-⟩:=hd.len;have HSC:=Lib.hid fun w' (hb:Below w.heap.size w w')=>hc.below hb;have hlb:=hc.1;clear hc hd;obtain ⟨W,hW,HB,R0,R1,R2,hz⟩:=three_new w (.cells #[.int .i64 kd,.int .i64 md,.int .i64 ch,.int .u64 vl,.int .i64 dl,.slice a3 cs.length cap3,.slice a4 ds.length cap4] 44) (.cells #[.int .i64 rk,.int .i64 rc,.int .u64 rv,.bool rok,.int .i64 nm] 73) (.cells #[.bool false,.int .i64 0,.int .u64 0] 58);have HW:=Lib.hid hW;clear hW;go_enter Try.func105,Try.ntmps105;go_upto_region 1 with fail
 rw [HW.out];clear HW;obtain ⟨x0_0,x0_1,x0_2,x0_3,x0_4,x0_5,x0_6⟩:=rowc7 R0.out;obtain ⟨x1_0,x1_1,x1_2,x1_3,x1_4⟩:=rowc5 R1.out;by_cases h4:kd=4
 ·subst h4
  have HL:Hid (lc=if rc<0∨(cs.length:Int)≤rc then none else some (cs.getD rc.toNat noCase)):=by
   show _=_;rw [← HLC.out];unfold chosenE;rw [if_pos rfl]
  clear HLC TS;by_cases h0:rc<0
  ·have hl:lc=none:=by rw [HL.out,if_pos (.inl h0)]
   subst hl;go_wp2_with (refine wpList_store_row rfl 58 _ _ rfl (w.heap.size+2) _ rfl rfl 58 _ R2.out (by kernel_rfl) rfl (by simp [Value.oneCell']) ?_);refine bodyPost_ret (v:=.tuple #[.agg #[.bool false,.int .i64 0,.int .u64 0],.bool false]) (results_cell_tmp Try.results105 _ _ (w.heap.size+2) 58 _ (0,0) _ rfl (setRow_heap _ _ _ _ 58 (0,0) R2.out) Try.underlying58 rfl (by kernel_rfl) _ rfl) rfl ?_;unfold ChosQ;exact ⟨noCase,false,rfl,.inr ⟨rfl,rfl⟩,row_below HB.out (by omega) _⟩
  by_cases h1:(cs.length:Int)≤rc
  ·have hl:lc=none:=by rw [HL.out,if_pos (.inr h1)]
   subst hl;go_wp2_with (refine wpList_store_row rfl 58 _ _ rfl (w.heap.size+2) _ rfl rfl 58 _ R2.out (by kernel_rfl) rfl (by simp [Value.oneCell']) ?_);refine bodyPost_ret (v:=.tuple #[.agg #[.bool false,.int .i64 0,.int .u64 0],.bool false]) (results_cell_tmp Try.results105 _ _ (w.heap.size+2) 58 _ (0,0) _ rfl (setRow_heap _ _ _ _ 58 (0,0) R2.out) Try.underlying58 rfl (by kernel_rfl) _ rfl) rfl ?_;unfold ChosQ;exact ⟨noCase,false,rfl,.inr ⟨rfl,rfl⟩,row_below HB.out (by omega) _⟩
  have hl:lc=some (cs.getD rc.toNat noCase):=by rw [HL.out,if_neg (by omega)]
  obtain ⟨i,hi⟩:∃i:Nat,rc=(i:Int):=⟨rc.toNat,by omega⟩;have hil:i<cs.length:=by omega
  have hiI:(i:Int)<(cs.length:Int):=by omega
  have hnl:¬(cs.length:Int)≤(i:Int):=by omega
  rw [hi,Int.toNat_natCast] at hl;obtain ⟨-,-,a',cap',hve,-,hcell⟩:=HSC.out W HB.out;simp only [Value.slice.injEq,true_and] at hve;obtain ⟨rfl,rfl⟩:=hve;obtain ⟨b,off,rfl,hbl,hca⟩:=hcell i hil;obtain ⟨⟨s1,s2,s3⟩,hx⟩:∃x,cs.getD i noCase=x:=⟨_,rfl⟩;rw [hx] at hca hl;obtain ⟨c0,c1,c2⟩:=hca;dsimp only at c0 c1 c2;rw [hi] at x1_1;subst hl;clear hcell hx HL HSC h0 h1;rw [hi];clear hi;go_wp2_with (refine wpList_store_row rfl 58 _ _ rfl (w.heap.size+2) _ rfl rfl 58 _ R2.out (by kernel_rfl) rfl (by simp [Value.oneCell']) ?_);refine bodyPost_ret (v:=.tuple #[.agg #[.bool s1,.int .i64 s2,.int .u64 s3],.bool true]) (results_cell_tmp Try.results105 _ _ (w.heap.size+2) 58 _ (0,0) _ rfl (setRow_heap _ _ _ _ 58 (0,0) R2.out) Try.underlying58 rfl (by kernel_rfl) _ rfl) rfl ?_;unfold ChosQ;exact ⟨⟨s1,s2,s3⟩,true,rfl,.inl ⟨rfl,rfl⟩,row_below HB.out (by omega) _⟩
 have hq4:(kd == 4)=false:=by simpa using h4
 obtain ⟨sb,hsb⟩:∃b,sgB ⟨kd,md,ch,vl,dl,cs,ds⟩=b:=⟨_,rfl⟩;obtain ⟨⟨s1,s2,s3⟩,hsc⟩:∃c,sgC ⟨kd,md,ch,vl,dl,cs,ds⟩=c:=⟨_,rfl⟩;rw [hsb,hsc] at TS;have HL:Hid (lc=if sb=true∧rc=-1 then some ⟨s1,s2,s3⟩ else none):=by
  show _=_;rw [← HLC.out];unfold chosenE;rw [if_neg h4];show (if oneB _=true∧rc=-1 then some (oneC _) else none)=_;rw [← hsb,← hsc];rfl
 unfold caseW at TS;dsimp only at TS;clear hsb hsc HLC h4 HSC;go_wp2_with fail;refine (TS.out _ HB.out).mono ?_; rintro e w1 ⟨rfl,hb1⟩;have HB1:=Lib.hid (below_then HB.out hb1);have R1b:=keepR hb1 R1;have R2b:=keepR hb1 R2;clear x0_0 x0_1 x0_2 x0_3 x0_4 x0_5 x0_6 x1_0 x1_1 x1_2 x1_3 x1_4 hb1 hq4 TS;obtain ⟨Wx,hWx⟩:∃Wx,(w1.alloc (.cells #[.bool false,.int .i64 0,.int .u64 0] 58)).setRow w1.heap.size #[.bool s1,.int .i64 s2,.int .u64 s3]=Wx:=⟨_,rfl⟩;have Nx:Hid ((w1.alloc (.cells #[.bool false,.int .i64 0,.int .u64 0] 58)).heap[w1.heap.size]?=some (.cells #[.bool false,.int .i64 0,.int .u64 0] 58 (0,0))):=heap_alloc_new _ _;have HBx:Hid (Below w1.heap.size w1 Wx):=hWx▸row_below (below_new (Below.refl _ _) _) (Nat.le_refl _) _;have Rx:Hid (Wx.heap[w1.heap.size]?=some (.cells #[.bool s1,.int .i64 s2,.int .u64 s3] 58 (0,0))):=hWx▸setRow_heap _ _ _ _ _ (0,0) Nx.out;have HWx:=Lib.hid hWx;clear hWx;go_upto_region 6 with (refine wpList_store_row rfl 58 _ _ rfl (w1.heap.size) _ rfl rfl 58 _ Nx.out (by kernel_rfl) rfl (by simp [Value.oneCell']) ?_)
 rw [HWx.out];try simp only [Act.put]
 clear HWx Nx;obtain ⟨X,hX⟩:∃X,w1.heap.size=X:=⟨_,rfl⟩;rw [hX] at Rx;rw [hX];clear hX;have HBX:=Lib.hid (below_then HB1.out HBx.out);have R1c:=keepR HBx.out R1b;have R2c:=keepR HBx.out R2b;obtain ⟨bq,hbq⟩:∃b,(rc == -1)=b:=⟨_,rfl⟩;have HL2:Hid (lc=if sb=true∧bq=true then some ⟨s1,s2,s3⟩ else none):=by
  show _=_;rw [HL.out,← hbq];simp
 clear HL;have KSx:Hid (∀w',Below Wx.heap.size Wx w'→(fun w':World=>w'.cell? ⟨X,0,none⟩=some (.bool s1)∧w'.cell? ⟨X,1,none⟩=some (.int .i64 s2)∧w'.cell? ⟨X,2,none⟩=some (.int .u64 s3)∧w'.cell? ⟨w.heap.size+1,1,none⟩=some (.int .i64 rc)) w'):=fun w' hb=>by
  obtain ⟨z0,z1,z2⟩:=rowc3 ((hb.block X (ltR Rx)).trans Rx.out);obtain ⟨-,q1,-⟩:=rowc5 ((hb.block (w.heap.size+1) (ltR R1c)).trans R1c.out);exact ⟨z0,z1,z2,q1⟩
 have hfin:∀(u9:World),Below Wx.heap.size Wx u9→∀b,(b=(sb && bq))→ChosQ lc w (.returned (.tuple #[caseW ⟨s1,s2,s3⟩,.bool b])) (u9.setRow (w.heap.size+2) #[.bool s1,.int .i64 s2,.int .u64 s3]):=fun u9 hb b hbe=>by
  refine ⟨⟨s1,s2,s3⟩,b,rfl,?_,row_below (below_then HBX.out hb) (by omega) _⟩;rw [HL2.out,hbe];cases sb <;> cases bq <;> simp
 have HFIN:=Lib.hid hfin;clear hfin HL2;cases sb with
 | true=>
  refine untilK KSx 7 9 (by kernel_rfl) rfl ?_;obtain ⟨u0,hu0,HU0⟩:=drew_pack Wx;rw [hu0];clear hu0;have hSU0:=KSx.out _ HU0.out;apply tkV 0 hSU0 rfl (by kernel_rfl) (fun _ _ _ h=>h) rfl;intro w hSw;(go_simp<;>with_reducible rfl);simp only [J0,J1,J2,J3,J4];apply tkW 1 (fun _=>hSU0) rfl (by kernel_rfl) (fun _ _ _ h=>h) rfl;intro w;(go_simp<;>with_reducible rfl);simp only [J0,J1,J2,J3,J4];apply tkV 2 hSU0 rfl (by kernel_rfl) (fun _ _ _ h=>h) rfl;intro w hSw;(go_simp<;>with_reducible rfl);simp only [J0,J1,J2,J3,J4];refine wpAnyU_ready (rs:=[3,7]) (by kernel_rfl) rfl ?_;refine AllReadyU.consG la3 (fun K hK=>?_) ?_
  ·obtain ⟨d0,d1,d2,d3⟩:=KSx.out _ HU0.out
   go_simp;clear d0 d1 d2 d3;refine hK.out _ _ ?_ fun hSU1=>?_;exact hSU0;clear hK K hSU0;(try simp only [J0,J1,J2,J3,J4]);refine wpAnyU_ready (rs:=[4,7]) (by kernel_rfl) rfl ?_;refine AllReadyU.consG la4 (fun K hK=>?_) ?_
   ·obtain ⟨d0,d1,d2,d3⟩:=KSx.out _ HU0.out
    go_simp;clear d0 d1 d2 d3;refine hK.out _ _ ?_ fun hSU2=>?_;exact hSU1;clear hK K hSU1;(try simp only [J0,J1,J2,J3,J4]);refine wpAnyU_ready (rs:=[5,7]) (by kernel_rfl) rfl ?_;refine AllReadyU.consG la5 (fun K hK=>?_) ?_
    ·obtain ⟨d0,d1,d2,d3⟩:=KSx.out _ HU0.out
     go_simp;clear d0 d1 d2 d3;refine hK.out _ _ ?_ fun hSU3=>?_;exact hSU2;clear hK K hSU2;(try simp only [J0,J1,J2,J3,J4]);apply tkW 6 (fun _=>hSU3) rfl (by kernel_rfl) (fun _ _ _ h=>h) rfl;intro w;(go_simp<;>with_reducible rfl);simp only [J0,J1,J2,J3,J4];refine freeU 7 rfl (by kernel_rfl) rfl (by kernel_rfl) fun K hK=>?_;have ZR:=keepR HU0.out R2c;refine step_store_row rfl 58 _ _ rfl (w.heap.size+2) _ rfl rfl 58 _ ZR.out (by kernel_rfl) rfl (by simp [Value.oneCell']) ?_;refine hK.out _ _ ?_;clear hK K hSU3;(try simp only [J0,J1,J2,J3,J4]);apply tkW 8 (past_k (by kernel_rfl)) rfl (by kernel_rfl) (fun _ _ _ h=>h) rfl;intro w;(go_simp<;>with_reducible rfl);simp only [J0,J1,J2,J3,J4];refine wpAnyU_done (by kernel_rfl) ?_ _;go_wp2_with fail;refine bodyPost_ret (v:=.tuple #[.agg #[.bool s1,.int .i64 s2,.int .u64 s3],.bool bq]) (results_cell_tmp Try.results105 _ _ (w.heap.size+2) 58 _ (0,0) _ rfl (setRow_heap _ _ _ _ 58 (0,0) ZR.out) Try.underlying58 rfl (by kernel_rfl) _ (by first | rfl | simp [hbq])) rfl ?_;exact HFIN.out _ HU0.out _ (by simp)
    refine AllReadyU.free la7 rfl (by kernel_rfl) (fun K hK=>?_) ?_
    ·have ZR:=keepR HU0.out R2c
     refine step_store_row rfl 58 _ _ rfl (w.heap.size+2) _ rfl rfl 58 _ ZR.out (by kernel_rfl) rfl (by simp [Value.oneCell']) ?_;refine hK.out _ _ ?_;clear hK K hSU2;(try simp only [J0,J1,J2,J3,J4]);refine wpAnyU_ready (rs:=[5]) (by kernel_rfl) rfl ?_;refine AllReadyU.freeG la5 (by kernel_rfl) (fun K hK=>?_) ?_
     ·obtain ⟨-,d3,-⟩:=rowc5 ((setRow_other u0 (w.heap.size+2) (w.heap.size+1) #[.bool s1,.int .i64 s2,.int .u64 s3] (by omega)).trans ((HU0.out.block (w.heap.size+1) (ltR R1c)).trans R1c.out))
      go_simp;clear d3;refine hK.out _ _ ?_;clear hK K;(try simp only [J0,J1,J2,J3,J4]);apply tkW 6 (past_k (by kernel_rfl)) rfl (by kernel_rfl) (fun _ _ _ h=>h) rfl;intro w;(go_simp<;>with_reducible rfl);simp only [J0,J1,J2,J3,J4];apply tkW 8 (past_k (by kernel_rfl)) rfl (by kernel_rfl) (fun _ _ _ h=>h) rfl;intro w;(go_simp<;>with_reducible rfl);simp only [J0,J1,J2,J3,J4];refine wpAnyU_done (by kernel_rfl) ?_ _;go_wp2_with fail;refine bodyPost_ret (v:=.tuple #[.agg #[.bool s1,.int .i64 s2,.int .u64 s3],.bool bq]) (results_cell_tmp Try.results105 _ _ (w.heap.size+2) 58 _ (0,0) _ rfl (setRow_heap _ _ _ _ 58 (0,0) ZR.out) Try.underlying58 rfl (by kernel_rfl) _ (by first | rfl | simp [hbq])) rfl ?_;exact HFIN.out _ HU0.out _ (by simp)
     exact AllReadyU.nil
    exact AllReadyU.nil
   refine AllReadyU.free la7 rfl (by kernel_rfl) (fun K hK=>?_) ?_
   ·have ZR:=keepR HU0.out R2c
    refine step_store_row rfl 58 _ _ rfl (w.heap.size+2) _ rfl rfl 58 _ ZR.out (by kernel_rfl) rfl (by simp [Value.oneCell']) ?_;refine hK.out _ _ ?_;clear hK K hSU1;(try simp only [J0,J1,J2,J3,J4]);refine wpAnyU_ready (rs:=[4]) (by kernel_rfl) rfl ?_;refine AllReadyU.freeG la4 (by kernel_rfl) (fun K hK=>?_) ?_
    ·obtain ⟨-,d3,-⟩:=rowc5 ((setRow_other u0 (w.heap.size+2) (w.heap.size+1) #[.bool s1,.int .i64 s2,.int .u64 s3] (by omega)).trans ((HU0.out.block (w.heap.size+1) (ltR R1c)).trans R1c.out))
     go_simp;clear d3;refine hK.out _ _ ?_;clear hK K;(try simp only [J0,J1,J2,J3,J4]);refine wpAnyU_ready (rs:=[5]) (by kernel_rfl) rfl ?_;refine AllReadyU.freeG la5 (by kernel_rfl) (fun K hK=>?_) ?_
     ·obtain ⟨-,d3,-⟩:=rowc5 ((setRow_other u0 (w.heap.size+2) (w.heap.size+1) #[.bool s1,.int .i64 s2,.int .u64 s3] (by omega)).trans ((HU0.out.block (w.heap.size+1) (ltR R1c)).trans R1c.out))
      go_simp;clear d3;refine hK.out _ _ ?_;clear hK K;(try simp only [J0,J1,J2,J3,J4]);apply tkW 6 (past_k (by kernel_rfl)) rfl (by kernel_rfl) (fun _ _ _ h=>h) rfl;intro w;(go_simp<;>with_reducible rfl);simp only [J0,J1,J2,J3,J4];apply tkW 8 (past_k (by kernel_rfl)) rfl (by kernel_rfl) (fun _ _ _ h=>h) rfl;intro w;(go_simp<;>with_reducible rfl);simp only [J0,J1,J2,J3,J4];refine wpAnyU_done (by kernel_rfl) ?_ _;go_wp2_with fail;refine bodyPost_ret (v:=.tuple #[.agg #[.bool s1,.int .i64 s2,.int .u64 s3],.bool bq]) (results_cell_tmp Try.results105 _ _ (w.heap.size+2) 58 _ (0,0) _ rfl (setRow_heap _ _ _ _ 58 (0,0) ZR.out) Try.underlying58 rfl (by kernel_rfl) _ (by first | rfl | simp [hbq])) rfl ?_;exact HFIN.out _ HU0.out _ (by simp)
     exact AllReadyU.nil
    exact AllReadyU.nil
   exact AllReadyU.nil
  refine AllReadyU.free la7 rfl (by kernel_rfl) (fun K hK=>?_) ?_
  ·have ZR:=keepR HU0.out R2c
   refine step_store_row rfl 58 _ _ rfl (w.heap.size+2) _ rfl rfl 58 _ ZR.out (by kernel_rfl) rfl (by simp [Value.oneCell']) ?_;refine hK.out _ _ ?_;clear hK K hSU0;(try simp only [J0,J1,J2,J3,J4]);refine wpAnyU_ready (rs:=[3]) (by kernel_rfl) rfl ?_;refine AllReadyU.freeG la3 (by kernel_rfl) (fun K hK=>?_) ?_
   ·obtain ⟨-,d3,-⟩:=rowc5 ((setRow_other u0 (w.heap.size+2) (w.heap.size+1) #[.bool s1,.int .i64 s2,.int .u64 s3] (by omega)).trans ((HU0.out.block (w.heap.size+1) (ltR R1c)).trans R1c.out))
    go_simp;clear d3;refine hK.out _ _ ?_;clear hK K;(try simp only [J0,J1,J2,J3,J4]);refine wpAnyU_ready (rs:=[4]) (by kernel_rfl) rfl ?_;refine AllReadyU.freeG la4 (by kernel_rfl) (fun K hK=>?_) ?_
    ·obtain ⟨-,d3,-⟩:=rowc5 ((setRow_other u0 (w.heap.size+2) (w.heap.size+1) #[.bool s1,.int .i64 s2,.int .u64 s3] (by omega)).trans ((HU0.out.block (w.heap.size+1) (ltR R1c)).trans R1c.out))
     go_simp;clear d3;refine hK.out _ _ ?_;clear hK K;(try simp only [J0,J1,J2,J3,J4]);refine wpAnyU_ready (rs:=[5]) (by kernel_rfl) rfl ?_;refine AllReadyU.freeG la5 (by kernel_rfl) (fun K hK=>?_) ?_
     ·obtain ⟨-,d3,-⟩:=rowc5 ((setRow_other u0 (w.heap.size+2) (w.heap.size+1) #[.bool s1,.int .i64 s2,.int .u64 s3] (by omega)).trans ((HU0.out.block (w.heap.size+1) (ltR R1c)).trans R1c.out))
      go_simp;clear d3;refine hK.out _ _ ?_;clear hK K;(try simp only [J0,J1,J2,J3,J4]);apply tkW 6 (past_k (by kernel_rfl)) rfl (by kernel_rfl) (fun _ _ _ h=>h) rfl;intro w;(go_simp<;>with_reducible rfl);simp only [J0,J1,J2,J3,J4];apply tkW 8 (past_k (by kernel_rfl)) rfl (by kernel_rfl) (fun _ _ _ h=>h) rfl;intro w;(go_simp<;>with_reducible rfl);simp only [J0,J1,J2,J3,J4];refine wpAnyU_done (by kernel_rfl) ?_ _;go_wp2_with fail;refine bodyPost_ret (v:=.tuple #[.agg #[.bool s1,.int .i64 s2,.int .u64 s3],.bool bq]) (results_cell_tmp Try.results105 _ _ (w.heap.size+2) 58 _ (0,0) _ rfl (setRow_heap _ _ _ _ 58 (0,0) ZR.out) Try.underlying58 rfl (by kernel_rfl) _ (by first | rfl | simp [hbq])) rfl ?_;exact HFIN.out _ HU0.out _ (by simp)
     exact AllReadyU.nil
    exact AllReadyU.nil
   exact AllReadyU.nil
  exact AllReadyU.nil
 | false=>
  refine wp_region_until (fun w':World=>w'.cell? ⟨X,0,none⟩=some (.bool s1)∧w'.cell? ⟨X,1,none⟩=some (.int .i64 s2)∧w'.cell? ⟨X,2,none⟩=some (.int .u64 s3)∧w'.cell? ⟨w.heap.size+1,1,none⟩=some (.int .i64 rc)) 7 9 (by kernel_rfl) rfl ?_;obtain ⟨u0,hu0,HU0⟩:=drew_pack Wx;rw [hu0];clear hu0;have hSU0:=KSx.out _ HU0.out;apply tkV 0 hSU0 rfl (by kernel_rfl) (fun _ _ _ h=>h) rfl;intro w hSw;(go_simp<;>with_reducible rfl);simp only [J0,J1,J2,J3,J4];apply tkW 1 (fun _=>hSU0) rfl (by kernel_rfl) (fun _ _ _ h=>h) rfl;intro w;(go_simp<;>with_reducible rfl);simp only [J0,J1,J2,J3,J4];apply tkV 2 hSU0 rfl (by kernel_rfl) (fun _ _ _ h=>h) rfl;intro w hSw;(go_simp<;>with_reducible rfl);simp only [J0,J1,J2,J3,J4];refine wpAnyU_ready (rs:=[3,7]) (by kernel_rfl) rfl ?_;refine AllReadyU.consG la3 (fun K hK=>?_) ?_
  ·obtain ⟨d0,d1,d2,d3⟩:=KSx.out _ HU0.out
   go_simp;clear d0 d1 d2 d3;refine hK.out _ _ ?_ fun hSU1=>?_;exact hSU0;clear hK K hSU0;(try simp only [J0,J1,J2,J3,J4]);refine wpAnyU_ready (rs:=[4,7]) (by kernel_rfl) rfl ?_;refine AllReadyU.consG la4 (fun K hK=>?_) ?_
   ·obtain ⟨d0,d1,d2,d3⟩:=KSx.out _ HU0.out
    go_simp;clear d0 d1 d2 d3;refine hK.out _ _ ?_ fun hSU2=>?_;exact hSU1;clear hK K hSU1;(try simp only [J0,J1,J2,J3,J4]);refine wpAnyU_ready (rs:=[5,7]) (by kernel_rfl) rfl ?_;refine AllReadyU.consG la5 (fun K hK=>?_) ?_
    ·obtain ⟨d0,d1,d2,d3⟩:=KSx.out _ HU0.out
     go_simp;clear d0 d1 d2 d3;refine hK.out _ _ ?_ fun hSU3=>?_;exact hSU2;clear hK K hSU2;(try simp only [J0,J1,J2,J3,J4]);apply tkW 6 (fun _=>hSU3) rfl (by kernel_rfl) (fun _ _ _ h=>h) rfl;intro w;(go_simp<;>with_reducible rfl);simp only [J0,J1,J2,J3,J4];refine freeU 7 rfl (by kernel_rfl) rfl (by kernel_rfl) fun K hK=>?_;have ZR:=keepR HU0.out R2c;refine step_store_row rfl 58 _ _ rfl (w.heap.size+2) _ rfl rfl 58 _ ZR.out (by kernel_rfl) rfl (by simp [Value.oneCell']) ?_;refine hK.out _ _ ?_;clear hK K hSU3;(try simp only [J0,J1,J2,J3,J4]);apply tkW 8 (past_k (by kernel_rfl)) rfl (by kernel_rfl) (fun _ _ _ h=>h) rfl;intro w;(go_simp<;>with_reducible rfl);simp only [J0,J1,J2,J3,J4];refine wpAnyU_done (by kernel_rfl) ?_ _;go_wp2_with fail;refine bodyPost_ret (v:=.tuple #[.agg #[.bool s1,.int .i64 s2,.int .u64 s3],.bool false]) (results_cell_tmp Try.results105 _ _ (w.heap.size+2) 58 _ (0,0) _ rfl (setRow_heap _ _ _ _ 58 (0,0) ZR.out) Try.underlying58 rfl (by kernel_rfl) _ (by first | rfl | simp [hbq])) rfl ?_;exact HFIN.out _ HU0.out _ (by simp)
    refine AllReadyU.free la7 rfl (by kernel_rfl) (fun K hK=>?_) ?_
    ·have ZR:=keepR HU0.out R2c
     refine step_store_row rfl 58 _ _ rfl (w.heap.size+2) _ rfl rfl 58 _ ZR.out (by kernel_rfl) rfl (by simp [Value.oneCell']) ?_;refine hK.out _ _ ?_;clear hK K hSU2;(try simp only [J0,J1,J2,J3,J4]);refine wpAnyU_ready (rs:=[5]) (by kernel_rfl) rfl ?_;refine AllReadyU.freeG la5 (by kernel_rfl) (fun K hK=>?_) ?_
     ·obtain ⟨-,d3,-⟩:=rowc5 ((setRow_other u0 (w.heap.size+2) (w.heap.size+1) #[.bool s1,.int .i64 s2,.int .u64 s3] (by omega)).trans ((HU0.out.block (w.heap.size+1) (ltR R1c)).trans R1c.out))
      go_simp;clear d3;refine hK.out _ _ ?_;clear hK K;(try simp only [J0,J1,J2,J3,J4]);apply tkW 6 (past_k (by kernel_rfl)) rfl (by kernel_rfl) (fun _ _ _ h=>h) rfl;intro w;(go_simp<;>with_reducible rfl);simp only [J0,J1,J2,J3,J4];apply tkW 8 (past_k (by kernel_rfl)) rfl (by kernel_rfl) (fun _ _ _ h=>h) rfl;intro w;(go_simp<;>with_reducible rfl);simp only [J0,J1,J2,J3,J4];refine wpAnyU_done (by kernel_rfl) ?_ _;go_wp2_with fail;refine bodyPost_ret (v:=.tuple #[.agg #[.bool s1,.int .i64 s2,.int .u64 s3],.bool false]) (results_cell_tmp Try.results105 _ _ (w.heap.size+2) 58 _ (0,0) _ rfl (setRow_heap _ _ _ _ 58 (0,0) ZR.out) Try.underlying58 rfl (by kernel_rfl) _ (by first | rfl | simp [hbq])) rfl ?_;exact HFIN.out _ HU0.out _ (by simp)
     exact AllReadyU.nil
    exact AllReadyU.nil
   refine AllReadyU.free la7 rfl (by kernel_rfl) (fun K hK=>?_) ?_
   ·have ZR:=keepR HU0.out R2c
    refine step_store_row rfl 58 _ _ rfl (w.heap.size+2) _ rfl rfl 58 _ ZR.out (by kernel_rfl) rfl (by simp [Value.oneCell']) ?_;refine hK.out _ _ ?_;clear hK K hSU1;(try simp only [J0,J1,J2,J3,J4]);refine wpAnyU_ready (rs:=[4]) (by kernel_rfl) rfl ?_;refine AllReadyU.freeG la4 (by kernel_rfl) (fun K hK=>?_) ?_
    ·obtain ⟨-,d3,-⟩:=rowc5 ((setRow_other u0 (w.heap.size+2) (w.heap.size+1) #[.bool s1,.int .i64 s2,.int .u64 s3] (by omega)).trans ((HU0.out.block (w.heap.size+1) (ltR R1c)).trans R1c.out))
     go_simp;clear d3;refine hK.out _ _ ?_;clear hK K;(try simp only [J0,J1,J2,J3,J4]);refine wpAnyU_ready (rs:=[5]) (by kernel_rfl) rfl ?_;refine AllReadyU.freeG la5 (by kernel_rfl) (fun K hK=>?_) ?_
     ·obtain ⟨-,d3,-⟩:=rowc5 ((setRow_other u0 (w.heap.size+2) (w.heap.size+1) #[.bool s1,.int .i64 s2,.int .u64 s3] (by omega)).trans ((HU0.out.block (w.heap.size+1) (ltR R1c)).trans R1c.out))
      go_simp;clear d3;refine hK.out _ _ ?_;clear hK K;(try simp only [J0,J1,J2,J3,J4]);apply tkW 6 (past_k (by kernel_rfl)) rfl (by kernel_rfl) (fun _ _ _ h=>h) rfl;intro w;(go_simp<;>with_reducible rfl);simp only [J0,J1,J2,J3,J4];apply tkW 8 (past_k (by kernel_rfl)) rfl (by kernel_rfl) (fun _ _ _ h=>h) rfl;intro w;(go_simp<;>with_reducible rfl);simp only [J0,J1,J2,J3,J4];refine wpAnyU_done (by kernel_rfl) ?_ _;go_wp2_with fail;refine bodyPost_ret (v:=.tuple #[.agg #[.bool s1,.int .i64 s2,.int .u64 s3],.bool false]) (results_cell_tmp Try.results105 _ _ (w.heap.size+2) 58 _ (0,0) _ rfl (setRow_heap _ _ _ _ 58 (0,0) ZR.out) Try.underlying58 rfl (by kernel_rfl) _ (by first | rfl | simp [hbq])) rfl ?_;exact HFIN.out _ HU0.out _ (by simp)
     exact AllReadyU.nil
    exact AllReadyU.nil
   exact AllReadyU.nil
  refine AllReadyU.free la7 rfl (by kernel_rfl) (fun K hK=>?_) ?_
  ·have ZR:=keepR HU0.out R2c
   refine step_store_row rfl 58 _ _ rfl (w.heap.size+2) _ rfl rfl 58 _ ZR.out (by kernel_rfl) rfl (by simp [Value.oneCell']) ?_;refine hK.out _ _ ?_;clear hK K hSU0;(try simp only [J0,J1,J2,J3,J4]);refine wpAnyU_ready (rs:=[3]) (by kernel_rfl) rfl ?_;refine AllReadyU.freeG la3 (by kernel_rfl) (fun K hK=>?_) ?_
   ·obtain ⟨-,d3,-⟩:=rowc5 ((setRow_other u0 (w.heap.size+2) (w.heap.size+1) #[.bool s1,.int .i64 s2,.int .u64 s3] (by omega)).trans ((HU0.out.block (w.heap.size+1) (ltR R1c)).trans R1c.out))
    go_simp;clear d3;refine hK.out _ _ ?_;clear hK K;(try simp only [J0,J1,J2,J3,J4]);refine wpAnyU_ready (rs:=[4]) (by kernel_rfl) rfl ?_;refine AllReadyU.freeG la4 (by kernel_rfl) (fun K hK=>?_) ?_
    ·obtain ⟨-,d3,-⟩:=rowc5 ((setRow_other u0 (w.heap.size+2) (w.heap.size+1) #[.bool s1,.int .i64 s2,.int .u64 s3] (by omega)).trans ((HU0.out.block (w.heap.size+1) (ltR R1c)).trans R1c.out))
     go_simp;clear d3;refine hK.out _ _ ?_;clear hK K;(try simp only [J0,J1,J2,J3,J4]);refine wpAnyU_ready (rs:=[5]) (by kernel_rfl) rfl ?_;refine AllReadyU.freeG la5 (by kernel_rfl) (fun K hK=>?_) ?_
     ·obtain ⟨-,d3,-⟩:=rowc5 ((setRow_other u0 (w.heap.size+2) (w.heap.size+1) #[.bool s1,.int .i64 s2,.int .u64 s3] (by omega)).trans ((HU0.out.block (w.heap.size+1) (ltR R1c)).trans R1c.out))
      go_simp;clear d3;refine hK.out _ _ ?_;clear hK K;(try simp only [J0,J1,J2,J3,J4]);apply tkW 6 (past_k (by kernel_rfl)) rfl (by kernel_rfl) (fun _ _ _ h=>h) rfl;intro w;(go_simp<;>with_reducible rfl);simp only [J0,J1,J2,J3,J4];apply tkW 8 (past_k (by kernel_rfl)) rfl (by kernel_rfl) (fun _ _ _ h=>h) rfl;intro w;(go_simp<;>with_reducible rfl);simp only [J0,J1,J2,J3,J4];refine wpAnyU_done (by kernel_rfl) ?_ _;go_wp2_with fail;refine bodyPost_ret (v:=.tuple #[.agg #[.bool s1,.int .i64 s2,.int .u64 s3],.bool false]) (results_cell_tmp Try.results105 _ _ (w.heap.size+2) 58 _ (0,0) _ rfl (setRow_heap _ _ _ _ 58 (0,0) ZR.out) Try.underlying58 rfl (by kernel_rfl) _ (by first | rfl | simp [hbq])) rfl ?_;exact HFIN.out _ HU0.out _ (by simp)
     exact AllReadyU.nil
    exact AllReadyU.nil
   exact AllReadyU.nil
  exact AllReadyU.nil
def closeR (l:List ChanM) (n:Int):ResM:=if exB l n=true∧(fndE l n).closed=false then ⟨6,-1,0,false,0⟩ else ⟨5,-1,0,false,0⟩
def rdvB (l:List ChanM) (x y:CaseM):Bool:=exB l x.chan && (x.chan == y.chan && (x.send != y.send && (decide ((fndE l x.chan).cap≤0) && !(fndE l x.chan).closed)))
section
variable {e:TypeId} {s base:Nat} {w:World} {v:Value} {rows:List (List Value)}
end
theorem resRows_append (a b:List ResM):resRows (a ++ b)=resRows a ++ resRows b:=List.map_append
theorem resRows_rows (l:List ResM):Rows' 5 (resRows l):=fun r hr=>by
 obtain ⟨x,-,rfl⟩:=List.mem_map.1 hr;refine ⟨rfl,fun u hu=>?_⟩;simp only [resL,List.mem_cons,List.not_mem_nil,or_false] at hu;rcases hu with rfl | rfl | rfl | rfl | rfl <;> rfl
theorem SlS.lenR {w:World} {v:Value} {l:List ResM} (h:SlS w 5 v (resRows l)):∃a cap,v=.slice a l.length cap∧l.length≤cap:=by
 obtain ⟨a,cap,rfl,h2⟩:=h.len;rw [resRows_length] at h2 ⊢;exact ⟨a,cap,rfl,h2⟩
theorem OwnS.lenR {w:World} {base:Nat} {e:TypeId} {v:Value} {l:List ResM} (h:OwnS w base e 5 v (resRows l)):∃a cap,v=.slice a l.length cap:=by
 obtain ⟨a,cap,rfl⟩:=h.len;rw [resRows_length];exact ⟨a,cap,rfl⟩
def altR (l:List ChanM) (op:OpM) (i:Nat):List ResM:=match aloneE l ((casesE op).getD i noCase) with | some r=>[⟨r.kind,numE op i,r.val,r.ok,r.num⟩] | none=>[]
def couldAt (l:List ChanM) (op:OpM):Nat→List ResM
 | 0=>[]
 | k+1=>couldAt l op k ++ altR l op k
def couldP (l:List ChanM) (op:OpM):List ResM:=if op.kind=3 then [closeR l op.chan] else couldAt l op (casesE op).length
theorem aloneE_case {l:List ChanM} {x:CaseM} {r:ResM} (h:aloneE l x=some r):r.case=-1:=by
 unfold aloneE aloneC at h;split at h
 ·cases h
 ·split at h
  ·split at h
   ·simp only [Option.some.injEq] at h; rw [← h]
   ·split at h
    ·simp only [Option.some.injEq] at h; rw [← h]
    ·cases h
  ·split at h
   ·simp only [Option.some.injEq] at h; rw [← h]
   ·split at h
    ·simp only [Option.some.injEq] at h; rw [← h]
    ·cases h
theorem Try.info_res:(Try.prog.info? 73).map (fun i=>(i.zero,i.size,i.bytes))=some (some (.agg #[.int .i64 0,.int .i64 0,.int .u64 0,.bool false,.int .i64 0]),5,40):=by kernel_rfl
theorem blockedB_no {l:List ChanM} {op:OpM} {k:Nat} (hk:k<(casesE op).length) (h:readyB l ((casesE op).getD k noCase)=true):blockedB l op=false:=by
 unfold blockedB;rw [List.all_eq_false];rw [List.getD_eq_getElem?_getD,List.getElem?_eq_getElem hk] at h;exact ⟨_,List.getElem_mem hk,by simpa using h⟩
theorem blockedB_yes {l:List ChanM} {op:OpM} (h:∀j,j<(casesE op).length→readyB l ((casesE op).getD j noCase)=false):blockedB l op=true:=by
 unfold blockedB;rw [List.all_eq_true];intro x hx;obtain ⟨j,hj,rfl⟩:=List.mem_iff_getElem.1 hx;have h1:=h j hj;rw [List.getD_eq_getElem?_getD,List.getElem?_eq_getElem hj] at h1;simpa using h1
set_option maxRecDepth 100000 in
set_option maxHeartbeats 16000000 in
theorem mblocked_any (v vo:Value) (l:List ChanM) (op:OpM) (w:World) (hv:SlH w v l) (h:OpV w vo op) (hok:op.chan=IntKind.i64.wrap op.chan∧op.val=IntKind.u64.wrap op.val):Calls Try.prog 109 #[v,vo] w fun e w'=>e=.returned (.bool (blockedB l op))∧Below w.heap.size w w':=by
 have TC:=Lib.hid fun w' (hb:Below w.heap.size w w')=>rcases_any vo op w' (h.below hb) hok;have TR:=Lib.hid fun x w' (hb:Below w.heap.size w w')=>mready_any v l x w' (hv.below hb);have HNO:Hid (∀k,k<(casesE op).length→readyB l ((casesE op).getD k noCase)=true→blockedB l op=false):=fun k hk h=>blockedB_no hk h;have HYES:Hid ((∀j,j<(casesE op).length→readyB l ((casesE op).getD j noCase)=false)→blockedB l op=true):=fun h=>blockedB_yes h;obtain ⟨rb,hrb⟩:∃b,blockedB l op=b:=⟨_,rfl⟩;rw [hrb] at HNO HYES ⊢;obtain ⟨cl,hcl⟩:∃l,casesE op=l:=⟨_,rfl⟩;rw [hcl] at TC HNO HYES;clear hrb hcl;obtain ⟨al,cpl,hve,-⟩:=hv.len;obtain ⟨vc,vd,rfl,hc,hd⟩:=h;obtain ⟨kd,md,ch,vl,dl,cs,ds⟩:=op;dsimp only at *;obtain ⟨a3,cap3,rfl⟩:=hc.len;obtain ⟨a4,cap4,rfl,-⟩:=hd.len;subst hve;clear hc hd hv hok;obtain ⟨W,hW,HB,R0,hz⟩:=one_new w (.cells #[.int .i64 kd,.int .i64 md,.int .i64 ch,.int .u64 vl,.int .i64 dl,.slice a3 cs.length cap3,.slice a4 ds.length cap4] 44);have HW:=Lib.hid hW;clear hW;go_enter Try.func109,Try.ntmps109;go_upto_region 1 with fail
 rw [HW.out];clear HW;obtain ⟨x0_0,x0_1,x0_2,x0_3,x0_4,x0_5,x0_6⟩:=rowc7 R0.out;go_wp2_with fail;refine (TC.out _ HB.out).mono ?_; rintro e w1 ⟨u,rfl,hu,hb1⟩;have HB1:=Lib.hid (below_then HB.out hb1);have HU:=Lib.hid hu;obtain ⟨au,cu,hue⟩:=hu.len;subst hue;have hbl:=hu.1;clear hb1 hu TC;clear x0_0 x0_1 x0_2 x0_3 x0_4 x0_5 x0_6;go_wp2_with fail;go_loopw [6] (fun u6 wr=>∃i:Nat,u6=.int .i64 i∧i≤cl.length∧Hid (∀j,j<i→readyB l (cl.getD j noCase)=false)∧Hid (Below w1.heap.size w1 wr)) (fun u6 _=>cl.length - (intOf u6).toNat)
 case atStart=>exact ⟨0,rfl,by omega,fun j hj=>by omega,Below.refl _ _⟩
 case round=>
  obtain ⟨i,rfl,hi,HN,HBi⟩:=hrel;obtain ⟨wo,rfl⟩:∃wo:World,wo=wr:=⟨_,rfl⟩;by_cases hlt:i<cl.length
  ·have hltI:(i:Int)<(cl.length:Int):=by omega
   obtain ⟨-,-,a',cap',hve,-,hcell⟩:=HU.out.below HBi.out;simp only [Value.slice.injEq,true_and] at hve;obtain ⟨rfl,rfl⟩:=hve;obtain ⟨b,off,rfl,hbb,hca⟩:=hcell i hlt;obtain ⟨⟨s1,s2,s3⟩,hx⟩:∃x,cl.getD i noCase=x:=⟨_,rfl⟩;rw [hx] at hca;obtain ⟨c0,c1,c2⟩:=hca;dsimp only at c0 c1 c2;have HX:=Lib.hid hx;have T:=Lib.hid (TR.out ⟨s1,s2,s3⟩ wo (below_then HB1.out HBi.out));unfold caseW at T;dsimp only at T;obtain ⟨q,hq⟩:∃q,readyB l ⟨s1,s2,s3⟩=q:=⟨_,rfl⟩;rw [hq] at T;have HQ:=Lib.hid hq;clear hcell hx hq;go_wp2_with fail;refine T.out.mono ?_; rintro e w3 ⟨rfl,hb3⟩;have HB3:=Lib.hid (below_then HBi.out hb3);clear c0 c1 c2 hb3 T hbb;cases q with
   | true=>
    have hr:rb=false:=HNO.out i hlt (by rw [HX.out]; exact HQ.out);subst hr;have HBF:=Lib.hid (below_then HB1.out HB3.out);go_wp2;go_ret;exact ⟨rfl,HBF.out⟩
   | false=>
    go_wp2_with fail;go_roundw
    case rel=>exact ⟨i+1,by go_num,by omega,fun j hj=>by
     by_cases e:j=i
     ·rw [e,HX.out]; exact HQ.out
     ·exact HN.out j (by omega),HB3⟩
    case measure=>simp [intOf]; omega
  ·have hge:¬(i:Int)<(cl.length:Int):=by omega
   have hr:rb=true:=HYES.out fun j hj=>HN.out j (by omega);subst hr;have HBF:=Lib.hid (below_then HB1.out HBi.out);go_wp2;go_ret;exact ⟨rfl,HBF.out⟩
end Go.Proofs.Ytiekicailidhcaa
