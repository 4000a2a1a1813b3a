import Derived.StillTailTactics
import Derived.Test.YtifhafjhmjkekaaB09
import Derived.Test.YtifhafjhmjkekaaB08
import Derived.Test.YtifhafjhmjkekaaB07
import Derived.Test.YtifhafjhmjkekaaB02
set_option linter.unusedVariables false
set_option linter.unusedSimpArgs false
namespace Go.Proofs.Ytifhafjhmjkekaa
open Go.ChangeShapes Go.WideShapes Go.ChangeAt Go.RowKit
set_option maxRecDepth 100000
def stepE (NE:ConfM→MachM→AccM) (RE:ConfM→MachM→AnsM→MachM) (c:ConfM) (m:MemM) (l:List MachM) (i:Nat):MemM × List MachM:=
 match l[i]? with
 | none=>(m,l)
 | some k=>if k.pl=0 then (m,l) else if (applyE m (NE c k)).2.2=true then ((applyE m (NE c k)).1,l.set i (RE c k (applyE m (NE c k)).2.1)) else (m,l)
structure Moved (NE:ConfM→MachM→AccM) (RE:ConfM→MachM→AnsM→MachM) (y:WM) (i:Nat) (y2:WM):Prop where
 c:y2.c=y.c
 m:y2.m=(stepE NE RE y.c y.m y.l i).1
 l:y2.l=(stepE NE RE y.c y.m y.l i).2
 t:y2.t.length≤y.t.length+1
 p:y2.p.length≤y.p.length+1
 f:y2.f.length=y.f.length
theorem stepE_len (NE:ConfM→MachM→AccM) (RE:ConfM→MachM→AnsM→MachM) (c:ConfM) (m:MemM) (l:List MachM) (i:Nat):(stepE NE RE c m l i).2.length=l.length:=by
 unfold stepE;split
 ·rfl
 ·split
  ·rfl
  ·split
   ·simp
   ·rfl
theorem FrI.sub {NE:ConfM→MachM→AccM} {RE:ConfM→MachM→AnsM→MachM} {ownB:MachM→Bool} {R:(World→Prop)→ConfM→List Value→MachM→Prop} (hs:Sim NE RE ownB R) {G H:World→Prop} {y:WM} (h:FrI R G y) (hw:∀w,H w→G w):FrI R H y:=
 ⟨h.1,fun i h1 h2=>hs.sub (h.2 i h1 h2) hw⟩
theorem nx_own {S:List (Option Nat)} {w u u1 wf:World} {P:Nat} (h1:Below w.heap.size w u) (hb:Below u.heap.size u u1) (hz:u1.heap.size≤wf.heap.size) (hk:∀j,j≠P→wf.heap[j]?=u1.heap[j]?) (hP:some P∈S) (hS:∀j,some j∈S→j<w.heap.size):∀w2,OffS S wf w2→Nx (OffS S w) u u1 w2:=fun w2 h2=>by
 have z1:=h1.size;have z2:=hb.size;have h5:=hS P hP;refine ⟨⟨by have:=h2.1; omega,fun j hj hn=>?_⟩,⟨by have:=h2.1; omega,fun j hj hj2=>?_⟩⟩
 ·rw [h2.2 j (by omega) hn,hk j (fun e=>hn (e▸hP)),hb.block j (by omega),h1.block j hj]
 ·rw [h2.2 j (by omega) (fun e=>by have:=hS j e; omega),hk j (by omega)]
theorem stepE_all2 {NE:ConfM→MachM→AccM} {RE:ConfM→MachM→AnsM→MachM} {c:ConfM} {P:MachM→Prop} (m:MemM) (hm:m.fits) (hP:∀k b,U64 b.val→P k→P (RE c k b)) (l:List MachM) (i:Nat) (h:∀k∈l,P k):∀k∈(stepE NE RE c m l i).2,P k:=by
 unfold stepE;split
 ·exact h
 ·rename_i k hk
  have hm':k∈l:=List.mem_of_getElem? hk;split
  ·exact h
  ·split
   ·intro q hq
    rcases List.mem_or_eq_of_mem_set hq with h1 | rfl
    ·exact h q h1
    ·exact hP k _ (applyE_val hm _) (h k hm')
   ·exact h
def StepW (NE:ConfM→MachM→AccM) (RE:ConfM→MachM→AnsM→MachM) (R:(World→Prop)→ConfM→List Value→MachM→Prop) (w0 w:World) (E:List (Option Nat)) (B D:Nat) (x:WV) (y:WM) (i:Nat) (e:Ending) (w':World):Prop:=
 ∃x2 y2,e=.returned (.bool true)∧Hid (WI 44 w0 w' E B D x2 y2)∧Hid (FrI R (OffS (x2.S E B) w') y2)∧Hid (Moved NE RE y i y2)∧Hid (∀w3,OffS (x2.S E B) w' w3→OffS (x.S E B) w w3)
set_option maxRecDepth 100000 in
set_option maxHeartbeats 32000000 in
theorem wstepL_end {NE:ConfM→MachM→AccM} {RE:ConfM→MachM→AnsM→MachM} {R:(World→Prop)→ConfM→List Value→MachM→Prop} {K:ConfM→MachM→Prop} (hs:Sim NE RE ownM R) (hd:Doc NE RE K)
  {w0 w:World} {E:List (Option Nat)} {B D:Nat} {x:WV} {y:WM} (h:WI 44 w0 w E B D x y) (hf:FrI R (OffS (x.S E B) w) y) (hk:∀m∈y.l,K y.c m) (i:Nat) (hi:i<y.l.length) (hl:y.l.length≤1000) (m:MachM) (hm:y.l[i]=m)
  (hp:m.pl=0):Calls Try.prog 23 #[.pointer (some ⟨B,0,none⟩),.int .i64 i] w (StepW NE RE R w0 w E B D x y i):=by
 have T1:=Lib.hid fun w' (hb:Below w.heap.size w w')=>wsame_any hs hd (h.next hb) (hf.sub hs fun w3 h3=>(OffS.below hb).trans1 h3) hk i hi hl;go_enter Try.func23,Try.ntmps23;go_wp2_with fail;refine (T1.out _ (Below.refl _ _)).mono ?_; rintro e w1 ⟨rfl,hb1⟩;have HB1:=Lib.hid hb1;clear hb1;have TS:Hid (∀w',Below w.heap.size w w'→Calls Try.prog 42 #[.pointer (some ⟨B,0,none⟩),.int .i64 i] w' fun e w2=>e=.returned (.tuple #[.agg #[.int .u64 0,.bool false,.bool false,.slice none 0 0],.bool false])∧Below w'.heap.size w' w2):=fun w' hb=>wstep_end (h.next hb) i hi m hm hl hp;have HMV:Hid (Moved NE RE y i y):=⟨rfl,by unfold stepE; rw [List.getElem?_eq_getElem hi,hm]; simp [hp],by unfold stepE; rw [List.getElem?_eq_getElem hi,hm]; simp [hp],by omega,by omega,rfl⟩;have HH:=Lib.hid h;have HF:=Lib.hid hf;clear h hf hk hm;clear hd hp;go_wp2_with fail;refine (TS.out _ HB1.out).mono ?_; rintro e w2 ⟨rfl,hb2⟩;have HB2:=Lib.hid hb2;clear hb2 TS;obtain ⟨W3,hW3⟩:∃W3,(w2.alloc (.cells #[.int .u64 0,.bool false,.bool false,.slice none 0 0] 53)).setRow w2.heap.size #[.int .u64 0,.bool false,.bool false,.slice none 0 0]=W3:=⟨_,rfl⟩;have N3:Hid ((w2.alloc (.cells #[.int .u64 0,.bool false,.bool false,.slice none 0 0] 53)).heap[w2.heap.size]?=some (.cells #[.int .u64 0,.bool false,.bool false,.slice none 0 0] 53 (0,0))):=heap_alloc_new _ _;have HB3:Hid (Below w2.heap.size w2 W3):=hW3▸row_below (below_new (Below.refl _ _) _) (Nat.le_refl _) _;have R3:Hid (W3.heap[w2.heap.size]?=some (.cells #[.int .u64 0,.bool false,.bool false,.slice none 0 0] 53 (0,0))):=hW3▸setRow_heap _ _ _ _ _ (0,0) N3.out;have HW3:=Lib.hid hW3;clear hW3;go_upto_region 4 with (refine wpList_store_row rfl 53 _ _ rfl (w2.heap.size) _ rfl rfl 53 _ N3.out (by kernel_rfl) rfl (by simp [Value.oneCell']) ?_)
 rw [HW3.out];try simp only [Act.put]
 clear HW3 N3;obtain ⟨P,hP⟩:∃P,w2.heap.size=P:=⟨_,rfl⟩;rw [hP] at R3;rw [hP];clear hP;have HB03:=Lib.hid (below_then HB1.out (below_then HB2.out HB3.out));go_wp2_with fail;refine (T1.out _ HB03.out).mono ?_; rintro e w4 ⟨rfl,hb4⟩;have HB04:=Lib.hid (below_then HB03.out hb4);clear hb4;go_wp2_with fail;go_ret;exact ⟨x,y,rfl,HH.out.next HB04.out,HF.out.sub hs fun w3 h3=>(OffS.below HB04.out).trans1 h3,HMV,Lib.hid fun w3 h3=>(OffS.below HB04.out).trans1 h3⟩
set_option maxRecDepth 100000 in
set_option maxHeartbeats 32000000 in
theorem wstepL_not {NE:ConfM→MachM→AccM} {RE:ConfM→MachM→AnsM→MachM} {R:(World→Prop)→ConfM→List Value→MachM→Prop} {K:ConfM→MachM→Prop} (hs:Sim NE RE ownM R) (hd:Doc NE RE K)
  {w0 w:World} {E:List (Option Nat)} {B D:Nat} {x:WV} {y:WM} (h:WI 44 w0 w E B D x y) (hf:FrI R (OffS (x.S E B) w) y) (hk:∀m∈y.l,K y.c m) (i:Nat) (hi:i<y.l.length) (hl:y.l.length≤1000) (m:MachM) (hm:y.l[i]=m)
  (hp:¬m.pl=0) (hr:(applyE y.m (NE y.c m)).2.2=false):Calls Try.prog 23 #[.pointer (some ⟨B,0,none⟩),.int .i64 i] w (StepW NE RE R w0 w E B D x y i):=by
 have T1:=Lib.hid fun w' (hb:Below w.heap.size w w')=>wsame_any hs hd (h.next hb) (hf.sub hs fun w3 h3=>(OffS.below hb).trans1 h3) hk i hi hl;go_enter Try.func23,Try.ntmps23;go_wp2_with fail;refine (T1.out _ (Below.refl _ _)).mono ?_; rintro e w1 ⟨rfl,hb1⟩;have HB1:=Lib.hid hb1;clear hb1;have TS:Hid (∀w',Below w.heap.size w w'→Calls Try.prog 42 #[.pointer (some ⟨B,0,none⟩),.int .i64 i] w' fun e w2=>e=.returned (.tuple #[.agg #[.int .u64 0,.bool false,.bool false,.slice none 0 0],.bool false])∧Below w'.heap.size w' w2):=fun w' hb=>wstep_not (h.next hb) i hi m hm hl hp (NE y.c m) (fun w' hv=>hd.next y.c m x.cA x.sA x.cc x.sc w' (hk m (hm▸List.getElem_mem hi)) h.good hv) (hd.acc y.c m (hk m (hm▸List.getElem_mem hi)) h.good) (mm:=(applyE y.m (NE y.c m)).1) (bb:=(applyE y.m (NE y.c m)).2.1) (by rw [← hr]);have HMV:Hid (Moved NE RE y i y):=⟨rfl,by unfold stepE; rw [List.getElem?_eq_getElem hi,hm]; simp [hp,hr],by unfold stepE; rw [List.getElem?_eq_getElem hi,hm]; simp [hp,hr],by omega,by omega,rfl⟩;have HH:=Lib.hid h;have HF:=Lib.hid hf;clear h hf hk hm;clear hd hp hr;go_wp2_with fail;refine (TS.out _ HB1.out).mono ?_; rintro e w2 ⟨rfl,hb2⟩;have HB2:=Lib.hid hb2;clear hb2 TS;obtain ⟨W3,hW3⟩:∃W3,(w2.alloc (.cells #[.int .u64 0,.bool false,.bool false,.slice none 0 0] 53)).setRow w2.heap.size #[.int .u64 0,.bool false,.bool false,.slice none 0 0]=W3:=⟨_,rfl⟩;have N3:Hid ((w2.alloc (.cells #[.int .u64 0,.bool false,.bool false,.slice none 0 0] 53)).heap[w2.heap.size]?=some (.cells #[.int .u64 0,.bool false,.bool false,.slice none 0 0] 53 (0,0))):=heap_alloc_new _ _;have HB3:Hid (Below w2.heap.size w2 W3):=hW3▸row_below (below_new (Below.refl _ _) _) (Nat.le_refl _) _;have R3:Hid (W3.heap[w2.heap.size]?=some (.cells #[.int .u64 0,.bool false,.bool false,.slice none 0 0] 53 (0,0))):=hW3▸setRow_heap _ _ _ _ _ (0,0) N3.out;have HW3:=Lib.hid hW3;clear hW3;go_upto_region 4 with (refine wpList_store_row rfl 53 _ _ rfl (w2.heap.size) _ rfl rfl 53 _ N3.out (by kernel_rfl) rfl (by simp [Value.oneCell']) ?_)
 rw [HW3.out];try simp only [Act.put]
 clear HW3 N3;obtain ⟨P,hP⟩:∃P,w2.heap.size=P:=⟨_,rfl⟩;rw [hP] at R3;rw [hP];clear hP;have HB03:=Lib.hid (below_then HB1.out (below_then HB2.out HB3.out));go_wp2_with fail;refine (T1.out _ HB03.out).mono ?_; rintro e w4 ⟨rfl,hb4⟩;have HB04:=Lib.hid (below_then HB03.out hb4);clear hb4;go_wp2_with fail;go_ret;exact ⟨x,y,rfl,HH.out.next HB04.out,HF.out.sub hs fun w3 h3=>(OffS.below HB04.out).trans1 h3,HMV,Lib.hid fun w3 h3=>(OffS.below HB04.out).trans1 h3⟩
set_option maxRecDepth 100000 in
set_option maxHeartbeats 32000000 in
theorem wstepL_yes_own {NE:ConfM→MachM→AccM} {RE:ConfM→MachM→AnsM→MachM} {R:(World→Prop)→ConfM→List Value→MachM→Prop} {K:ConfM→MachM→Prop} (hs:Sim NE RE ownM R) (hd:Doc NE RE K)
  {w0 w:World} {E:List (Option Nat)} {B D:Nat} {x:WV} {y:WM} (h:WI 44 w0 w E B D x y) (hf:FrI R (OffS (x.S E B) w) y) (hk:∀m∈y.l,K y.c m) (i:Nat) (hi:i<y.l.length) (hl:y.l.length≤1000) (m:MachM) (hm:y.l[i]=m)
  (hp:¬m.pl=0) (hr:(applyE y.m (NE y.c m)).2.2=true) (ht:y.t.length≤100000) (hpl:y.p.length≤100000) (hown:ownM m=true):Calls Try.prog 23 #[.pointer (some ⟨B,0,none⟩),.int .i64 i] w (StepW NE RE R w0 w E B D x y i):=by
 have T1:=Lib.hid fun w' (hb:Below w.heap.size w w')=>wsame_any hs hd (h.next hb) (hf.sub hs fun w3 h3=>(OffS.below hb).trans1 h3) hk i hi hl;obtain ⟨mm,hmm⟩:∃mm,(applyE y.m (NE y.c m)).1=mm:=⟨_,rfl⟩;obtain ⟨bb,hbb⟩:∃bb,(applyE y.m (NE y.c m)).2.1=bb:=⟨_,rfl⟩;obtain ⟨m2,hm2⟩:∃m2,RE y.c m bb=m2:=⟨_,rfl⟩;have hkm:=hk m (hm▸List.getElem_mem hi);have hbv:U64 bb.val:=by rw [← hbb]; exact applyE_val h.fits _
 have HOWN:Hid (ownM m2=true):=by have h1:=hs.stays y.c m bb; rw [hm2] at h1; exact h1.trans hown
 have TS:Hid (∀w',Below w.heap.size w w'→Calls Try.prog 42 #[.pointer (some ⟨B,0,none⟩),.int .i64 i] w' (StepQ 44 w0 w' E B D x y ({ y with t:=y.t ++ [⟨i,NE y.c m,bb.val,bb.ok⟩],p:=y.p ++ [([.slice x.mA y.m.words.length x.mc,.slice x.nA y.m.lists.length x.nc,.int .i64 y.m.tick],y.m)],m:=mm,l:=y.l.set i m2 }:WM) bb)):=fun w' hb=>
  wstep_yes (h.next hb) i hi m hm hl hp (NE y.c m) (fun w' hv=>hd.next y.c m x.cA x.sA x.cc x.sc w' (hk m (hm▸List.getElem_mem hi)) h.good hv) (hd.acc y.c m (hk m (hm▸List.getElem_mem hi)) h.good) (by rw [← hmm,← hbb,← hr]) m2 (fun w2 zA zn zc hv=>by rw [← hm2]; exact hd.resume y.c m bb x.cA x.sA x.cc x.sc zA zn zc w2 hkm h.good hbv hv) ht hpl
 obtain ⟨y2,hy2⟩:∃y2:WM,({ y with t:=y.t ++ [⟨i,NE y.c m,bb.val,bb.ok⟩],p:=y.p ++ [([.slice x.mA y.m.words.length x.mc,.slice x.nA y.m.lists.length x.nc,.int .i64 y.m.tick],y.m)],m:=mm,l:=y.l.set i m2 }:WM)=y2:=⟨_,rfl⟩;rw [hy2] at TS;have hfl:y.f.length=y.l.length:=hf.1;have hfi:i<y2.f.length:=by rw [← hy2]; show i<y.f.length; omega
 have hli:i<y2.l.length:=by rw [← hy2]; show i<(y.l.set i m2).length; simpa using hi
 have hl2:y2.l.length≤1000:=by rw [← hy2]; show (y.l.set i m2).length≤1000; simpa using hl
 have HMI:Hid (y2.l[i]=m2):=by show y2.l[i]=m2; simp [← hy2]
 have HK2:Hid (∀q∈y2.l,K y2.c q):=fun q hq=>by
  rw [← hy2] at hq ⊢;rcases List.mem_or_eq_of_mem_set hq with h1 | rfl
  ·exact hk q h1
  ·exact hm2▸hd.stays y.c m bb hkm hbv
 have HFO:Hid (∀G:World→Prop,(∀w3,G w3→OffS (x.S E B) w w3)→R G y2.c y2.f[i] m∧∀j (h1:j<y2.f.length) (h2:j<y2.l.length),j≠i→R G y2.c y2.f[j] y2.l[j]):=fun G hG=>by
  subst hy2;refine ⟨hs.sub (hm▸hf.2 i (by omega) hi) hG,fun j h1 h2 hne=>?_⟩;have:=hs.sub (hf.2 j h1 (by simpa using h2)) hG;simpa [List.getElem_set,Ne.symm hne] using this
 have HMV:Hid (∀f2,Moved NE RE y i { y2 with f:=y2.f.set i f2 }):=fun f2=>by
  subst hy2;exact ⟨rfl,by unfold stepE; rw [List.getElem?_eq_getElem hi,hm]; simp [hp,hr,hmm],by unfold stepE; rw [List.getElem?_eq_getElem hi,hm]; simp [hp,hr,hbb,hm2],by simp,by simp,by simp⟩
 have HF2:Hid (y2.f.length=y2.l.length):=by rw [← hy2]; show y.f.length=(y.l.set i m2).length; simpa using hfl
 have HREs:Hid (RE y2.c m bb=m2):=by rw [← hy2]; exact hm2
 have HPL:=Lib.hid hp;have HOW1:Hid (ownM m=true):=hown;have HBV:=Lib.hid hbv;have HH:=Lib.hid h;clear hy2 h hf hk hm hmm hbb hm2 hp hr hkm ht hpl hfl hi hl hbv hown;go_enter Try.func23,Try.ntmps23;go_wp2_with fail;refine (T1.out _ (Below.refl _ _)).mono ?_; rintro e w1 ⟨rfl,hb1⟩;have HB1:=Lib.hid hb1;clear hb1;go_wp2_with fail;refine (TS.out _ HB1.out).mono ?_; rintro e w2 ⟨x2,zA,zn,zc,rfl,HI2,HIN,-,-⟩;clear TS T1;obtain ⟨W3,hW3⟩:∃W3,(w2.alloc (.cells #[.int .u64 0,.bool false,.bool false,.slice none 0 0] 53)).setRow w2.heap.size #[.int .u64 bb.val,.bool bb.ok,.bool bb.late,.slice zA zn zc]=W3:=⟨_,rfl⟩;have N3:Hid ((w2.alloc (.cells #[.int .u64 0,.bool false,.bool false,.slice none 0 0] 53)).heap[w2.heap.size]?=some (.cells #[.int .u64 0,.bool false,.bool false,.slice none 0 0] 53 (0,0))):=heap_alloc_new _ _;have HB3:Hid (Below w2.heap.size w2 W3):=hW3▸row_below (below_new (Below.refl _ _) _) (Nat.le_refl _) _;have R3:Hid (W3.heap[w2.heap.size]?=some (.cells #[.int .u64 bb.val,.bool bb.ok,.bool bb.late,.slice zA zn zc] 53 (0,0))):=hW3▸setRow_heap _ _ _ _ _ (0,0) N3.out;have HW3:=Lib.hid hW3;clear hW3;go_upto_region 4 with (refine wpList_store_row rfl 53 _ _ rfl (w2.heap.size) _ rfl rfl 53 _ N3.out (by kernel_rfl) rfl (by simp [Value.oneCell']) ?_)
 rw [HW3.out];try simp only [Act.put]
 clear HW3 N3;obtain ⟨P,hP⟩:∃P,w2.heap.size=P:=⟨_,rfl⟩;rw [hP] at R3;rw [hP];clear hP;have HI3:=Lib.hid (HI2.out.next HB3.out);have HIN3:Hid (∀w3,OffS (x2.S E B) W3 w3→OffS (x.S E B) w w3):=fun w3 h3=>(OffS.below HB1.out).trans1 (HIN.out w3 ((OffS.below HB3.out).trans1 h3));have hB3:=HI3.out.lt;have hP3:=(ltR R3);obtain ⟨gl,lc,hvl,hlA,hlc,hgl,hgls,hcap,RG,-⟩:=HI3.out.machAt i hli;obtain ⟨fl,fc,hvf,hfA,hfc,hfl,hfls,hfcap,FG,FT⟩:=HI3.out.frameAt i hfi;rw [HMI.out] at RG;obtain ⟨hFi,hFj⟩:=HFO.out _ HIN3.out;obtain ⟨r0,r1,s2,k2,l2,s3,k3,l3,s4,k4,l4,he⟩:=hs.form hFi HOW1.out;rw [he] at FG hFi;have HFJ:=Lib.hid hFj;have HVF:=Lib.hid hvf;have HRG:=Lib.hid RG;have HFG:=Lib.hid FG;have HTH:=Lib.hid FT;have row0:=HI3.out.row;unfold WV.row at row0;rw [hlA,hlc,hfA,hfc] at row0;have ROW:=Lib.hid row0;have TO:=Lib.hid fun w'=>wown_any (x2.vc y2.c) (x2.vs y2.c) ⟨_,_,_,rfl⟩ ⟨_,_,_,rfl⟩ y2.c.threads m2 w';have hown2:ownM m2=true:=HOWN.out;rw [hown2] at TO;unfold machL WV.vc WV.vs at TO HRG;have TR:=Lib.hid fun w' (hb:Below W3.heap.size W3 w')=>hs.resume w' bb zA zn zc HBV.out (OffS.below (S:=x2.S E B) hb) hFi HOW1.out HPL.out;rw [HREs.out] at TR;have hiI:(i:Int)<(y2.l.length:Int):=by omega
 have hiF:(i:Int)<(y2.f.length:Int):=by omega
 have hfl2:y2.f.length≤1000:=by rw [HF2.out]; exact hl2
 have KFR:Hid (∀(r:List Value) u u1 (f2:List Value),Below W3.heap.size W3 u→Below u.heap.size u u1→R (Nx (OffS (x2.S E B) W3) u u1) y2.c f2 m2→FrI R (OffS (x2.S E B) (u1.setCells fl (i * 5) r)) { y2 with f:=y2.f.set i f2 }):=fun r u u1 f2 h1 h2 h3=>by
  have hin:=nx_own (S:=x2.S E B) (wf:=u1.setCells fl (i * 5) r) h1 h2 (by rw [setCells_size]; exact Nat.le_refl _) (fun j hj=>setCells_other fl r (i * 5) u1 j hj) (by simp [WV.S,addrB,hfA]) HI3.out.Slt;refine ⟨by simpa using HF2.out,fun j h4 h5=>?_⟩;by_cases hj:j=i
  ·subst hj
   have:=hs.sub h3 hin;simpa [HMI.out] using this
  ·have h6:j<y2.f.length:=by simpa using h4
   have:=hs.sub (HFJ.out j h6 h5 hj) fun w3 h7=>(hin w3 h7).1;simpa [List.getElem_set,Ne.symm hj] using this
 have HFA:=Lib.hid hfA;clear hvl hlA hlc RG hvf hfA hfc FG FT he hFi hFj row0 hown2;obtain ⟨x0,x1,x2,x3,x4,x5,x6,x7,x8,x9⟩:=rowc10 ROW.out;obtain ⟨q0,q1,q2,q3,q4,q5,q6,q7,q8,q9,q10,q11,q12,q13⟩:=range14 HRG.out;go_wp2_with fail;refine (TO.out _).mono ?_; rintro e w5 ⟨rfl,hb5⟩;have HB5:Hid (Below W3.heap.size W3 w5):=hb5;clear hb5 TO x0 x1 x2 x3 x4 x5 x6 x7 x8 x9 q0 q1 q2 q3 q4 q5 q6 q7 q8 q9 q10 q11 q12 q13;have KS:Hid (∀w',Below W3.heap.size W3 w'→(fun w':World=>(w'.cell? ⟨B,9,none⟩=some (.slice (some ⟨fl,0,none⟩) y2.f.length fc))∧(w'.cell? ⟨fl,i * 5,none⟩=some (.int .i64 r0)∧w'.cell? ⟨fl,i * 5+1,none⟩=some (.int .i64 r1)∧w'.cell? ⟨fl,i * 5+2,none⟩=some (.slice s2 k2 l2)∧w'.cell? ⟨fl,i * 5+3,none⟩=some (.slice s3 k3 l3)∧w'.cell? ⟨fl,i * 5+4,none⟩=some (.slice s4 k4 l4))∧(w'.cell? ⟨P,0,none⟩=some (.int .u64 bb.val)∧w'.cell? ⟨P,1,none⟩=some (.bool bb.ok)∧w'.cell? ⟨P,2,none⟩=some (.bool bb.late)∧w'.cell? ⟨P,3,none⟩=some (.slice zA zn zc))) w'):=fun w' hb=>by
  obtain ⟨x0,x1,x2,x3,x4,x5,x6,x7,x8,x9⟩:=rowc10 ((hb.block B hB3).trans ROW.out);obtain ⟨f0,f1,f2,f3,f4⟩:=range5 (range_below HFG.out hb hfls);obtain ⟨z0,z1,z2,z3⟩:=rowc4 ((hb.block P hP3).trans R3.out);exact ⟨x9,⟨f0,f1,f2,f3,f4⟩,⟨z0,z1,z2,z3⟩⟩
 go_upto_region 5 with fail
 go_cut [] (fun wx=>∃f2:List Value,Hid (WI 44 w0 wx E B D x2 { y2 with f:=y2.f.set i f2 })∧Hid (FrI R (OffS (x2.S E B) wx) { y2 with f:=y2.f.set i f2 })∧Hid (∀w3,OffS (x2.S E B) wx w3→OffS (x.S E B) w w3))
 case first=>
  refine untilK KS 15 16 (by kernel_rfl) rfl ?_;obtain ⟨u0,hu0,HU00⟩:=drew_pack w5;rw [hu0];clear hu0;have HU0:=Lib.hid (below_then HB5.out HU00.out);have hSU0:=KS.out _ HU0.out;apply tkV 0 hSU0 rfl (by kernel_rfl) (fun _ _ _ h=>h) rfl;intro w hSw;(go_simp<;>with_reducible rfl);simp only [J0,J1,J2,J3,J4];apply tkV 1 hSU0 rfl (by kernel_rfl) (fun _ _ _ h=>h) rfl;intro w hSw;(go_simp<;>with_reducible rfl);simp only [J0,J1,J2,J3,J4];apply tkV 2 hSU0 rfl (by kernel_rfl) (fun _ _ _ h=>h) rfl;intro w hSw;(go_simp<;>with_reducible rfl);simp only [J0,J1,J2,J3,J4];apply tkV 3 hSU0 rfl (by kernel_rfl) (fun _ _ _ h=>h) rfl;intro w hSw;(go_simp<;>with_reducible rfl);simp only [J0,J1,J2,J3,J4];apply tkV 4 hSU0 rfl (by kernel_rfl) (fun _ _ _ h=>h) rfl;intro w hSw;(go_simp<;>with_reducible rfl);simp only [J0,J1,J2,J3,J4];apply tkV 5 hSU0 rfl (by kernel_rfl) (fun _ _ _ h=>h) rfl;intro w hSw;(go_simp<;>with_reducible rfl);simp only [J0,J1,J2,J3,J4];apply tkV 6 hSU0 rfl (by kernel_rfl) (fun _ _ _ h=>h) rfl;intro w hSw;(go_simp<;>with_reducible rfl);simp only [J0,J1,J2,J3,J4];apply tkV 7 hSU0 rfl (by kernel_rfl) (fun _ _ _ h=>h) rfl;intro w hSw;(go_simp<;>with_reducible rfl);simp only [J0,J1,J2,J3,J4];apply tkV 8 hSU0 rfl (by kernel_rfl) (fun _ _ _ h=>h) rfl;intro w hSw;(go_simp<;>with_reducible rfl);simp only [J0,J1,J2,J3,J4];apply tkV 9 hSU0 rfl (by kernel_rfl) (fun _ _ _ h=>h) rfl;intro w hSw;(go_simp<;>with_reducible rfl);simp only [J0,J1,J2,J3,J4];apply tkV 10 hSU0 rfl (by kernel_rfl) (fun _ _ _ h=>h) rfl;intro w hSw;(go_simp<;>with_reducible rfl);simp only [J0,J1,J2,J3,J4];apply tkV 11 hSU0 rfl (by kernel_rfl) (fun _ _ _ h=>h) rfl;intro w hSw;(go_simp<;>with_reducible rfl);simp only [J0,J1,J2,J3,J4];apply tkV 12 hSU0 rfl (by kernel_rfl) (fun _ _ _ h=>h) rfl;intro w hSw;(go_simp<;>with_reducible rfl);simp only [J0,J1,J2,J3,J4];refine consU 13 rfl (by kernel_rfl) rfl fun K hK=>?_;go_simp;go_at_call 19;refine (TR.out _ HU0.out).mono ?_;rintro e u1 ⟨f2,rfl,hr2,hb⟩;obtain ⟨t0,t1,d2,e2,g2,d3,e3,g3,d4,e4,g4,rfl⟩:=hs.form hr2 HOWN.out
  have HR2:=Lib.hid hr2;have HUb:=Lib.hid hb;have HU1:=Lib.hid (below_then HU0.out hb);clear hb hr2;try dsimp only
  refine hK.out _ _ ?_ fun hSU1=>?_;exact KS.out _ HU1.out;clear hK K hSU0;(try simp only [J0,J1,J2,J3,J4]);apply tkV 14 hSU1 rfl (by kernel_rfl) (fun _ _ _ h=>h) rfl;intro w hSw;(go_simp<;>with_reducible rfl);simp only [J0,J1,J2,J3,J4];refine freeU 15 rfl (by kernel_rfl) rfl (by kernel_rfl) fun K hK=>?_;refine step_store_mid rfl 61 _ _ rfl fl (i * 5) _ (by rfl) (by rfl) (there_below HTH.out HU1.out hfls) (by kernel_rfl) (by simp [Value.oneCell']) ?_;refine hK.out _ _ ?_;clear hK K hSU1;(try simp only [J0,J1,J2,J3,J4]);refine wpAnyU_done (by kernel_rfl) ?_ _;obtain ⟨HIa,HINa⟩:=(HI3.out.next HU1.out).setF (b:=fl) (i:=i) (z:=[.int .i64 t0,.int .i64 t1,.slice d2 e2 g2,.slice d3 e3 g3,.slice d4 e4 g4]) (n:=y2.f.length) (cap:=fc) HVF.out hfi rfl (by intro u hu; simp only [List.mem_cons,List.not_mem_nil,or_false] at hu; rcases hu with rfl | rfl | rfl | rfl | rfl <;> rfl);have HSF:=Lib.hid (KFR.out [.int .i64 t0,.int .i64 t1,.slice d2 e2 g2,.slice d3 e3 g3,.slice d4 e4 g4] _ _ _ HU0.out HUb.out HR2.out);have HIF:=Lib.hid HIa;have HINC:=Lib.hid fun w3 h3=>HIN3.out w3 ((OffS.below HU1.out).trans1 (HINa w3 h3));clear HIa HINa;go_wp2_with fail;go_meet;exact ⟨_,HIF,HSF,HINC⟩
 case rest=>
  obtain ⟨f2,HI6,HF6,HIN6⟩:=hcut;obtain ⟨w6,rfl⟩:∃w3:World,w3=wc:=⟨_,rfl⟩;clear KS TR KFR HFJ HFO;have T6:=Lib.hid (wsame_any hs hd HI6.out HF6.out HK2.out i hli hl2);go_wp2_with fail;refine T6.out.mono ?_; rintro e w7 ⟨rfl,hb7⟩;have HB7:=Lib.hid hb7;clear hb7 T6;go_wp2_with fail;go_ret;exact ⟨x2,_,rfl,HI6.out.next HB7.out,HF6.out.sub hs fun w3 h3=>(OffS.below HB7.out).trans1 h3,HMV.out f2,Lib.hid fun w3 h3=>HIN6.out w3 ((OffS.below HB7.out).trans1 h3)⟩
set_option maxRecDepth 100000 in
set_option maxHeartbeats 32000000 in
theorem wstepL_yes_not {NE:ConfM→MachM→AccM} {RE:ConfM→MachM→AnsM→MachM} {R:(World→Prop)→ConfM→List Value→MachM→Prop} {K:ConfM→MachM→Prop} (hs:Sim NE RE ownM R) (hd:Doc NE RE K)
  {w0 w:World} {E:List (Option Nat)} {B D:Nat} {x:WV} {y:WM} (h:WI 44 w0 w E B D x y) (hf:FrI R (OffS (x.S E B) w) y) (hk:∀m∈y.l,K y.c m) (i:Nat) (hi:i<y.l.length) (hl:y.l.length≤1000) (m:MachM) (hm:y.l[i]=m)
  (hp:¬m.pl=0) (hr:(applyE y.m (NE y.c m)).2.2=true) (ht:y.t.length≤100000) (hpl:y.p.length≤100000) (hown:ownM m=false):Calls Try.prog 23 #[.pointer (some ⟨B,0,none⟩),.int .i64 i] w (StepW NE RE R w0 w E B D x y i):=by
 have T1:=Lib.hid fun w' (hb:Below w.heap.size w w')=>wsame_any hs hd (h.next hb) (hf.sub hs fun w3 h3=>(OffS.below hb).trans1 h3) hk i hi hl;obtain ⟨mm,hmm⟩:∃mm,(applyE y.m (NE y.c m)).1=mm:=⟨_,rfl⟩;obtain ⟨bb,hbb⟩:∃bb,(applyE y.m (NE y.c m)).2.1=bb:=⟨_,rfl⟩;obtain ⟨m2,hm2⟩:∃m2,RE y.c m bb=m2:=⟨_,rfl⟩;have hkm:=hk m (hm▸List.getElem_mem hi);have hbv:U64 bb.val:=by rw [← hbb]; exact applyE_val h.fits _
 have HOWN:Hid (ownM m2=false):=by have h1:=hs.stays y.c m bb; rw [hm2] at h1; exact h1.trans hown
 have TS:Hid (∀w',Below w.heap.size w w'→Calls Try.prog 42 #[.pointer (some ⟨B,0,none⟩),.int .i64 i] w' (StepQ 44 w0 w' E B D x y ({ y with t:=y.t ++ [⟨i,NE y.c m,bb.val,bb.ok⟩],p:=y.p ++ [([.slice x.mA y.m.words.length x.mc,.slice x.nA y.m.lists.length x.nc,.int .i64 y.m.tick],y.m)],m:=mm,l:=y.l.set i m2 }:WM) bb)):=fun w' hb=>
  wstep_yes (h.next hb) i hi m hm hl hp (NE y.c m) (fun w' hv=>hd.next y.c m x.cA x.sA x.cc x.sc w' (hk m (hm▸List.getElem_mem hi)) h.good hv) (hd.acc y.c m (hk m (hm▸List.getElem_mem hi)) h.good) (by rw [← hmm,← hbb,← hr]) m2 (fun w2 zA zn zc hv=>by rw [← hm2]; exact hd.resume y.c m bb x.cA x.sA x.cc x.sc zA zn zc w2 hkm h.good hbv hv) ht hpl
 obtain ⟨y2,hy2⟩:∃y2:WM,({ y with t:=y.t ++ [⟨i,NE y.c m,bb.val,bb.ok⟩],p:=y.p ++ [([.slice x.mA y.m.words.length x.mc,.slice x.nA y.m.lists.length x.nc,.int .i64 y.m.tick],y.m)],m:=mm,l:=y.l.set i m2 }:WM)=y2:=⟨_,rfl⟩;rw [hy2] at TS;have hfl:y.f.length=y.l.length:=hf.1;have hfi:i<y2.f.length:=by rw [← hy2]; show i<y.f.length; omega
 have hli:i<y2.l.length:=by rw [← hy2]; show i<(y.l.set i m2).length; simpa using hi
 have hl2:y2.l.length≤1000:=by rw [← hy2]; show (y.l.set i m2).length≤1000; simpa using hl
 have HMI:Hid (y2.l[i]=m2):=by show y2.l[i]=m2; simp [← hy2]
 have HK2:Hid (∀q∈y2.l,K y2.c q):=fun q hq=>by
  rw [← hy2] at hq ⊢;rcases List.mem_or_eq_of_mem_set hq with h1 | rfl
  ·exact hk q h1
  ·exact hm2▸hd.stays y.c m bb hkm hbv
 have HFO:Hid (∀G:World→Prop,(∀w3,G w3→OffS (x.S E B) w w3)→R G y2.c y2.f[i] m∧∀j (h1:j<y2.f.length) (h2:j<y2.l.length),j≠i→R G y2.c y2.f[j] y2.l[j]):=fun G hG=>by
  subst hy2;refine ⟨hs.sub (hm▸hf.2 i (by omega) hi) hG,fun j h1 h2 hne=>?_⟩;have:=hs.sub (hf.2 j h1 (by simpa using h2)) hG;simpa [List.getElem_set,Ne.symm hne] using this
 have HMV:Hid (∀f2,Moved NE RE y i { y2 with f:=y2.f.set i f2 }):=fun f2=>by
  subst hy2;exact ⟨rfl,by unfold stepE; rw [List.getElem?_eq_getElem hi,hm]; simp [hp,hr,hmm],by unfold stepE; rw [List.getElem?_eq_getElem hi,hm]; simp [hp,hr,hbb,hm2],by simp,by simp,by simp⟩
 have HF2:Hid (y2.f.length=y2.l.length):=by rw [← hy2]; show y.f.length=(y.l.set i m2).length; simpa using hfl
 have HREs:Hid (RE y2.c m bb=m2):=by rw [← hy2]; exact hm2
 have HPL:=Lib.hid hp;have HOW1:Hid (ownM m=false):=hown;have HBV:=Lib.hid hbv;have HH:=Lib.hid h;clear hy2 h hf hk hm hmm hbb hm2 hp hr hkm ht hpl hfl hi hl hbv hown;go_enter Try.func23,Try.ntmps23;go_wp2_with fail;refine (T1.out _ (Below.refl _ _)).mono ?_; rintro e w1 ⟨rfl,hb1⟩;have HB1:=Lib.hid hb1;clear hb1;go_wp2_with fail;refine (TS.out _ HB1.out).mono ?_; rintro e w2 ⟨x2,zA,zn,zc,rfl,HI2,HIN,-,-⟩;clear TS T1;obtain ⟨W3,hW3⟩:∃W3,(w2.alloc (.cells #[.int .u64 0,.bool false,.bool false,.slice none 0 0] 53)).setRow w2.heap.size #[.int .u64 bb.val,.bool bb.ok,.bool bb.late,.slice zA zn zc]=W3:=⟨_,rfl⟩;have N3:Hid ((w2.alloc (.cells #[.int .u64 0,.bool false,.bool false,.slice none 0 0] 53)).heap[w2.heap.size]?=some (.cells #[.int .u64 0,.bool false,.bool false,.slice none 0 0] 53 (0,0))):=heap_alloc_new _ _;have HB3:Hid (Below w2.heap.size w2 W3):=hW3▸row_below (below_new (Below.refl _ _) _) (Nat.le_refl _) _;have R3:Hid (W3.heap[w2.heap.size]?=some (.cells #[.int .u64 bb.val,.bool bb.ok,.bool bb.late,.slice zA zn zc] 53 (0,0))):=hW3▸setRow_heap _ _ _ _ _ (0,0) N3.out;have HW3:=Lib.hid hW3;clear hW3;go_upto_region 4 with (refine wpList_store_row rfl 53 _ _ rfl (w2.heap.size) _ rfl rfl 53 _ N3.out (by kernel_rfl) rfl (by simp [Value.oneCell']) ?_)
 rw [HW3.out];try simp only [Act.put]
 clear HW3 N3;obtain ⟨P,hP⟩:∃P,w2.heap.size=P:=⟨_,rfl⟩;rw [hP] at R3;rw [hP];clear hP;have HI3:=Lib.hid (HI2.out.next HB3.out);have HIN3:Hid (∀w3,OffS (x2.S E B) W3 w3→OffS (x.S E B) w w3):=fun w3 h3=>(OffS.below HB1.out).trans1 (HIN.out w3 ((OffS.below HB3.out).trans1 h3));have hB3:=HI3.out.lt;have hP3:=(ltR R3);obtain ⟨gl,lc,hvl,hlA,hlc,hgl,hgls,hcap,RG,-⟩:=HI3.out.machAt i hli;rw [HMI.out] at RG;obtain ⟨hFi,hFj⟩:=HFO.out _ HIN3.out;have HFJ:=Lib.hid hFj;have HRG:=Lib.hid RG;have row0:=HI3.out.row;unfold WV.row at row0;rw [hlA,hlc] at row0;have ROW:=Lib.hid row0;have TO:=Lib.hid fun w'=>wown_any (x2.vc y2.c) (x2.vs y2.c) ⟨_,_,_,rfl⟩ ⟨_,_,_,rfl⟩ y2.c.threads m2 w';have hown2:ownM m2=false:=HOWN.out;rw [hown2] at TO;unfold machL WV.vc WV.vs at TO HRG;have hiI:(i:Int)<(y2.l.length:Int):=by omega
 have HF3:Hid (FrI R (OffS (x2.S E B) W3) y2):=⟨HF2.out,fun j h1 h2=>by
  by_cases hj:j=i
  ·subst hj
   exact hs.others _ _ _ _ (by rw [HMI.out]; exact HOWN.out)
  ·exact HFJ.out j h1 h2 hj⟩
 have HMV2:Hid (Moved NE RE y i y2):=by
  have h1:=HMV.out [];exact ⟨h1.c,h1.m,h1.l,h1.t,h1.p,by have:=h1.f; simpa using this⟩
 clear hvl hlA hlc RG hFi hFj row0 hown2;obtain ⟨x0,x1,x2,x3,x4,x5,x6,x7,x8,x9⟩:=rowc10 ROW.out;obtain ⟨q0,q1,q2,q3,q4,q5,q6,q7,q8,q9,q10,q11,q12,q13⟩:=range14 HRG.out;go_wp2_with fail;refine (TO.out _).mono ?_; rintro e w5 ⟨rfl,hb5⟩;have HB5:Hid (Below W3.heap.size W3 w5):=hb5;clear hb5 TO x0 x1 x2 x3 x4 x5 x6 x7 x8 x9 q0 q1 q2 q3 q4 q5 q6 q7 q8 q9 q10 q11 q12 q13;have T6:=Lib.hid (wsame_any hs hd (HI3.out.next HB5.out) (HF3.out.sub hs fun w3 h3=>(OffS.below HB5.out).trans1 h3) HK2.out i hli hl2);go_wp2_with fail;refine T6.out.mono ?_; rintro e w7 ⟨rfl,hb7⟩;have HB7:=Lib.hid (below_then HB5.out hb7);clear hb7 T6;go_wp2_with fail;go_ret;exact ⟨x2,y2,rfl,HI3.out.next HB7.out,HF3.out.sub hs fun w3 h3=>(OffS.below HB7.out).trans1 h3,HMV2.out,Lib.hid fun w3 h3=>HIN3.out w3 ((OffS.below HB7.out).trans1 h3)⟩
theorem wstepL_yes {NE:ConfM→MachM→AccM} {RE:ConfM→MachM→AnsM→MachM} {R:(World→Prop)→ConfM→List Value→MachM→Prop} {K:ConfM→MachM→Prop} (hs:Sim NE RE ownM R) (hd:Doc NE RE K)
  {w0 w:World} {E:List (Option Nat)} {B D:Nat} {x:WV} {y:WM} (h:WI 44 w0 w E B D x y) (hf:FrI R (OffS (x.S E B) w) y) (hk:∀m∈y.l,K y.c m) (i:Nat) (hi:i<y.l.length) (hl:y.l.length≤1000) (m:MachM) (hm:y.l[i]=m)
  (hp:¬m.pl=0) (hr:(applyE y.m (NE y.c m)).2.2=true) (ht:y.t.length≤100000) (hpl:y.p.length≤100000):Calls Try.prog 23 #[.pointer (some ⟨B,0,none⟩),.int .i64 i] w (StepW NE RE R w0 w E B D x y i):=by
 cases hown:ownM m with
 | true=>exact wstepL_yes_own hs hd h hf hk i hi hl m hm hp hr ht hpl hown
 | false=>exact wstepL_yes_not hs hd h hf hk i hi hl m hm hp hr ht hpl hown
theorem Try.info_mach:(Try.prog.info? 58).map (fun i=>(i.zero,i.size,i.bytes))=some (some (.agg #[.int .i64 0,.int .i64 0,.slice none 0 0,.slice none 0 0,.int .i64 0,.int .i64 0,.int .i64 0,.int .i64 0,.int .i64 0,.int .u64 0,.int .u64 0,.int .u64 0,.int .i64 0,.int .u64 0]),14,144):=by kernel_rfl
theorem Try.info_frame:(Try.prog.info? 61).map (fun i=>(i.zero,i.size,i.bytes))=some (some (.agg #[.int .i64 0,.int .i64 0,.slice none 0 0,.slice none 0 0,.slice none 0 0]),5,88):=by kernel_rfl
def Starts (R:(World→Prop)→ConfM→List Value→MachM→Prop) (c:ConfM) (m:MachM) (v2 v3:Value):Prop:=
 ∀w,ConfV w (.agg #[v2,v3,.int .i64 c.threads]) c→Calls Try.prog 32 #[.agg #[v2,v3,.int .i64 c.threads],.agg (machL v2 v3 c.threads m).toArray] w fun e w'=>∃f,e=.returned (.agg f.toArray)∧R (NewPart w w') c f m∧Below w.heap.size w w'
def AddQ (R:(World→Prop)→ConfM→List Value→MachM→Prop) (w0 w:World) (E:List (Option Nat)) (B D:Nat) (x:WV) (y:WM) (m:MachM) (e:Ending) (w':World):Prop:=
 ∃x2 f,e=.returned (.tuple #[])∧Hid (WI 44 w0 w' E B D x2 { y with l:=y.l ++ [m],f:=y.f ++ [f] })∧Hid (FrI R (OffS (x2.S E B) w') { y with l:=y.l ++ [m],f:=y.f ++ [f] })∧Hid (Below B w w')∧Hid (∀w3,OffS (x2.S E B) w' w3→OffS (x.S E B) w w3)
set_option maxRecDepth 100000 in
set_option maxHeartbeats 32000000 in
theorem wadd_own {NE:ConfM→MachM→AccM} {RE:ConfM→MachM→AnsM→MachM} {R:(World→Prop)→ConfM→List Value→MachM→Prop} (hs:Sim NE RE ownM R)
  {w0 w:World} {E:List (Option Nat)} {B D:Nat} {x:WV} {y:WM} (h:WI 44 w0 w E B D x y) (hf:FrI R (OffS (x.S E B) w) y) (what ch th v:Int) (hwh:ownM ⟨what,1,ch,th,v % 4,v % 8,v,0,0,0,0⟩=true) (hv0:0≤v) (hst:Starts R y.c ⟨what,1,ch,th,v % 4,v % 8,v,0,0,0,0⟩ (x.vc y.c) (x.vs y.c)) (hl:y.l.length≤1000) :
  Calls Try.prog 14 #[.pointer (some ⟨B,0,none⟩),.int .i64 what,.int .i64 ch,.int .i64 th,.int .u64 v] w (AddQ R w0 w E B D x y ⟨what,1,ch,th,v % 4,v % 8,v,0,0,0,0⟩):=by
 have HI:=Lib.hid h;have HF:=Lib.hid hf;have hBl:=h.lt;have hlf:y.f.length≤1000:=by rw [hf.1]; exact hl
 have TW:=Lib.hid fun w'=>machNew_any x.cA x.sA x.cc x.sc y.c what ch th w';unfold machL at TW;try dsimp only at TW
 have row0:=h.row;unfold WV.row at row0;have ROW:=Lib.hid row0;have HST:=Lib.hid hst;clear h hf row0 hst;go_enter Try.func14,Try.ntmps14;obtain ⟨x0,x1,x2,x3,x4,x5,x6,x7,x8,x9⟩:=rowc10 ROW.out;go_wp2_with fail;refine (TW.out _).mono ?_; rintro e w1 ⟨rfl,hb1⟩;have HB1:=Lib.hid hb1;clear hb1 TW x0 x1 x2 x3 x4 x5 x6 x7 x8 x9;obtain ⟨W2,hW2⟩:∃W2,(w1.alloc (.cells #[.int .i64 0,.int .i64 0,.slice none 0 0,.slice none 0 0,.int .i64 0,.int .i64 0,.int .i64 0,.int .i64 0,.int .i64 0,.int .u64 0,.int .u64 0,.int .u64 0,.int .i64 0,.int .u64 0] 58)).setRow w1.heap.size #[.int .i64 what,.int .i64 1,.slice x.cA y.c.caps.length x.cc,.slice x.sA y.c.starts.length x.sc,.int .i64 y.c.threads,.int .i64 ch,.int .i64 th,.int .i64 0,.int .i64 0,.int .u64 0,.int .u64 0,.int .u64 0,.int .i64 0,.int .u64 0]=W2:=⟨_,rfl⟩;have N2:Hid ((w1.alloc (.cells #[.int .i64 0,.int .i64 0,.slice none 0 0,.slice none 0 0,.int .i64 0,.int .i64 0,.int .i64 0,.int .i64 0,.int .i64 0,.int .u64 0,.int .u64 0,.int .u64 0,.int .i64 0,.int .u64 0] 58)).heap[w1.heap.size]?=some (.cells #[.int .i64 0,.int .i64 0,.slice none 0 0,.slice none 0 0,.int .i64 0,.int .i64 0,.int .i64 0,.int .i64 0,.int .i64 0,.int .u64 0,.int .u64 0,.int .u64 0,.int .i64 0,.int .u64 0] 58 (0,0))):=heap_alloc_new _ _;have HB2:Hid (Below w1.heap.size w1 W2):=hW2▸row_below (below_new (Below.refl _ _) _) (Nat.le_refl _) _;have R2:Hid (W2.heap[w1.heap.size]?=some (.cells #[.int .i64 what,.int .i64 1,.slice x.cA y.c.caps.length x.cc,.slice x.sA y.c.starts.length x.sc,.int .i64 y.c.threads,.int .i64 ch,.int .i64 th,.int .i64 0,.int .i64 0,.int .u64 0,.int .u64 0,.int .u64 0,.int .i64 0,.int .u64 0] 58 (0,0))):=hW2▸setRow_heap _ _ _ _ _ (0,0) N2.out;have HW2:=Lib.hid hW2;clear hW2;go_upto_region 1 with (refine wpList_store_row rfl 58 _ _ rfl (w1.heap.size) _ rfl rfl 58 _ N2.out (by kernel_rfl) rfl (by simp [Value.oneCell']) ?_)
 rw [HW2.out];try simp only [Act.put]
 clear HW2 N2;have hPw:Hid (w.heap.size≤w1.heap.size):=HB1.out.size;obtain ⟨P,hP⟩:∃P,w1.heap.size=P:=⟨_,rfl⟩;rw [hP] at hPw;rw [hP] at R2;rw [hP];clear hP;have HB02:=Lib.hid (below_then HB1.out HB2.out);have f1:=frozen_of_row _ _ 9 _ _ R2.out;have f2:=frozen_of_row _ _ 7 _ _ R2.out;have f3:=frozen_of_row _ _ 8 _ _ R2.out;obtain ⟨q0,q1,q2,q3,q4,q5,q6,q7,q8,q9,q10,q11,q12,q13⟩:=rowc14 R2.out;have r1:=heap_setCell_same W2 P 9 _ _ (.int .u64 v) R2.out;simp at r1;have r2:=heap_setCell_same _ P 7 _ _ (.int .i64 (v % 4)) r1;simp at r2;have r3:=heap_setCell_same _ P 8 _ _ (.int .i64 (v % 8)) r2;simp at r3;have R3:=Lib.hid r3;have HB3:=Lib.hid (((HB02.out.setCell (p:=⟨P,9,none⟩) hPw.out (.int .u64 v)).setCell (p:=⟨P,7,none⟩) hPw.out (.int .i64 (v % 4))).setCell (p:=⟨P,8,none⟩) hPw.out (.int .i64 (v % 8)));obtain ⟨W3,hW3⟩:∃W3,((W2.setCell ⟨P,9,none⟩ (.int .u64 v)).setCell ⟨P,7,none⟩ (.int .i64 (v % 4))).setCell ⟨P,8,none⟩ (.int .i64 (v % 8))=W3:=⟨_,rfl⟩;rw [hW3] at R3 HB3;have HW3:=Lib.hid hW3;clear hW3 r1 r2 r3;go_upto_region 2 with fail
 rw [HW3.out];clear HW3 f1 f2 f3 q0 q1 q2 q3 q4 q5 q6 q7 q8 q9 q10 q11 q12 q13;have HI3:=Lib.hid (HI.out.next HB3.out);have hP3:P<W3.heap.size:=(ltR R3);have KS:Hid (∀w',Below W3.heap.size W3 w'→(fun w':World=>(w'.cell? ⟨B,6,none⟩=some (.slice x.lA y.l.length x.lc))∧(w'.cell? ⟨P,0,none⟩=some (.int .i64 what)∧w'.cell? ⟨P,1,none⟩=some (.int .i64 1)∧w'.cell? ⟨P,2,none⟩=some (.slice x.cA y.c.caps.length x.cc)∧w'.cell? ⟨P,3,none⟩=some (.slice x.sA y.c.starts.length x.sc)∧w'.cell? ⟨P,4,none⟩=some (.int .i64 y.c.threads)∧w'.cell? ⟨P,5,none⟩=some (.int .i64 ch)∧w'.cell? ⟨P,6,none⟩=some (.int .i64 th)∧w'.cell? ⟨P,7,none⟩=some (.int .i64 (v % 4))∧w'.cell? ⟨P,8,none⟩=some (.int .i64 (v % 8))∧w'.cell? ⟨P,9,none⟩=some (.int .u64 v)∧w'.cell? ⟨P,10,none⟩=some (.int .u64 0)∧w'.cell? ⟨P,11,none⟩=some (.int .u64 0)∧w'.cell? ⟨P,12,none⟩=some (.int .i64 0)∧w'.cell? ⟨P,13,none⟩=some (.int .u64 0))) w'):=fun w' hb=>by
  obtain ⟨x0,x1,x2,x3,x4,x5,x6,x7,x8,x9⟩:=rowc10 (((below_then HB3.out hb).block B hBl).trans ROW.out);exact ⟨x6,rowc14 ((hb.block P hP3).trans R3.out)⟩
 have K2:Hid (∀w',w'.heap[B]?=some (.cells (x.row y) 44 (0,0))→w'.heap[P]?=some (.cells #[.int .i64 what,.int .i64 1,.slice x.cA y.c.caps.length x.cc,.slice x.sA y.c.starts.length x.sc,.int .i64 y.c.threads,.int .i64 ch,.int .i64 th,.int .i64 (v % 4),.int .i64 (v % 8),.int .u64 v,.int .u64 0,.int .u64 0,.int .i64 0,.int .u64 0] 58 (0,0))→(fun w':World=>(w'.cell? ⟨B,6,none⟩=some (.slice x.lA y.l.length x.lc))∧(w'.cell? ⟨P,0,none⟩=some (.int .i64 what)∧w'.cell? ⟨P,1,none⟩=some (.int .i64 1)∧w'.cell? ⟨P,2,none⟩=some (.slice x.cA y.c.caps.length x.cc)∧w'.cell? ⟨P,3,none⟩=some (.slice x.sA y.c.starts.length x.sc)∧w'.cell? ⟨P,4,none⟩=some (.int .i64 y.c.threads)∧w'.cell? ⟨P,5,none⟩=some (.int .i64 ch)∧w'.cell? ⟨P,6,none⟩=some (.int .i64 th)∧w'.cell? ⟨P,7,none⟩=some (.int .i64 (v % 4))∧w'.cell? ⟨P,8,none⟩=some (.int .i64 (v % 8))∧w'.cell? ⟨P,9,none⟩=some (.int .u64 v)∧w'.cell? ⟨P,10,none⟩=some (.int .u64 0)∧w'.cell? ⟨P,11,none⟩=some (.int .u64 0)∧w'.cell? ⟨P,12,none⟩=some (.int .i64 0)∧w'.cell? ⟨P,13,none⟩=some (.int .u64 0))) w'):=fun w' h1 h2=>by
  unfold WV.row at h1;obtain ⟨x0,x1,x2,x3,x4,x5,x6,x7,x8,x9⟩:=rowc10 h1;exact ⟨x6,rowc14 h2⟩
 go_cut [] (fun wx=>∃(lA2:Option Addr) (lc2:Nat),Hid (WI 44 w0 wx E B D { x with lA:=lA2,lc:=lc2 } { y with l:=y.l ++ [⟨what,1,ch,th,v % 4,v % 8,v,0,0,0,0⟩] })∧Hid (∀w3,OffS (WV.S { x with lA:=lA2,lc:=lc2 } E B) wx w3→OffS (x.S E B) w w3)∧Hid (wx.heap[P]?=some (.cells #[.int .i64 what,.int .i64 1,.slice x.cA y.c.caps.length x.cc,.slice x.sA y.c.starts.length x.sc,.int .i64 y.c.threads,.int .i64 ch,.int .i64 th,.int .i64 (v % 4),.int .i64 (v % 8),.int .u64 v,.int .u64 0,.int .u64 0,.int .i64 0,.int .u64 0] 58 (0,0)))∧Hid (Below B w wx))
 case first=>
  refine untilK KS 12 13 (by kernel_rfl) rfl ?_;obtain ⟨u0,hu0,HU0⟩:=drew_pack W3;rw [hu0];clear hu0;have hSU0:=KS.out _ HU0.out;apply tkV 0 hSU0 rfl (by kernel_rfl) (fun _ _ _ h=>h) rfl;intro w hSw;(go_simp<;>with_reducible rfl);simp only [J0,J1,J2,J3,J4];apply tkV 1 hSU0 rfl (by kernel_rfl) (fun _ _ _ h=>h) rfl;intro w hSw;(go_simp<;>with_reducible rfl);simp only [J0,J1,J2,J3,J4];apply tkV 2 hSU0 rfl (by kernel_rfl) (fun _ _ _ h=>h) rfl;intro w hSw;(go_simp<;>with_reducible rfl);simp only [J0,J1,J2,J3,J4];apply tkV 3 hSU0 rfl (by kernel_rfl) (fun _ _ _ h=>h) rfl;intro w hSw;(go_simp<;>with_reducible rfl);simp only [J0,J1,J2,J3,J4];apply tkV 4 hSU0 rfl (by kernel_rfl) (fun _ _ _ h=>h) rfl;intro w hSw;(go_simp<;>with_reducible rfl);simp only [J0,J1,J2,J3,J4];apply tkV 5 hSU0 rfl (by kernel_rfl) (fun _ _ _ h=>h) rfl;intro w hSw;(go_simp<;>with_reducible rfl);simp only [J0,J1,J2,J3,J4];apply tkV 6 hSU0 rfl (by kernel_rfl) (fun _ _ _ h=>h) rfl;intro w hSw;(go_simp<;>with_reducible rfl);simp only [J0,J1,J2,J3,J4];refine consU 7 rfl (by kernel_rfl) rfl fun K hK=>?_;go_simp;obtain ⟨u1,bI,hv,hXe,RL,hbX,ltI⟩:=alloc_pack u0 (.cells #[.int .i64 what,.int .i64 1,.slice x.cA y.c.caps.length x.cc,.slice x.sA y.c.starts.length x.sc,.int .i64 y.c.threads,.int .i64 ch,.int .i64 th,.int .i64 (v % 4),.int .i64 (v % 8),.int .u64 v,.int .u64 0,.int .u64 0,.int .i64 0,.int .u64 0] 58);rw [hv,hXe];have HU1:=Lib.hid (below_then HU0.out hbX.out);clear hv hXe hbX;refine hK.out _ _ ?_ fun hSU1=>?_;exact KS.out _ HU1.out;clear hK K hSU0;(try simp only [J0,J1,J2,J3,J4]);refine consU 8 rfl (by kernel_rfl) rfl fun K hK=>?_;refine step_append_s (w:=u1) 35 (by kernel_rfl) Try.info_mach rfl (by decide) (by decide) (by rfl) _ _ (by rfl) (by rfl) (HI3.out.next HU1.out).ol (machL (x.vc y.c) (x.vs y.c) y.c.threads ⟨what,1,ch,th,v % 4,v % 8,v,0,0,0,0⟩) rfl (by intro u hu; simp only [machL,List.mem_cons,List.not_mem_nil,or_false] at hu; rcases hu with rfl | rfl | rfl | rfl | rfl | rfl | rfl | rfl | rfl | rfl | rfl | rfl | rfl | rfl <;> rfl) bI (by rfl) RL.out (by rw [List.length_map]; omega) (HI3.out.next HU1.out).Dw ?_
  intro v9 u2 ho9 hg9 hbk9;obtain ⟨lA2,lc2,e9⟩:=ho9.len;rw [List.length_append,List.length_map,List.length_singleton] at e9;subst e9;have HO9:=Lib.hid ho9;have HG9:=Lib.hid hg9;have HK9:=Lib.hid hbk9;clear ho9 hg9 hbk9;have hLo:Hid (∀j,(x.vl y).ownBlock=some j→j<w.heap.size∧D≤j):=fun j hj=>⟨(HI.out.ol.lt j hj).2,(HI.out.ol.lt j hj).1⟩;have RB9:=Lib.hid ((HG9.out.block B (HI3.out.next HU1.out).lt (fun e=>by have:=(hLo.out B e.symm).2; have:=HI.out.BD; omega)).trans (HI3.out.next HU1.out).row);have RP9:=Lib.hid ((HG9.out.block P (Nat.lt_of_lt_of_le hP3 HU1.out.size) (fun e=>by have:=(hLo.out P e.symm).1; have:=hPw.out; omega)).trans ((HU1.out.block P hP3).trans R3.out));refine hK.out _ _ ?_ fun hSU2=>?_;exact K2.out _ RB9.out RP9.out;clear hK K hSU1;(try simp only [J0,J1,J2,J3,J4]);apply tkW 9 (fun _=>hSU2) rfl (by kernel_rfl) (fun _ _ _ h=>h) rfl;intro w;(go_simp<;>with_reducible rfl);simp only [J0,J1,J2,J3,J4];apply tkW 10 (fun _=>hSU2) rfl (by kernel_rfl) (fun _ _ _ h=>h) rfl;intro w;(go_simp<;>with_reducible rfl);simp only [J0,J1,J2,J3,J4];apply tkV 11 hSU2 rfl (by kernel_rfl) (fun _ _ _ h=>h) rfl;intro w hSw;(go_simp<;>with_reducible rfl);simp only [J0,J1,J2,J3,J4];refine freeU 12 rfl (by kernel_rfl) rfl (by kernel_rfl) fun K hK=>?_;have RB9':=RB9.out;unfold WV.row at RB9';obtain ⟨x0,x1,x2,x3,x4,x5,x6,x7,x8,x9⟩:=rowc10 RB9';have f6:=frozen_of_row _ _ 6 _ _ RB9';clear RB9';go_simp;refine hK.out _ _ ?_;clear hK K hSU2;(try simp only [J0,J1,J2,J3,J4]);refine wpAnyU_done (by kernel_rfl) ?_ _;clear x0 x1 x2 x3 x4 x5 x6 x7 x8 x9 f6;obtain ⟨HIa,HINa⟩:=(HI3.out.next HU1.out).addL (z:=⟨what,1,ch,th,v % 4,v % 8,v,0,0,0,0⟩) HO9.out HG9.out (by have:=HK9.out; rw [WV.vl,own_addr,own_addr] at this; exact this);have HIF:=Lib.hid HIa;have HINF:Hid (∀w3,OffS (WV.S { x with lA:=lA2,lc:=lc2 } E B) _ w3→OffS (x.S E B) w w3):=fun w3 h3=>(OffS.below (below_then HB3.out HU1.out)).trans1 (HINa w3 h3);have RPF:=Lib.hid ((heap_setCell_other _ ⟨B,6,none⟩ P (.slice lA2 (y.l.length+1) lc2) (by have:=hPw.out; show P≠B; omega)).trans RP9.out)
  clear HIa HINa;have HBX:=Lib.hid ((((below_then HB3.out HU1.out).mono (Nat.le_of_lt hBl)).grown HG9.out (by have:=HU1.out.size; have:=HB3.out.size; omega) (fun j hj=>by have:=(hLo.out j hj).2; have:=HI.out.BD; omega)).setCell (p:=⟨B,6,none⟩) (Nat.le_refl _) (.slice lA2 (y.l.length+1) lc2));go_wp2_with fail;go_meet;exact ⟨lA2,lc2,HIF,HINF,RPF,HBX⟩
 case rest=>
  obtain ⟨lA2,lc2,HI4,HIN4,RP4,HBX4⟩:=hcut;obtain ⟨w4,rfl⟩:∃w3:World,w3=wc:=⟨_,rfl⟩;clear KS K2;have hB4:=HI4.out.lt;have hP4:=(ltR RP4);obtain ⟨W5,hW5⟩:∃W5,w4.alloc (.cells #[.int .i64 0,.int .i64 0,.slice none 0 0,.slice none 0 0,.slice none 0 0] 61)=W5:=⟨_,rfl⟩;have HB5:Hid (Below w4.heap.size w4 W5):=hW5▸below_new (Below.refl w4.heap.size w4) _;have RF:Hid (W5.heap[w4.heap.size]?=some (.cells #[.int .i64 0,.int .i64 0,.slice none 0 0,.slice none 0 0,.slice none 0 0] 61 (0,0))):=hW5▸heap_alloc_new _ _;have HW5:=Lib.hid hW5;clear hW5;have hFw:Hid (w.heap.size≤w4.heap.size):=by show w.heap.size≤w4.heap.size; have:=HI4.out.below.size; have h2:=hPw.out; omega
  go_upto_region 4 with fail
  rw [HW5.out];clear HW5;obtain ⟨F,hF⟩:∃F,w4.heap.size=F:=⟨_,rfl⟩;rw [hF] at RF hFw;rw [hF];have HF4:=Lib.hid hF;clear hF;have TO:=Lib.hid fun w'=>wown_any (x.vc y.c) (x.vs y.c) ⟨_,_,_,rfl⟩ ⟨_,_,_,rfl⟩ y.c.threads ⟨what,1,ch,th,v % 4,v % 8,v,0,0,0,0⟩ w';have hown2:ownM ⟨what,1,ch,th,v % 4,v % 8,v,0,0,0,0⟩=true:=hwh;have HOWN:Hid (ownM ⟨what,1,ch,th,v % 4,v % 8,v,0,0,0,0⟩=true):=hown2;rw [hown2] at TO;unfold machL WV.vc WV.vs at TO;try dsimp only at TO
  obtain ⟨q0,q1,q2,q3,q4,q5,q6,q7,q8,q9,q10,q11,q12,q13⟩:=rowc14 ((HB5.out.block P hP4).trans RP4.out);clear hown2;go_wp2_with fail;refine (TO.out _).mono ?_; rintro e w6 ⟨rfl,hb6⟩;have HB6:=Lib.hid (below_then HB5.out hb6);have RF6:=keepR hb6 RF;clear hb6 TO q0 q1 q2 q3 q4 q5 q6 q7 q8 q9 q10 q11 q12 q13 RF;have RB4:=HI4.out.row;unfold WV.row at RB4;have RB4:=Lib.hid RB4;have TS:=Lib.hid HST.out;unfold Starts machL WV.vc WV.vs at TS;try dsimp only at TS
  have KS:Hid (∀w',Below w4.heap.size w4 w'→(fun w':World=>(w'.cell? ⟨B,0,none⟩=some (.slice x.cA y.c.caps.length x.cc)∧w'.cell? ⟨B,1,none⟩=some (.slice x.sA y.c.starts.length x.sc)∧w'.cell? ⟨B,2,none⟩=some (.int .i64 y.c.threads))∧(w'.cell? ⟨P,0,none⟩=some (.int .i64 what)∧w'.cell? ⟨P,1,none⟩=some (.int .i64 1)∧w'.cell? ⟨P,2,none⟩=some (.slice x.cA y.c.caps.length x.cc)∧w'.cell? ⟨P,3,none⟩=some (.slice x.sA y.c.starts.length x.sc)∧w'.cell? ⟨P,4,none⟩=some (.int .i64 y.c.threads)∧w'.cell? ⟨P,5,none⟩=some (.int .i64 ch)∧w'.cell? ⟨P,6,none⟩=some (.int .i64 th)∧w'.cell? ⟨P,7,none⟩=some (.int .i64 (v % 4))∧w'.cell? ⟨P,8,none⟩=some (.int .i64 (v % 8))∧w'.cell? ⟨P,9,none⟩=some (.int .u64 v)∧w'.cell? ⟨P,10,none⟩=some (.int .u64 0)∧w'.cell? ⟨P,11,none⟩=some (.int .u64 0)∧w'.cell? ⟨P,12,none⟩=some (.int .i64 0)∧w'.cell? ⟨P,13,none⟩=some (.int .u64 0))) w'):=fun w' hb=>by
   obtain ⟨x0,x1,x2,x3,x4,x5,x6,x7,x8,x9⟩:=rowc10 ((hb.block B hB4).trans RB4.out);exact ⟨⟨x0,x1,x2⟩,rowc14 ((hb.block P hP4).trans RP4.out)⟩
  go_upto_region 5 with fail
  go_cut [] (fun wx=>∃r0 r1 s2 k2 l2 s3 k3 l3 s4 k4 l4,Hid (WI 44 w0 wx E B D { x with lA:=lA2,lc:=lc2 } { y with l:=y.l ++ [⟨what,1,ch,th,v % 4,v % 8,v,0,0,0,0⟩] })∧Hid (∀w3,OffS (WV.S { x with lA:=lA2,lc:=lc2 } E B) wx w3→OffS (x.S E B) w w3)∧Hid (R (OffS (WV.S { x with lA:=lA2,lc:=lc2 } E B) wx) y.c [.int .i64 r0,.int .i64 r1,.slice s2 k2 l2,.slice s3 k3 l3,.slice s4 k4 l4] ⟨what,1,ch,th,v % 4,v % 8,v,0,0,0,0⟩)∧Hid (wx.heap[F]?=some (.cells #[.int .i64 r0,.int .i64 r1,.slice s2 k2 l2,.slice s3 k3 l3,.slice s4 k4 l4] 61 (0,0)))∧Hid (Below B w wx))
  case first=>
   refine untilK KS 7 8 (by kernel_rfl) rfl ?_;obtain ⟨u0,hu0,HU00⟩:=drew_pack w6;rw [hu0];clear hu0;have HU0:=Lib.hid (below_then HB6.out HU00.out);have hSU0:=KS.out _ HU0.out;apply tkV 0 hSU0 rfl (by kernel_rfl) (fun _ _ _ h=>h) rfl;intro w hSw;(go_simp<;>with_reducible rfl);simp only [J0,J1,J2,J3,J4];apply tkV 1 hSU0 rfl (by kernel_rfl) (fun _ _ _ h=>h) rfl;intro w hSw;(go_simp<;>with_reducible rfl);simp only [J0,J1,J2,J3,J4];apply tkV 2 hSU0 rfl (by kernel_rfl) (fun _ _ _ h=>h) rfl;intro w hSw;(go_simp<;>with_reducible rfl);simp only [J0,J1,J2,J3,J4];apply tkV 3 hSU0 rfl (by kernel_rfl) (fun _ _ _ h=>h) rfl;intro w hSw;(go_simp<;>with_reducible rfl);simp only [J0,J1,J2,J3,J4];apply tkV 4 hSU0 rfl (by kernel_rfl) (fun _ _ _ h=>h) rfl;intro w hSw;(go_simp<;>with_reducible rfl);simp only [J0,J1,J2,J3,J4];apply tkV 5 hSU0 rfl (by kernel_rfl) (fun _ _ _ h=>h) rfl;intro w hSw;(go_simp<;>with_reducible rfl);simp only [J0,J1,J2,J3,J4];refine consU 6 rfl (by kernel_rfl) rfl fun K hK=>?_;go_simp;go_at_call 32;refine (TS.out _ (HI4.out.next HU0.out).confV).mono ?_;rintro e u1 ⟨f2,rfl,hr2,hb⟩;obtain ⟨r0,r1,s2,k2,l2,s3,k3,l3,s4,k4,l4,rfl⟩:=hs.form hr2 HOWN.out;have HR2:=Lib.hid hr2;have HUb:=Lib.hid hb;have HU1:=Lib.hid (below_then HU0.out hb);clear hb hr2;try dsimp only
   refine hK.out _ _ ?_ fun hSU1=>?_;exact KS.out _ HU1.out;clear hK K hSU0;(try simp only [J0,J1,J2,J3,J4]);refine freeU 7 rfl (by kernel_rfl) rfl (by kernel_rfl) fun K hK=>?_;have RF8:=Lib.hid (((below_then HU00.out HUb.out).block F (ltR RF6)).trans RF6.out);refine step_store_row rfl 61 _ _ rfl F _ rfl rfl 61 _ RF8.out (by kernel_rfl) rfl (by simp [Value.oneCell']) ?_;refine hK.out _ _ ?_;clear hK K hSU1;(try simp only [J0,J1,J2,J3,J4]);refine wpAnyU_done (by kernel_rfl) ?_ _;have HUF:=Lib.hid (row_below HU1.out (Nat.le_of_eq HF4.out) #[.int .i64 r0,.int .i64 r1,.slice s2 k2 l2,.slice s3 k3 l3,.slice s4 k4 l4]);have hF0:Hid (F<u0.heap.size):=Nat.lt_of_lt_of_le (ltR RF6) HU00.out.size;have HRF:Hid (R (OffS (WV.S { x with lA:=lA2,lc:=lc2 } E B) (u1.setRow F #[.int .i64 r0,.int .i64 r1,.slice s2 k2 l2,.slice s3 k3 l3,.slice s4 k4 l4])) y.c [.int .i64 r0,.int .i64 r1,.slice s2 k2 l2,.slice s3 k3 l3,.slice s4 k4 l4] ⟨what,1,ch,th,v % 4,v % 8,v,0,0,0,0⟩):=hs.sub HR2.out fun w3 h3=>⟨Nat.le_trans (by simp [World.setRow]) h3.1,fun j h1 h2=>(h3.2 j (by simpa [World.setRow] using h2) (fun e=>by have:=HI4.out.Slt j e; have:=HU0.out.size; omega)).trans (setRow_other _ _ _ _ (by have:=hF0.out; omega))⟩;have RFF:=Lib.hid (setRow_heap u1 F _ #[.int .i64 r0,.int .i64 r1,.slice s2 k2 l2,.slice s3 k3 l3,.slice s4 k4 l4] _ (0,0) RF8.out);have HBX:=Lib.hid (HBX4.out.trans (HUF.out.mono (Nat.le_of_lt hB4)));have HIF:=Lib.hid (HI4.out.next HUF.out);have HINF:Hid (∀w3,OffS (WV.S { x with lA:=lA2,lc:=lc2 } E B) (u1.setRow F #[.int .i64 r0,.int .i64 r1,.slice s2 k2 l2,.slice s3 k3 l3,.slice s4 k4 l4]) w3→OffS (x.S E B) w w3):=fun w3 h3=>HIN4.out w3 ((OffS.below HUF.out).trans1 h3);go_wp2_with fail;go_meet;exact ⟨r0,r1,s2,k2,l2,s3,k3,l3,s4,k4,l4,HIF,HINF,HRF,RFF,HBX⟩
  case rest=>
   obtain ⟨r0,r1,s2,k2,l2,s3,k3,l3,s4,k4,l4,HI7,HIN7,HR7,RF7,HBX7⟩:=hcut;obtain ⟨w7,rfl⟩:∃w3:World,w3=wc:=⟨_,rfl⟩;clear KS TS RB4;have hB7:=HI7.out.lt;have hF7:=(ltR RF7);have K6:Hid (∀w',w'.heap[B]?=some (.cells (WV.row { x with lA:=lA2,lc:=lc2 } { y with l:=y.l ++ [⟨what,1,ch,th,v % 4,v % 8,v,0,0,0,0⟩] }) 44 (0,0))→w'.heap[F]?=some (.cells #[.int .i64 r0,.int .i64 r1,.slice s2 k2 l2,.slice s3 k3 l3,.slice s4 k4 l4] 61 (0,0))→(fun w':World=>(w'.cell? ⟨B,9,none⟩=some (.slice x.fA y.f.length x.fc))∧(w'.cell? ⟨F,0,none⟩=some (.int .i64 r0)∧w'.cell? ⟨F,1,none⟩=some (.int .i64 r1)∧w'.cell? ⟨F,2,none⟩=some (.slice s2 k2 l2)∧w'.cell? ⟨F,3,none⟩=some (.slice s3 k3 l3)∧w'.cell? ⟨F,4,none⟩=some (.slice s4 k4 l4))) w'):=fun w' h1 h2=>by
    unfold WV.row at h1;obtain ⟨x0,x1,x2,x3,x4,x5,x6,x7,x8,x9⟩:=rowc10 h1;obtain ⟨z0,z1,z2,z3,z4⟩:=rowc5 h2;exact ⟨x9,z0,z1,z2,z3,z4⟩
   have KS:Hid (∀w',Below w7.heap.size w7 w'→(fun w':World=>(w'.cell? ⟨B,9,none⟩=some (.slice x.fA y.f.length x.fc))∧(w'.cell? ⟨F,0,none⟩=some (.int .i64 r0)∧w'.cell? ⟨F,1,none⟩=some (.int .i64 r1)∧w'.cell? ⟨F,2,none⟩=some (.slice s2 k2 l2)∧w'.cell? ⟨F,3,none⟩=some (.slice s3 k3 l3)∧w'.cell? ⟨F,4,none⟩=some (.slice s4 k4 l4))) w'):=fun w' hb=>K6.out w' ((hb.block B hB7).trans HI7.out.row) ((hb.block F hF7).trans RF7.out);have hfI:((y.f.length:Nat):Int)<(y.f.length:Int)+1:=by omega
   go_upto_region 6 with fail
   have HSETE:Hid ((y.f ++ [([.int .i64 0,.int .i64 0,.slice none 0 0,.slice none 0 0,.slice none 0 0]:List Value)]).set y.f.length ([.int .i64 r0,.int .i64 r1,.slice s2 k2 l2,.slice s3 k3 l3,.slice s4 k4 l4]:List Value)=y.f ++ [([.int .i64 r0,.int .i64 r1,.slice s2 k2 l2,.slice s3 k3 l3,.slice s4 k4 l4]:List Value)]):=by show _=_; simp
   have KFR:Hid (∀nf fc2 wf,(∀w3,OffS (WV.S { x with lA:=lA2,lc:=lc2,fA:=some ⟨nf,0,none⟩,fc:=fc2 } E B) wf w3→OffS (WV.S { x with lA:=lA2,lc:=lc2 } E B) w7 w3)→FrI R (OffS (WV.S { x with lA:=lA2,lc:=lc2,fA:=some ⟨nf,0,none⟩,fc:=fc2 } E B) wf) { y with l:=y.l ++ [⟨what,1,ch,th,v % 4,v % 8,v,0,0,0,0⟩],f:=y.f ++ [[.int .i64 r0,.int .i64 r1,.slice s2 k2 l2,.slice s3 k3 l3,.slice s4 k4 l4]] }):=fun nf fc2 wf hin=>by
    refine ⟨by show (y.f ++ [_]).length=(y.l ++ [_]).length; simp [HF.out.1],fun j h4 h5=>?_⟩;have h6:j<y.f.length+1:=by simpa using h4
    by_cases hj:j=y.f.length
    ·have e1:(WM.f { y with l:=y.l ++ [⟨what,1,ch,th,v % 4,v % 8,v,0,0,0,0⟩],f:=y.f ++ [[.int .i64 r0,.int .i64 r1,.slice s2 k2 l2,.slice s3 k3 l3,.slice s4 k4 l4]] })[j]=[.int .i64 r0,.int .i64 r1,.slice s2 k2 l2,.slice s3 k3 l3,.slice s4 k4 l4]:=by subst hj; show (y.f ++ [_])[y.f.length]=_; simp
     have e2:(WM.l { y with l:=y.l ++ [⟨what,1,ch,th,v % 4,v % 8,v,0,0,0,0⟩],f:=y.f ++ [[.int .i64 r0,.int .i64 r1,.slice s2 k2 l2,.slice s3 k3 l3,.slice s4 k4 l4]] })[j]=⟨what,1,ch,th,v % 4,v % 8,v,0,0,0,0⟩:=by subst hj; show (y.l ++ [_])[y.f.length]=_; simp [HF.out.1]
     rw [e1,e2];exact hs.sub HR7.out hin
    ·have h7:j<y.f.length:=by omega
     have h8:j<y.l.length:=by rw [← HF.out.1]; exact h7
     have e1:(WM.f { y with l:=y.l ++ [⟨what,1,ch,th,v % 4,v % 8,v,0,0,0,0⟩],f:=y.f ++ [[.int .i64 r0,.int .i64 r1,.slice s2 k2 l2,.slice s3 k3 l3,.slice s4 k4 l4]] })[j]=y.f[j]:=by show (y.f ++ [_])[j]=_; rw [List.getElem_append_left h7]
     have e2:(WM.l { y with l:=y.l ++ [⟨what,1,ch,th,v % 4,v % 8,v,0,0,0,0⟩],f:=y.f ++ [[.int .i64 r0,.int .i64 r1,.slice s2 k2 l2,.slice s3 k3 l3,.slice s4 k4 l4]] })[j]=y.l[j]:=by show (y.l ++ [_])[j]=_; rw [List.getElem_append_left h8]
     rw [e1,e2];exact hs.sub (HF.out.2 j h7 h8) fun w3 h3=>HIN7.out w3 (hin w3 h3)
   refine untilK KS 7 13 (by kernel_rfl) rfl ?_;obtain ⟨u0,hu0,HU0⟩:=drew_pack w7;rw [hu0];clear hu0;have hSU0:=KS.out _ HU0.out;apply tkV 0 hSU0 rfl (by kernel_rfl) (fun _ _ _ h=>h) rfl;intro w hSw;(go_simp<;>with_reducible rfl);simp only [J0,J1,J2,J3,J4];apply tkV 1 hSU0 rfl (by kernel_rfl) (fun _ _ _ h=>h) rfl;intro w hSw;(go_simp<;>with_reducible rfl);simp only [J0,J1,J2,J3,J4];apply tkV 2 hSU0 rfl (by kernel_rfl) (fun _ _ _ h=>h) rfl;intro w hSw;(go_simp<;>with_reducible rfl);simp only [J0,J1,J2,J3,J4];apply tkV 3 hSU0 rfl (by kernel_rfl) (fun _ _ _ h=>h) rfl;intro w hSw;(go_simp<;>with_reducible rfl);simp only [J0,J1,J2,J3,J4];apply tkV 4 hSU0 rfl (by kernel_rfl) (fun _ _ _ h=>h) rfl;intro w hSw;(go_simp<;>with_reducible rfl);simp only [J0,J1,J2,J3,J4];apply tkV 5 hSU0 rfl (by kernel_rfl) (fun _ _ _ h=>h) rfl;intro w hSw;(go_simp<;>with_reducible rfl);simp only [J0,J1,J2,J3,J4];refine consU 6 rfl (by kernel_rfl) rfl fun K hK=>?_;go_simp;obtain ⟨u1,bI,hv,hXe,RL,hbX,ltI⟩:=alloc_pack u0 (.cells #[.int .i64 0,.int .i64 0,.slice none 0 0,.slice none 0 0,.slice none 0 0] 61);rw [hv,hXe];have HU1:=Lib.hid (below_then HU0.out hbX.out);clear hv hXe hbX;refine hK.out _ _ ?_ fun hSU1=>?_;exact KS.out _ HU1.out;clear hK K hSU0;(try simp only [J0,J1,J2,J3,J4]);refine freeU 7 rfl (by kernel_rfl) rfl (by kernel_rfl) fun K hK=>?_;refine step_append_s (w:=u1) 42 (by kernel_rfl) Try.info_frame rfl (by decide) (by decide) (by rfl) _ _ (by rfl) (by rfl) (HI7.out.next HU1.out).of [.int .i64 0,.int .i64 0,.slice none 0 0,.slice none 0 0,.slice none 0 0] rfl (by intro u hu; simp only [List.mem_cons,List.not_mem_nil,or_false] at hu; rcases hu with rfl | rfl | rfl | rfl | rfl <;> rfl) bI (by rfl) RL.out (by show y.f.length≤1000000; omega) (HI7.out.next HU1.out).Dw ?_;intro v9 u2 ho9 hg9 hbk9;obtain ⟨nf,fc2,e9,hnf,hnfs,-⟩:=ho9.open (by simp);rw [List.length_append,List.length_singleton] at e9;subst e9;have HO9:=Lib.hid ho9;have HG9:=Lib.hid hg9;have HK9:=Lib.hid hbk9;have hnfD:=Lib.hid hnf
   clear ho9 hg9 hbk9 hnf;have hLo:Hid (∀j,(x.vf y).ownBlock=some j→j<w.heap.size∧D≤j):=fun j hj=>⟨(HI.out.of.lt j hj).2,(HI.out.of.lt j hj).1⟩;have hnF:Hid (nf≠F):=fun e=>by have h1:=HK9.out; have h2:=HU1.out.size; rcases h1 with h1 | h1; have:=(hLo.out nf h1.symm).1; have:=hFw.out; omega; (simp only [Value.ownBlock,Option.some.injEq] at h1; omega)
   have RB9:=Lib.hid ((HG9.out.block B (HI7.out.next HU1.out).lt (fun e=>by have:=(hLo.out B e.symm).2; have:=HI.out.BD; omega)).trans (HI7.out.next HU1.out).row);have RF9:=Lib.hid ((HG9.out.block F (Nat.lt_of_lt_of_le hF7 HU1.out.size) (fun e=>by have:=(hLo.out F e.symm).1; have:=hFw.out; omega)).trans ((HU1.out.block F hF7).trans RF7.out));refine hK.out _ _ ?_;clear hK K hSU1;(try simp only [J0,J1,J2,J3,J4]);apply tkW 8 (past_k (by kernel_rfl)) rfl (by kernel_rfl) (fun _ _ _ h=>h) rfl;intro w;(go_simp<;>with_reducible rfl);simp only [J0,J1,J2,J3,J4];apply tkW 10 (past_k (by kernel_rfl)) rfl (by kernel_rfl) (fun _ _ _ h=>h) rfl;intro w;(go_simp<;>with_reducible rfl);simp only [J0,J1,J2,J3,J4];apply tkW 11 (past_k (by kernel_rfl)) rfl (by kernel_rfl) (fun _ _ _ h=>h) rfl;intro w;(go_simp<;>with_reducible rfl);simp only [J0,J1,J2,J3,J4];refine wpAnyU_ready (rs:=[9,12]) (by kernel_rfl) rfl ?_;refine AllReadyU.free la9 rfl (by kernel_rfl) (fun K hK=>?_) ?_
   ·refine step_store_mid rfl 61 _ _ rfl nf (y.f.length * 5) #[.int .i64 r0,.int .i64 r1,.slice s2 k2 l2,.slice s3 k3 l3,.slice s4 k4 l4] (by rfl) (by rfl) (HO9.out.row y.f.length (by simp)).2 (by kernel_rfl) (by simp [Value.oneCell']) ?_
    refine hK.out _ _ ?_;clear hK K;(try simp only [J0,J1,J2,J3,J4]);refine freeU 12 rfl (by kernel_rfl) rfl (by kernel_rfl) fun K hK=>?_;have RB9':=(setCells_other nf [.int .i64 r0,.int .i64 r1,.slice s2 k2 l2,.slice s3 k3 l3,.slice s4 k4 l4] (y.f.length * 5) u2 B (by have:=hnfD.out; have:=HI.out.BD; omega)).trans RB9.out;unfold WV.row at RB9';have RB9'':=Lib.hid RB9';have HG10:=Lib.hid (setCells_grown nf [.int .i64 r0,.int .i64 r1,.slice s2 k2 l2,.slice s3 k3 l3,.slice s4 k4 l4] (y.f.length * 5) u2);have HO10:=Lib.hid (HO9.out.setRow (r:=[.int .i64 r0,.int .i64 r1,.slice s2 k2 l2,.slice s3 k3 l3,.slice s4 k4 l4]) y.f.length (by simp) rfl (by intro u hu; simp only [List.mem_cons,List.not_mem_nil,or_false] at hu; rcases hu with rfl | rfl | rfl | rfl | rfl <;> rfl));obtain ⟨u4,hu4⟩:∃u4,u2.setCells nf (y.f.length * 5) [.int .i64 r0,.int .i64 r1,.slice s2 k2 l2,.slice s3 k3 l3,.slice s4 k4 l4]=u4:=⟨_,rfl⟩;rw [hu4] at RB9'' HG10 HO10;simp only [hu4];clear RB9' hu4;obtain ⟨x0,x1,x2,x3,x4,x5,x6,x7,x8,x9⟩:=rowc10 RB9''.out;have f9:=frozen_of_row _ _ 9 _ _ RB9''.out;go_simp;refine hK.out _ _ ?_;clear hK K;(try simp only [J0,J1,J2,J3,J4]);refine wpAnyU_done (by kernel_rfl) ?_ _;clear x0 x1 x2 x3 x4 x5 x6 x7 x8 x9 f9;rw [HSETE.out] at HO10;have hgr:Hid (u1.grownBy u4 (x.vf y).ownBlock):=by
     have h1:=HK9.out;refine ⟨HG10.out.os.trans HG9.out.os,HG10.out.tape.trans HG9.out.tape,HG10.out.output.trans HG9.out.output,Nat.le_trans HG9.out.size HG10.out.size,fun j hj hn=>(HG10.out.block j (Nat.lt_of_lt_of_le hj HG9.out.size) (fun e=>?_)).trans (HG9.out.block j hj hn)⟩;cases e;rcases h1 with h1 | h1
     ·exact hn h1
     ·simp only [Value.ownBlock,Option.some.injEq] at h1; omega
    obtain ⟨HIa,HINa⟩:=(HI7.out.next HU1.out).addF (z:=[.int .i64 r0,.int .i64 r1,.slice s2 k2 l2,.slice s3 k3 l3,.slice s4 k4 l4]) HO10.out hgr.out (by have:=HK9.out; rw [WV.vf,own_addr,own_addr] at this; exact this);have HIF:=Lib.hid HIa;have HINF:=Lib.hid fun w3 h3=>(OffS.below (S:=WV.S { x with lA:=lA2,lc:=lc2 } E B) HU1.out).trans1 (HINa w3 h3);clear HIa HINa;have HBX:=Lib.hid (((HBX7.out.trans (HU1.out.mono (Nat.le_of_lt hB7))).grown hgr (by have:=HU1.out.size; omega) (fun j hj=>by have:=(hLo.out j hj).2; have:=HI.out.BD; omega)).setCell (p:=⟨B,9,none⟩) (Nat.le_refl _) (.slice (some ⟨nf,0,none⟩) (y.f.length+1) fc2));have HFF:=Lib.hid (KFR.out _ _ _ HINF.out);go_wp2_with fail;go_end0; exact ⟨_,[.int .i64 r0,.int .i64 r1,.slice s2 k2 l2,.slice s3 k3 l3,.slice s4 k4 l4],rfl,HIF,HFF,HBX,Lib.hid fun w3 h3=>HIN7.out _ (HINF.out _ h3)⟩
   refine AllReadyU.free la12 rfl (by kernel_rfl) (fun K hK=>?_) ?_
   ·have RB9':=RB9.out
    unfold WV.row at RB9';obtain ⟨x0,x1,x2,x3,x4,x5,x6,x7,x8,x9⟩:=rowc10 RB9';have f9:=frozen_of_row _ _ 9 _ _ RB9';clear RB9';go_simp;clear x0 x1 x2 x3 x4 x5 x6 x7 x8 x9 f9;refine hK.out _ _ ?_;clear hK K;(try simp only [J0,J1,J2,J3,J4]);refine freeU 9 rfl (by kernel_rfl) rfl (by kernel_rfl) fun K hK=>?_;refine step_store_mid rfl 61 _ _ rfl nf (y.f.length * 5) #[.int .i64 r0,.int .i64 r1,.slice s2 k2 l2,.slice s3 k3 l3,.slice s4 k4 l4] (by rfl) (by rfl) ((HO9.out.keptB (o:=9) (u:=.slice (some ⟨nf,0,none⟩) (y.f.length+1) fc2) HI.out.BD).row y.f.length (by simp)).2 (by kernel_rfl) (by simp [Value.oneCell']) ?_;refine hK.out _ _ ?_;clear hK K;(try simp only [J0,J1,J2,J3,J4]);refine wpAnyU_done (by kernel_rfl) ?_ _;obtain ⟨HIa,HINa⟩:=(HI7.out.next HU1.out).addF (z:=[.int .i64 0,.int .i64 0,.slice none 0 0,.slice none 0 0,.slice none 0 0]) HO9.out HG9.out (by have:=HK9.out; rw [WV.vf,own_addr,own_addr] at this; exact this);obtain ⟨HIb,HINb⟩:=HIa.setF (b:=nf) (i:=y.f.length) (z:=[.int .i64 r0,.int .i64 r1,.slice s2 k2 l2,.slice s3 k3 l3,.slice s4 k4 l4]) (n:=y.f.length+1) (cap:=fc2) (by show Value.slice _ (y.f ++ [_]).length _=_; simp) (by show y.f.length<(y.f ++ [_]).length; simp) rfl (by intro u hu; simp only [List.mem_cons,List.not_mem_nil,or_false] at hu; rcases hu with rfl | rfl | rfl | rfl | rfl <;> rfl);have HINF:=Lib.hid fun w3 h3=>(OffS.below (S:=WV.S { x with lA:=lA2,lc:=lc2 } E B) HU1.out).trans1 (HINa w3 (HINb w3 h3));have HBX:=Lib.hid ((((HBX7.out.trans (HU1.out.mono (Nat.le_of_lt hB7))).grown HG9.out (by have:=HU1.out.size; omega) (fun j hj=>by have:=(hLo.out j hj).2; have:=HI.out.BD; omega)).setCell (p:=⟨B,9,none⟩) (Nat.le_refl _) (.slice (some ⟨nf,0,none⟩) (y.f.length+1) fc2)).grown (setCells_grown nf [.int .i64 r0,.int .i64 r1,.slice s2 k2 l2,.slice s3 k3 l3,.slice s4 k4 l4] (y.f.length * 5) _) (by have:=HU1.out.size; have:=HG9.out.size; simp; omega) (fun j hj=>by cases hj; have:=hnfD.out; have:=HI.out.BD; omega));have HIF:=Lib.hid HIb;dsimp only at HIF;rw [HSETE.out] at HIF
    clear HIa HINa HIb HINb;have HFF:=Lib.hid (KFR.out _ _ _ HINF.out);go_wp2_with fail;go_end0; exact ⟨_,[.int .i64 r0,.int .i64 r1,.slice s2 k2 l2,.slice s3 k3 l3,.slice s4 k4 l4],rfl,HIF,HFF,HBX,Lib.hid fun w3 h3=>HIN7.out _ (HINF.out _ h3)⟩
   exact AllReadyU.nil
def pcI (m:MachM):Int:=if m.what=7 then 1 else if m.what=8 then 2 else if m.what=10 then 3 else if m.what=11 then 4 else 4+m.pl
abbrev PuT (w:World) (c:ConfM) (t x y z:Int) (W L:Value):Prop:=PuV w (c.thrW t) (c.thrW t+1) (c.thrW t+2) (c.thrW t+3) (c.thrW t+4) x y z W L
def PuR (G:World→Prop) (c:ConfM) (f:List Value) (m:MachM):Prop:=
 ownM m=true→c.good∧clK c m∧((m.pl=0∧m.ov=0∧f=puL m.ok 10 nilS nilS)∨(m.pl≠0∧m.ok=0∧m.ov=0∧∃wa wn wc la ln lc x y z,f=puL 0 (pcI m) (.slice wa wn wc) (.slice la ln lc)∧(m.what=9→x=m.idx∧y=m.kind∧z=m.val)∧∀w,G w→PuT w c m.thr x y z (.slice wa wn wc) (.slice la ln lc)))
theorem what_own {m:MachM} (h:7≤m.what):ownM m=true:=by unfold ownM; simpa using h
theorem clRE_what (c:ConfM) (m:MachM) (b:AnsM):(clRE c m b).what=m.what:=by
 unfold clRE;split
 ·rfl
 split
 ·split
  ·rfl
  ·split <;> rfl
 split
 ·split <;> rfl
 split
 ·split <;> rfl
 ·rfl
theorem pu_same {G:World→Prop} {w w':World} {c:ConfM} {m r:MachM} {wa la:Option Addr} {wn wc ln lc:Nat} {x y z:Int} (hg:c.good) (hK:clK c r) (hv:∀w,G w→PuT w c m.thr x y z (.slice wa wn wc) (.slice la ln lc)) (hx:r.what=9→x=r.idx∧y=r.kind∧z=r.val) (h0:r.pl≠0) (h1:r.ok=0) (h2:r.ov=0) (h3:r.thr=m.thr) {pc:Int} (hpc:pcI r=pc):PuR (Nx G w w') c (puL 0 pc (.slice wa wn wc) (.slice la ln lc)) r:=fun _=>
 ⟨hg,hK,.inr ⟨h0,h1,h2,wa,wn,wc,la,ln,lc,x,y,z,by rw [hpc],hx,fun w2 h=>by rw [h3]; exact hv w2 h.1⟩⟩
theorem pu_end {G:World→Prop} {c:ConfM} {r:MachM} (hg:c.good) (hK:clK c r) (h0:r.pl=0) (h2:r.ov=0) {k:Int} (hk:r.ok=k):PuR G c (puL k 10 nilS nilS) r:=fun _=>⟨hg,hK,.inl ⟨h0,h2,by rw [hk]⟩⟩
theorem pcI_7 {m:MachM} (h:m.what=7):pcI m=1:=by unfold pcI; rw [if_pos h]
theorem pcI_8 {m:MachM} (h:m.what=8):pcI m=2:=by unfold pcI; rw [if_neg (by omega),if_pos h]
theorem pcI_10 {m:MachM} (h:m.what=10):pcI m=3:=by unfold pcI; rw [if_neg (by omega),if_neg (by omega),if_pos h]
theorem pcI_11 {m:MachM} (h:m.what=11):pcI m=4:=by unfold pcI; rw [if_neg (by omega),if_neg (by omega),if_neg (by omega),if_pos h]
theorem pcI_9 {m:MachM} (h:m.what=9):pcI m=4+m.pl:=by unfold pcI; rw [if_neg (by omega),if_neg (by omega),if_neg (by omega),if_neg (by omega)]
theorem pu_sim:Sim clNE clRE ownM PuR where
 sub:=fun h hw ho=>⟨(h ho).1,(h ho).2.1,(h ho).2.2.imp id fun ⟨h1,h2,h3,wa,wn,wc,la,ln,lc,x,y,z,h4,h5,h6⟩=>⟨h1,h2,h3,wa,wn,wc,la,ln,lc,x,y,z,h4,h5,fun w hG=>h6 w (hw w hG)⟩⟩
 form:=fun h ho=>by
  obtain ⟨-,-,⟨_,_,rfl⟩ | ⟨_,_,_,wa,wn,wc,la,ln,lc,x,y,z,rfl,_⟩⟩:=h ho
  ·exact ⟨_,_,_,_,_,_,_,_,_,_,_,rfl⟩
  ·exact ⟨_,_,_,_,_,_,_,_,_,_,_,rfl⟩
 ends:=fun {G c f m} w hG h ho=>by
  obtain ⟨hg,hK,⟨h1,h2,rfl⟩ | ⟨h1,h2,h3,wa,wn,wc,la,ln,lc,x,y,z,rfl,hx,hv⟩⟩:=h ho
  ·rw [h1,h2]
   exact End_end _ w
  ·rw [h2,h3,show (m.pl == (0:Int))=false from by simpa using h1]
   refine End_run 0 _ ?_ _ _ _ _ _ _ w;have hp:=hK.pl;rcases hK.what with hw | hw | hw | hw | hw
   ·rw [pcI_7 hw]; decide
   ·rw [pcI_8 hw]; decide
   ·rw [pcI_9 hw]; omega
   ·rw [pcI_10 hw]; decide
   ·rw [pcI_11 hw]; decide
 next:=fun {G c f m} w hG h ho=>by
  obtain ⟨hg,hK,⟨h1,h2,rfl⟩ | ⟨h1,h2,h3,wa,wn,wc,la,ln,lc,x,y,z,rfl,hx,hv⟩⟩:=h ho
  ·unfold clNE
   rw [if_pos h1];exact Next_of w fun w' _=>next_10 _ w'
  ·have hp:=hK.pl
   have HV:=hv w hG;rcases hK.what with hw | hw | hw | hw | hw
   ·rw [pcI_7 hw,clNE_7_1 hw (by omega)]; exact Next_of w fun w' hb=>next_1 _ _ _ _ _ _ _ _ _ _ w' (HV.below hb)
   ·rw [pcI_8 hw,clNE_8_1 hw (by omega)]; exact Next_of w fun w' hb=>next_2 _ _ _ _ _ _ _ _ _ _ w' (HV.below hb)
   ·obtain ⟨rfl,rfl,rfl⟩:=hx hw
    have hps:m.pl=1∨m.pl=2∨m.pl=3∨m.pl=4∨m.pl=5:=by omega
    rw [pcI_9 hw];rcases hps with h5 | h5 | h5 | h5 | h5
    ·rw [clNE_9_1 hw h5,h5]; exact Next_of w fun w' hb=>next_5 _ _ _ _ _ _ _ _ _ _ w' (HV.below hb)
    ·rw [clNE_9_2 hw h5,h5]; exact Next_of w fun w' hb=>next_6 _ _ _ _ _ _ _ _ _ _ w' (HV.below hb)
    ·rw [clNE_9_3 hw h5,h5]; exact Next_of w fun w' hb=>next_7 _ _ _ _ _ _ _ _ _ _ w' (HV.below hb)
    ·rw [clNE_9_4 hw h5,h5]; exact Next_of w fun w' hb=>next_8 _ _ _ _ _ _ _ _ _ _ w' (HV.below hb)
    ·rw [clNE_9_5 hw h5,h5]; exact Next_of w fun w' hb=>next_9 _ _ _ _ _ _ _ _ _ _ w' (HV.below hb)
   ·rw [pcI_10 hw,clNE_10_1 hw (by omega)]; exact Next_of w fun w' hb=>next_3 _ _ _ _ _ _ _ _ _ _ w' (HV.below hb)
   ·rw [pcI_11 hw,clNE_11_1 hw (by omega)]; exact Next_of w fun w' hb=>next_4 _ _ _ _ _ _ _ _ _ _ w' (HV.below hb)
 resume:=fun {G c f m} w b zA zn zc hbv hG h ho hp=>by
  obtain ⟨hg,hK,⟨h1,h2,rfl⟩ | ⟨hp2,hok,hov,wa,wn,wc,la,ln,lc,x,y,z,rfl,hx,hv⟩⟩:=h ho
  ·exact absurd h1 hp
  have KR:=clK_RE (b:=b) hK;have hpl:=hK.pl;obtain ⟨wb,wo,wc',lb,lo,lc',e1,e2,-⟩:=(hv w hG).open;cases e1;cases e2;rcases hK.what with hw | hw | hw | hw | hw
  ·rw [pcI_7 hw]
   cases hbo:b.ok with
   | true=>
    have e:clRE c m b={ m with pl:=0,ok:=7,ov:=0 }:=by unfold clRE; rw [if_neg hp,if_pos hw,if_pos hbo]
    rw [e] at KR ⊢;refine (Resume_of w fun w' hb=>b1k wb wo wc lb lo lc b.val true b.late zA zn zc w').mono ?_;rintro e' w' ⟨rfl,hb'⟩;exact ⟨_,rfl,pu_end hg KR rfl rfl rfl,hb'⟩
   | false=>
    by_cases h2:b.val=2
    ·have e:clRE c m b=m:=by unfold clRE; rw [if_neg hp,if_pos hw,if_neg (by simp [hbo]),if_pos h2]
     rw [e] at KR ⊢;rw [h2];refine (Resume_of w fun w' hb=>b1r wb wo wc lb lo lc 0 false b.late zA zn zc w').mono ?_;rintro e' w' ⟨rfl,hb'⟩;exact ⟨_,rfl,pu_same (m:=m) hg KR hv hx hp2 hok hov rfl (pcI_7 hw),hb'⟩
    ·have e:clRE c m b={ m with pl:=0,ok:=8,ov:=0 }:=by unfold clRE; rw [if_neg hp,if_pos hw,if_neg (by simp [hbo]),if_neg h2]
     rw [e] at KR ⊢;refine (Resume_of w fun w' hb=>b1n wb wo wc lb lo lc b.val false b.late zA zn zc h2 w').mono ?_;rintro e' w' ⟨rfl,hb'⟩;exact ⟨_,rfl,pu_end hg KR rfl rfl rfl,hb'⟩
  ·rw [pcI_8 hw]
   have e:clRE c m b={ m with pl:=0,ok:=1,ov:=0 }:=by unfold clRE; rw [if_neg hp,if_neg (by omega),if_neg (by omega),if_neg (by omega)]
   rw [e] at KR ⊢;refine (Resume_of w fun w' hb=>b2 wb wo wc lb lo lc b.val b.ok b.late zA zn zc w').mono ?_;rintro e' w' ⟨rfl,hb'⟩;exact ⟨_,rfl,pu_end hg KR rfl rfl rfl,hb'⟩
  ·rw [pcI_9 hw]
   have hps:m.pl=1∨m.pl=2∨m.pl=3∨m.pl=4∨m.pl=5:=by omega
   by_cases h5:m.pl<5
   ·have e:clRE c m b={ m with pl:=m.pl+1 }:=by unfold clRE; rw [if_neg hp,if_neg (by omega),if_neg (by omega),if_pos hw,if_pos h5]
    rw [e] at KR ⊢;have go:∀{q:Int} (w':World),4+(m.pl+1)=q→PuR (Nx G w w') c (puL 0 q (.slice (some ⟨wb,wo,none⟩) 3 wc) (.slice (some ⟨lb,lo,none⟩) 5 lc)) { m with pl:=m.pl+1 }:=fun w' hq=>
     pu_same (m:=m) hg KR hv hx (by show m.pl+1≠0; omega) hok hov rfl ((pcI_9 (m:={ m with pl:=m.pl+1 }) hw).trans hq)
    rcases hps with h6 | h6 | h6 | h6 | h6
    ·rw [show 4+m.pl=5 by omega]
     refine (Resume_of w fun w' hb=>b5 wb wo wc lb lo lc b.val b.ok b.late zA zn zc w').mono ?_;rintro e' w' ⟨rfl,hb'⟩;exact ⟨_,rfl,go w' (by omega),hb'⟩
    ·rw [show 4+m.pl=6 by omega]
     refine (Resume_of w fun w' hb=>b6 wb wo wc lb lo lc b.val b.ok b.late zA zn zc w').mono ?_;rintro e' w' ⟨rfl,hb'⟩;exact ⟨_,rfl,go w' (by omega),hb'⟩
    ·rw [show 4+m.pl=7 by omega]
     refine (Resume_of w fun w' hb=>b7 wb wo wc lb lo lc b.val b.ok b.late zA zn zc w').mono ?_;rintro e' w' ⟨rfl,hb'⟩;exact ⟨_,rfl,go w' (by omega),hb'⟩
    ·rw [show 4+m.pl=8 by omega]
     refine (Resume_of w fun w' hb=>b8 wb wo wc lb lo lc b.val b.ok b.late zA zn zc w').mono ?_;rintro e' w' ⟨rfl,hb'⟩;exact ⟨_,rfl,go w' (by omega),hb'⟩
    ·omega
   ·have e:clRE c m b={ m with pl:=0,ok:=1,ov:=0 }:=by unfold clRE; rw [if_neg hp,if_neg (by omega),if_neg (by omega),if_pos hw,if_neg h5]
    rw [e] at KR ⊢;rw [show 4+m.pl=9 by omega];refine (Resume_of w fun w' hb=>b9 wb wo wc lb lo lc b.val b.ok b.late zA zn zc w').mono ?_;rintro e' w' ⟨rfl,hb'⟩;exact ⟨_,rfl,pu_end hg KR rfl rfl rfl,hb'⟩
  ·rw [pcI_10 hw]
   cases hbo:b.ok with
   | true=>
    have e:clRE c m b={ m with pl:=0,ok:=7,ov:=0 }:=by unfold clRE; rw [if_neg hp,if_neg (by omega),if_pos hw,if_pos hbo]
    rw [e] at KR ⊢;refine (Resume_of w fun w' hb=>b3k wb wo wc lb lo lc b.val true b.late zA zn zc w').mono ?_;rintro e' w' ⟨rfl,hb'⟩;exact ⟨_,rfl,pu_end hg KR rfl rfl rfl,hb'⟩
   | false=>
    have e:clRE c m b={ m with pl:=0,ok:=8,ov:=0 }:=by unfold clRE; rw [if_neg hp,if_neg (by omega),if_pos hw,if_neg (by simp [hbo])]
    rw [e] at KR ⊢;refine (Resume_of w fun w' hb=>b3n wb wo wc lb lo lc b.val false b.late zA zn zc w').mono ?_;rintro e' w' ⟨rfl,hb'⟩;exact ⟨_,rfl,pu_end hg KR rfl rfl rfl,hb'⟩
  ·rw [pcI_11 hw]
   have e:clRE c m b={ m with pl:=0,ok:=1,ov:=0 }:=by unfold clRE; rw [if_neg hp,if_neg (by omega),if_neg (by omega),if_neg (by omega)]
   rw [e] at KR ⊢;refine (Resume_of w fun w' hb=>b4 wb wo wc lb lo lc b.val b.ok b.late zA zn zc w').mono ?_;rintro e' w' ⟨rfl,hb'⟩;exact ⟨_,rfl,pu_end hg KR rfl rfl rfl,hb'⟩
 stays:=fun c m b=>by unfold ownM; rw [clRE_what]
 others:=fun G c f m h ho=>by rw [h] at ho; cases ho
theorem pu_resume {G:World→Prop} {c:ConfM} {f:List Value} {m:MachM} (w:World) (b:AnsM) (zA:Option Addr) (zn zc:Nat) (hbv:U64 b.val) (hG:G w) (h:PuR G c f m) (ho:ownM m=true):Calls Try.prog 19 #[.agg f.toArray,.agg #[.int .u64 b.val,.bool b.ok,.bool b.late,.slice zA zn zc]] w fun e w'=>∃f2,e=.returned (.agg f2.toArray)∧PuR (Nx G w w') c f2 (clRE c m b)∧Below w.heap.size w w':=by
 by_cases hp:m.pl=0
 ·obtain ⟨hg,hK,⟨h1,h2,rfl⟩ | ⟨hp2,_⟩⟩:=h ho
  ·have e:clRE c m b=m:=by unfold clRE; rw [if_pos hp]
   rw [e];refine (Resume_of w fun w' hb=>b10 m.ok b.val b.ok b.late zA zn zc w').mono ?_;rintro e' w' ⟨rfl,hb'⟩;exact ⟨_,rfl,fun _=>⟨hg,hK,.inl ⟨h1,h2,rfl⟩⟩,hb'⟩
  ·exact absurd hp hp2
 ·exact pu_sim.resume w b zA zn zc hbv hG h ho hp
theorem fr_ans {S:List (Option Nat)} {w8 u1 u2 wf:World} {y:WM} {m m2:MachM} {f2:List Value} (hr:PuR (Nx (OffS S w8) u1 u2) y.c f2 m2) (h1:Below w8.heap.size w8 u1) (hb:Below u1.heap.size u1 u2) (hin:∀w3,OffS S wf w3→OffS S u2 w3) (hS:∀j,some j∈S→j<w8.heap.size) (hf:y.f.length=1) (hl:y.l=[m]):FrI PuR (OffS S wf) { y with l:=y.l.set 0 m2,f:=y.f.set 0 f2 }:=by
 refine ⟨by show (y.f.set 0 f2).length=(y.l.set 0 m2).length; rw [List.length_set,List.length_set,hf,hl]; rfl,fun j h2 h3=>?_⟩;have hj:j=0:=by
  have h4:j<(y.f.set 0 f2).length:=h2;rw [List.length_set,hf] at h4;omega
 subst hj;have e1:(y.f.set 0 f2)[0]'h2=f2:=by simp
 have e2:(y.l.set 0 m2)[0]'h3=m2:=by simp
 show PuR _ y.c ((y.f.set 0 f2)[0]'h2) ((y.l.set 0 m2)[0]'h3);rw [e1,e2];refine pu_sim.sub hr fun w3 h=>?_;have h4:=hin w3 h;have z1:=h1.size;have z2:=hb.size;exact ⟨(OffS.below (below_then h1 hb)).trans1 h4,⟨h4.1,fun j hj hj2=>h4.2 j hj2 (fun e=>by have:=hS j e; omega)⟩⟩
theorem clK_new {c:ConfM} (what:Int) (k:Nat) (th v:Int) (hw:7≤what∧what≤11) (hk:k<c.caps.length) (ht:0≤th∧th<c.threads) (hv:U64 v):clK c ⟨what,1,k,th,v % 4,v % 8,v,0,0,0,0⟩ where
 what:=by show what=7∨what=8∨what=9∨what=10∨what=11; omega
 pl:=by show (0:Int)≤1∧(1:Int)≤5∧(what≠9→(1:Int)≤1); omega
 chan:=⟨k,hk,rfl⟩
 thr:=ht
 idx:=by show 0≤v % 4∧v % 4<4; omega
 kind:=by show 0≤v % 8∧v % 8<8; omega
 val:=hv
theorem pu_starts {c:ConfM} (hg:c.good) (what:Int) (hwh:7≤what∧what≤11) (k:Nat) (th v:Int) (ht:0≤th∧th<c.threads) (hv:U64 v) (hk:k<c.caps.length) (a a2:Option Addr) (cap cap2:Nat):Starts PuR c ⟨what,1,k,th,v % 4,v % 8,v,0,0,0,0⟩ (.slice a c.caps.length cap) (.slice a2 c.starts.length cap2):=fun w hcv=>by
 have hK:=clK_new (c:=c) what k th v hwh hk ht hv;have ht8:0≤th∧th≤8:=by have:=hg.thr; omega
 have fin:∀{st x y z:Int},pcI ⟨what,1,k,th,v % 4,v % 8,v,0,0,0,0⟩=st→(what=9→x=v % 4∧y=v % 8∧z=v)→∀(e:Ending) (w':World),(∃W L,e=.returned (.agg (puL 0 st W L).toArray)∧Hid (∀w2,NewPart w w' w2→PuT w2 c th x y z W L)∧Hid (Below w.heap.size w w'))→∃f,e=.returned (.agg f.toArray)∧PuR (NewPart w w') c f ⟨what,1,k,th,v % 4,v % 8,v,0,0,0,0⟩∧Below w.heap.size w w':=by
  rintro st x y z hst hx e w' ⟨W,L,rfl,hp,hb⟩;obtain ⟨wb,wo,wc,lb,lo,lc,rfl,rfl,-⟩:=(hp.out w' (NewPart.self _ _)).open;exact ⟨_,rfl,fun _=>⟨hg,hK,.inr ⟨by show (1:Int)≠0; omega,rfl,rfl,_,_,_,_,_,_,x,y,z,by rw [hst],hx,fun w2 h=>hp.out w2 h⟩⟩,hb.out⟩
 rcases hK.what with hw | hw | hw | hw | hw
 ·exact (lawStart_7 a a2 cap cap2 c ⟨what,1,k,th,v % 4,v % 8,v,0,0,0,0⟩ hw ht8 hg w hcv).mono (fin (pcI_7 hw) (fun e=>by have:what=7:=hw; omega))
 ·exact (lawStart_8 a a2 cap cap2 c ⟨what,1,k,th,v % 4,v % 8,v,0,0,0,0⟩ hw ht8 hg w hcv).mono (fin (pcI_8 hw) (fun e=>by have:what=8:=hw; omega))
 ·exact (lawStart_9 a a2 cap cap2 c ⟨what,1,k,th,v % 4,v % 8,v,0,0,0,0⟩ hw ht8 hg (by show 0≤v % 4∧v % 4<8; omega) (by show 0≤v % 8∧v % 8<8; omega) hv w hcv).mono (fin (pcI_9 hw) (fun _=>⟨rfl,rfl,rfl⟩))
 ·exact (lawStart_10 a a2 cap cap2 c ⟨what,1,k,th,v % 4,v % 8,v,0,0,0,0⟩ hw ht8 hg w hcv).mono (fin (pcI_10 hw) (fun e=>by have:what=10:=hw; omega))
 ·exact (lawStart_11 a a2 cap cap2 c ⟨what,1,k,th,v % 4,v % 8,v,0,0,0,0⟩ hw ht8 hg w hcv).mono (fin (pcI_11 hw) (fun e=>by have:what=11:=hw; omega))
theorem wstepL_any {NE:ConfM→MachM→AccM} {RE:ConfM→MachM→AnsM→MachM} {R:(World→Prop)→ConfM→List Value→MachM→Prop} {K:ConfM→MachM→Prop} (hs:Sim NE RE ownM R) (hd:Doc NE RE K)
  {w0 w:World} {E:List (Option Nat)} {B D:Nat} {x:WV} {y:WM} (h:WI 44 w0 w E B D x y) (hf:FrI R (OffS (x.S E B) w) y) (hk:∀m∈y.l,K y.c m) (i:Nat) (hi:i<y.l.length) (hl:y.l.length≤1000) (ht:y.t.length≤100000) (hpl:y.p.length≤100000):Calls Try.prog 23 #[.pointer (some ⟨B,0,none⟩),.int .i64 i] w (StepW NE RE R w0 w E B D x y i):=by
 by_cases hp:y.l[i].pl=0
 ·exact wstepL_end hs hd h hf hk i hi hl _ rfl hp
 ·cases hr:(applyE y.m (NE y.c y.l[i])).2.2 with
  | false=>exact wstepL_not hs hd h hf hk i hi hl _ rfl hp hr
  | true=>exact wstepL_yes hs hd h hf hk i hi hl _ rfl hp hr ht hpl
def runE (NE:ConfM→MachM→AccM) (RE:ConfM→MachM→AnsM→MachM) (c:ConfM) (s:MemM × List MachM) (is:List Nat):MemM × List MachM:=is.foldl (fun s i=>stepE NE RE c s.1 s.2 i) s
theorem runE_snoc (NE:ConfM→MachM→AccM) (RE:ConfM→MachM→AnsM→MachM) (c:ConfM) (s:MemM × List MachM) (is:List Nat) (i:Nat):runE NE RE c s (is ++ [i])=stepE NE RE c (runE NE RE c s is).1 (runE NE RE c s is).2 i:=by
 unfold runE;rw [List.foldl_append];rfl
def pickI (n:Nat) (p:Int):Nat:=(p.tmod (n:Int)).toNat
def playL (l:List Int) (most turns n:Nat):List Nat:=(l.take most).map (pickI n) ++ (List.replicate turns (List.range n)).flatten
theorem flat_next (turns n:Nat):(List.replicate turns (List.range n)).flatten ++ List.range n=(List.replicate (turns+1) (List.range n)).flatten:=by
 rw [List.replicate_succ',List.flatten_append];simp
structure ReachN (NE:ConfM→MachM→AccM) (RE:ConfM→MachM→AnsM→MachM) (K:ConfM→MachM→Prop) (y y2:WM) (k:Nat) (is:List Nat):Prop where
 run:(y2.m,y2.l)=runE NE RE y.c (y.m,y.l) is
 c:y2.c=y.c
 l:y2.l.length=y.l.length
 all:∀m∈y2.l,K y2.c m
 t:y2.t.length≤y.t.length+k
 p:y2.p.length≤y.p.length+k
theorem ReachN.step {NE:ConfM→MachM→AccM} {RE:ConfM→MachM→AnsM→MachM} {R:(World→Prop)→ConfM→List Value→MachM→Prop} {K:ConfM→MachM→Prop} (hs:Sim NE RE ownM R) (hd:Doc NE RE K) {y y2 y3:WM} {k i:Nat} {is:List Nat} (h:ReachN NE RE K y y2 k is) (hm:Moved NE RE y2 i y3) (hfit:y2.m.fits):ReachN NE RE K y y3 (k+1) (is ++ [i]):=by
 refine ⟨by rw [runE_snoc,← h.run,hm.m,hm.l,h.c],hm.c.trans h.c,by rw [hm.l,stepE_len]; exact h.l,?_,by have:=hm.t; have:=h.t; omega,by have:=hm.p; have:=h.p; omega⟩;rw [hm.l,hm.c];exact stepE_all2 (P:=fun m=>K y2.c m) _ hfit (fun k b hb hk=>hd.stays _ _ _ hk hb) _ _ h.all
theorem ReachN.le {NE:ConfM→MachM→AccM} {RE:ConfM→MachM→AnsM→MachM} {K:ConfM→MachM→Prop} {y y2:WM} {k n:Nat} {is:List Nat} (h:ReachN NE RE K y y2 k is) (hk:k≤n):ReachN NE RE K y y2 n is:=⟨h.run,h.c,h.l,h.all,by have:=h.t; omega,by have:=h.p; omega⟩
def PlayQ (NE:ConfM→MachM→AccM) (RE:ConfM→MachM→AnsM→MachM) (R:(World→Prop)→ConfM→List Value→MachM→Prop) (K:ConfM→MachM→Prop) (w0:World) (E:List (Option Nat)) (B D:Nat) (y:WM) (k:Nat) (is:List Nat) (e:Ending) (w':World):Prop:=
 ∃x2 y2,e=.returned (.bool true)∧Hid (WI 44 w0 w' E B D x2 y2)∧Hid (FrI R (OffS (x2.S E B) w') y2)∧Hid (ReachN NE RE K y y2 k is)
def PlayI (NE:ConfM→MachM→AccM) (RE:ConfM→MachM→AnsM→MachM) (R:(World→Prop)→ConfM→List Value→MachM→Prop) (K:ConfM→MachM→Prop) (w0:World) (E:List (Option Nat)) (B D:Nat) (y:WM) (k:Nat) (is:List Nat) (wr:World):Prop:=
 ∃x2 y2,Hid (WI 44 w0 wr E B D x2 y2)∧Hid (FrI R (OffS (x2.S E B) wr) y2)∧Hid (ReachN NE RE K y y2 k is)
set_option maxRecDepth 100000 in
set_option maxHeartbeats 32000000 in
theorem wplay_any {NE:ConfM→MachM→AccM} {RE:ConfM→MachM→AnsM→MachM} {R:(World→Prop)→ConfM→List Value→MachM→Prop} {K:ConfM→MachM→Prop} (hs:Sim NE RE ownM R) (hd:Doc NE RE K)
  {w0 w:World} {E:List (Option Nat)} {B D:Nat} {x:WV} {y:WM} (h:WI 44 w0 w E B D x y) (hf:FrI R (OffS (x.S E B) w) y) (hk:∀m∈y.l,K y.c m) (hl0:1≤y.l.length) (hl:y.l.length≤20) (ht:y.t.length≤1000) (hpl:y.p.length≤1000) (v:Value) (l:List Int) (hv:SlI w0 .u8 v l) (most turns:Nat) (hmo:most≤1000) (htu:turns≤1000):Calls Try.prog 15 #[.pointer (some ⟨B,0,none⟩),v,.int .i64 most,.int .i64 turns] w (PlayQ NE RE R K w0 E B D y (most+turns * y.l.length) (playL l most turns y.l.length)):=by
 have HV:=Lib.hid hv;obtain ⟨av,cv,rfl,hvc⟩:=hv.len;have HP0:Hid (PlayI NE RE R K w0 E B D y 0 ((l.take 0).map (pickI y.l.length)) w):=⟨x,y,h,hf,rfl,rfl,rfl,hk,by omega,by omega⟩;have hvl:=hv.1;clear h hf hk hv;go_enter Try.func15,Try.ntmps15;go_wp2_with fail;go_loopw [9] (fun u9 wr=>∃k:Nat,u9=.int .i64 k∧k≤l.length∧k≤most∧Hid (PlayI NE RE R K w0 E B D y k ((l.take k).map (pickI y.l.length)) wr)) (fun u9 _=>1000 - (intOf u9).toNat)
 case atStart=>exact ⟨0,rfl,by omega,by omega,HP0⟩
 case round=>
  clear HP0;obtain ⟨k,rfl,hk1,hk2,x2,y2,HI,HF,HR⟩:=hrel;obtain ⟨wo,rfl⟩:∃wo:World,wo=wr:=⟨_,rfl⟩;have row0:=HI.out.row;have hBl:=HI.out.lt;unfold WV.row at row0;have ROW:=Lib.hid row0;clear row0;have hll:y2.l.length=y.l.length:=HR.out.l;have HLL:=Lib.hid hll;have hl1:1≤y2.l.length:=by omega
  have hl2:y2.l.length≤20:=by omega
  clear hll;by_cases hlt:k<l.length∧k<most
  ·obtain ⟨hlt1,hlt2⟩:=hlt
   obtain ⟨b,off,cap',e,hcap2,hb,hcell⟩:=HV.out.open (by rintro rfl; simp at hlt1);simp only [Value.slice.injEq] at e;obtain ⟨rfl,-,rfl⟩:=e;obtain ⟨p,hp⟩:∃p,l.getD k 0=p:=⟨_,rfl⟩;have hck:=hcell k hlt1;rw [hp] at hck;have hcw:wo.cell? ⟨b,off+k,none⟩=some (.int .u8 p):=(HI.out.below.cell (p:=⟨b,off+k,none⟩) hb).trans hck;have hpb:0≤p∧p<256:=by
    have h1:=HV.out.2.1 _ (List.getElem_mem hlt1);rw [IntKind.wrap_u8] at h1;have h2:l[k]'hlt1=p:=by rw [← hp,List.getD_eq_getElem?_getD,List.getElem?_eq_getElem hlt1]; rfl
    omega
   obtain ⟨hp0,hp1⟩:=hpb;have HPP:=Lib.hid hp;have hkI:(k:Int)<(l.length:Int):=by omega
   have hkM:(k:Int)<(most:Int):=by omega
   have hnI:(0:Int)<(y2.l.length:Int):=by omega
   obtain ⟨x0,x1,x2',x3,x4,x5,x6,x7,x8,x9⟩:=rowc10 ROW.out;clear hcell hp hck x0 x1 x2' x3 x4 x5 x7 x8 x9;go_wp2_with fail;have hwp:IntKind.i64.wrap p=p:=by rw [IntKind.wrap_i64]; omega
   obtain ⟨q,hq⟩:∃q:Nat,p.tmod (y2.l.length:Int)=(q:Int):=⟨(p.tmod (y2.l.length:Int)).toNat,by have:=Int.tmod_nonneg (y2.l.length:Int) hp0; omega⟩;have HQQ:Hid (q=pickI y.l.length (l[k]'hlt1)):=by
    show q=(Int.tmod _ _).toNat;rw [← HLL.out,show l[k]'hlt1=p by rw [← HPP.out,List.getD_eq_getElem?_getD,List.getElem?_eq_getElem hlt1]; rfl,hq];simp
   have hql:q<y2.l.length:=by have:=Int.tmod_lt_of_pos p hnI; omega
   have hwq:IntKind.i64.wrap (q:Int)=(q:Int):=by rw [IntKind.wrap_i64]; omega
   have hne0:¬y2.l=[]:=by rintro e; rw [e] at hl1; simp at hl1
   have hne1:¬((y2.l.length:Int)=0):=by omega
   go_still_tail 13,(by kernel_rfl);clear hwp hq hwq hne0 hne1;change wpList _ _ _ _ _ wo.drew;obtain ⟨u,hu,HU⟩:=drew_pack wo;rw [hu];clear hu;have HQ:=Lib.hid (wstepL_any hs hd (HI.out.next HU.out) (HF.out.sub hs fun w3 h3=>(OffS.below HU.out).trans1 h3) HR.out.all q hql (by omega) (by have:=HR.out.t; omega) (by have:=HR.out.p; omega));clear hcw x6;go_wp2_with fail;refine HQ.out.mono ?_;rintro e w5 ⟨x3,y3,rfl,HI3,HF3,HM3,-⟩;have HR3:Hid (ReachN NE RE K y y3 (k+1) ((l.take (k+1)).map (pickI y.l.length))):=by
    have h9:=HR.out.step hs hd HM3.out HI.out.fits;rw [List.take_succ_eq_append_getElem hlt1,List.map_append,List.map_singleton,← HQQ.out];exact h9
   clear HQ HI HF HR HM3 ROW;go_wp2_with fail;go_roundw
   case rel=>exact ⟨k+1,by go_num,by omega,by omega,x3,y3,HI3,HF3,HR3⟩
   case measure=>simp [intOf]; omega
  ·have hc:(¬k<l.length)∨(k<l.length∧¬k<most):=by omega
   have HP:Hid (PlayI NE RE R K w0 E B D y most ((l.take most).map (pickI y.l.length)) wo):=⟨x2,y2,HI,HF,by
    have h9:=HR.out.le hk2;have e:l.take k=l.take most:=by
     rcases hc with h | ⟨_,h⟩
     ·rw [List.take_of_length_le (by omega),List.take_of_length_le (by omega)]
     ·rw [show k=most by omega]
    rw [e] at h9;exact h9⟩
   clear HI HF HR ROW HLL hlt hl1 hl2 hBl;rcases hc with hc | ⟨hc,hc2⟩
   all_goals
    go_wp2_with fail;go_loopw [10] (fun u10 wr=>∃n:Nat,u10=.int .i64 n∧n≤turns∧Hid (PlayI NE RE R K w0 E B D y (most+n * y.l.length) ((l.take most).map (pickI y.l.length) ++ (List.replicate n (List.range y.l.length)).flatten) wr)) (fun u10 _=>1001 - (intOf u10).toNat)
    case atStart=>exact ⟨0,rfl,by omega,by rw [Nat.zero_mul,List.replicate_zero,List.flatten_nil,List.append_nil]; exact HP⟩
    case round=>
     clear HP;obtain ⟨n,rfl,hn1,x3,y3,HI3,HF3,HR3⟩:=hrel;obtain ⟨wn,rfl⟩:∃wo:World,wo=wr:=⟨_,rfl⟩;by_cases hnt:n<turns
     ·have hlen:Hid (y3.l.length=y.l.length):=HR3.out.l
      have hmul:Hid (n * y.l.length≤20000):=by
       have:n * y.l.length≤1000 * 20:=Nat.mul_le_mul (by omega) hl;show _≤_; omega
      have row0:=HI3.out.row;unfold WV.row at row0;obtain ⟨x0,x1,xx2,xx3,x4,x5,x6,x7,x8,x9⟩:=rowc10 row0;rw [hlen.out] at x6;have HPI:Hid (PlayI NE RE R K w0 E B D y (most+n * y.l.length+0) ((l.take most).map (pickI y.l.length) ++ (List.replicate n (List.range y.l.length)).flatten ++ List.range 0) wn):=⟨x3,y3,HI3,HF3,by rw [List.range_zero,List.append_nil]; exact HR3⟩;clear row0 x0 x1 xx2 xx3 x4 x5 x7 x8 x9 HI3 HF3 HR3;go_wp2_with fail;go_loopw [58] (fun u58 wq=>∃i:Nat,u58=.int .i64 i∧i≤y.l.length∧Hid (PlayI NE RE R K w0 E B D y (most+n * y.l.length+i) ((l.take most).map (pickI y.l.length) ++ (List.replicate n (List.range y.l.length)).flatten ++ List.range i) wq)) (fun u58 _=>21 - (intOf u58).toNat)
      case atStart=>exact ⟨0,rfl,by omega,HPI⟩
      case round=>
       clear HPI x6;obtain ⟨i,rfl,hi1,x4,y4,HI4,HF4,HR4⟩:=hrel;obtain ⟨wi,rfl⟩:∃wo:World,wo=wr:=⟨_,rfl⟩;by_cases hil:i<y.l.length
       ·have hilI:(i:Int)<(y.l.length:Int):=by omega
        have HQ:=Lib.hid (wstepL_any hs hd HI4.out HF4.out HR4.out.all i (by have:=HR4.out.l; omega) (by have:=HR4.out.l; omega) (by have:=HR4.out.t; have:=hmul.out; omega) (by have:=HR4.out.p; have:=hmul.out; omega));go_wp2_with fail;refine HQ.out.mono ?_;rintro e w5 ⟨x5,y5,rfl,HI5,HF5,HM5,-⟩;have HR5:Hid (ReachN NE RE K y y5 (most+n * y.l.length+i+1) ((l.take most).map (pickI y.l.length) ++ (List.replicate n (List.range y.l.length)).flatten ++ List.range (i+1))):=by
         rw [List.range_succ,← List.append_assoc];exact HR4.out.step hs hd HM5.out HI4.out.fits
        clear HQ HI4 HF4 HR4 HM5;go_wp2_with fail;go_roundw
        case rel=>exact ⟨i+1,by go_num,by omega,x5,y5,HI5,HF5,HR5⟩
        case measure=>simp [intOf]; omega
       ·obtain rfl:i=y.l.length:=by omega
        have HPN:Hid (PlayI NE RE R K w0 E B D y (most+(n+1) * y.l.length) ((l.take most).map (pickI y.l.length) ++ (List.replicate (n+1) (List.range y.l.length)).flatten) wi):=by rw [Nat.succ_mul,← Nat.add_assoc,← flat_next,← List.append_assoc]; exact ⟨x4,y4,HI4,HF4,HR4⟩
        clear HI4 HF4 HR4;go_wp2_with fail;go_roundw
        case rel=>exact ⟨n+1,by go_num,by omega,HPN⟩
        case measure=>simp [intOf]; omega
     ·obtain rfl:n=turns:=by omega
      go_wp2_with fail;go_ret;exact ⟨x3,y3,rfl,HI3,HF3,HR3⟩
end Go.Proofs.Ytifhafjhmjkekaa
