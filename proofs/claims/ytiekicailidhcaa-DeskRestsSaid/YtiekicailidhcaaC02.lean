import Derived.Deep.DeepCutAuto
import Derived.Deep.CutBlock
import Derived.Test.YtiekicailidhcaaB01
import Derived.Test.YtiekicailidhcaaB02
import Derived.Test.YtiekicailidhcaaB03
import Derived.Test.YtiekicailidhcaaB04
import Derived.Test.YtiekicailidhcaaB05
import Derived.Test.YtiekicailidhcaaB06
import Derived.Test.YtiekicailidhcaaB07
import Derived.Test.YtiekicailidhcaaB08
import Derived.Test.YtiekicailidhcaaB09
import Derived.Test.YtiekicailidhcaaB10
import Derived.Test.YtiekicailidhcaaB11
import Derived.Test.YtiekicailidhcaaB12
import Derived.Test.YtiekicailidhcaaB13
import Derived.Test.YtiekicailidhcaaB14
import Derived.Test.YtiekicailidhcaaB15
import Derived.Test.YtiekicailidhcaaC01
set_option linter.unusedVariables false
set_option linter.unusedSimpArgs false
namespace Go.Proofs.Ytiekicailidhcaa
open Go.ChangeShapes Go.WideShapes Go.ChangeAt Go.RowKit
set_option maxRecDepth 100000
theorem chosen_ok {op:OpM} {r:ResM} {x:CaseM} (h:chosenE op r=some x) (hc:∀x∈op.cases,x.ok) (hok:op.chan=IntKind.i64.wrap op.chan∧op.val=IntKind.u64.wrap op.val):x.val=IntKind.u64.wrap x.val:=by
 unfold chosenE at h;split at h
 ·split at h
  ·cases h
  ·rename_i h2
   simp only [Option.some.injEq] at h;subst h;have h3:r.case.toNat<op.cases.length:=by omega
   rw [List.getD_eq_getElem?_getD,List.getElem?_eq_getElem h3];exact (hc _ (List.getElem_mem h3)).2
 ·split at h
  ·simp only [Option.some.injEq] at h
   subst h;unfold oneC;split
   ·exact hok.2
   ·split
    ·exact hok.2
    ·decide
  ·cases h
set_option maxRecDepth 100000 in
set_option maxHeartbeats 16000000 in
theorem mapply_any (v vo:Value) (l:List ChanM) (op:OpM) (r:ResM) (w:World) (hv:SlH w v l) (hl:l.length≤1000000) (hbf:∀c∈l,c.buf.length≤999999) (h:OpV w vo op) (hok:op.chan=IntKind.i64.wrap op.chan∧op.val=IntKind.u64.wrap op.val):Calls Try.prog 89 #[v,vo,resW r] w fun e w'=>DoQ (modE l op r) w e w':=by
 have HV:=Lib.hid hv;have TE:=Lib.hid fun w' (hb:Below w.heap.size w w')=>mexists_any v l op.chan w' (hv.below hb);have TO:=Lib.hid fun b1 b2 w'=>monly_any r b1 b2 w';have TC:=Lib.hid fun w' (hb:Below w.heap.size w w')=>mchosen_any vo op r w' (h.below hb);have TB:=Lib.hid fun w' (hb:Below w.heap.size w w')=>mblocked_any v vo l op w' (hv.below hb) (h.below hb) hok;have TD:=Lib.hid fun x w' (hb:Below w.heap.size w w') hx=>mdo_any v l x r w' (hv.below hb) hl hbf hx;have HOK:Hid (∀x,chosenE op r=some x→x.val=IntKind.u64.wrap x.val):=fun x hx=>chosen_ok hx (by obtain ⟨_,_,_,hc,_⟩:=h; exact hc.2.1) hok;obtain ⟨lc,hlc⟩:∃c,chosenE op r=c:=⟨_,rfl⟩;have HLC:=Lib.hid hlc;rw [hlc] at HOK TC;obtain ⟨wv,hwv⟩:∃b,waitsB op=b:=⟨_,rfl⟩;have HWV:=Lib.hid hwv;obtain ⟨lo,hlo⟩:∃o,modE l op r=o:=⟨_,rfl⟩;rw [hlo];have HLO:=Lib.hid hlo;clear hlc hwv hlo;obtain ⟨vc,vd,rfl,hc,hd⟩:=h;obtain ⟨kd,md,ch,vl,dl,cs,ds⟩:=op;obtain ⟨rk,rc,rv,rok,nm⟩:=r;dsimp only at *;obtain ⟨a3,cap3,rfl⟩:=hc.len;obtain ⟨a4,cap4,rfl,-⟩:=hd.len;unfold resW at TO TD TC ⊢;dsimp only at TO TD TC ⊢;have HL:=Lib.hid hl;obtain ⟨a,cap,hve,-⟩:=hv.len;subst hve;clear hv hl hbf hc hd hok;obtain ⟨W,hW,HB,R0,R1,hz⟩:=two_new w (.cells #[.int .i64 kd,.int .i64 md,.int .i64 ch,.int .u64 vl,.int .i64 dl,.slice a3 cs.length cap3,.slice a4 ds.length cap4] 44) (.cells #[.int .i64 rk,.int .i64 rc,.int .u64 rv,.bool rok,.int .i64 nm] 73);have HW:=Lib.hid hW;clear hW;go_enter Try.func89,Try.ntmps89;go_upto_region 1 with fail
 rw [HW.out];clear HW;obtain ⟨x0_0,x0_1,x0_2,x0_3,x0_4,x0_5,x0_6⟩:=rowc7 R0.out;obtain ⟨x1_0,x1_1,x1_2,x1_3,x1_4⟩:=rowc5 R1.out;go_cut [8] (fun s8 wx=>s8=.bool wv∧wx=W)
 case first=>
  unfold waitsB at HWV;dsimp only at HWV;by_cases k1:kd=1
  ·subst k1
   have e:wv=true:=by rw [← HWV.out]; rfl
   subst e;go_wp2_with fail;go_meet;exact ⟨rfl,rfl⟩
  have k1b:(kd == 1)=false:=by simpa using k1
  by_cases k2:kd=2
  ·subst k2
   have e:wv=true:=by rw [← HWV.out]; rfl
   subst e;go_wp2_with fail;go_meet;exact ⟨rfl,rfl⟩
  have k2b:(kd == 2)=false:=by simpa using k2
  have e:wv=(kd == 4):=by rw [← HWV.out,k1b,k2b]; rfl
  subst e;go_wp2_with fail;go_meet;exact ⟨rfl,rfl⟩
 case rest=>
  obtain ⟨rfl,hwc⟩:=hcut;have hwc':=hwc.symm;subst hwc';clear hwc;have hnone:lo=none→∀w' e v',Below W.heap.size W w'→e=.returned (.tuple #[v',.bool false])→DoQ lo w e w':=fun h w' e v' hb he=>⟨v',false,he,.inr ⟨h,rfl⟩,below_then HB.out hb⟩;have HNONE:=Lib.hid hnone;have hsame:lo=some l→∀w' e,Below W.heap.size W w'→e=.returned (.tuple #[.slice a l.length cap,.bool true])→DoQ lo w e w':=fun h w' e hb he=>⟨_,true,he,.inl ⟨l,h,rfl,HV.out.below (below_then HB.out hb)⟩,below_then HB.out hb⟩;have HSAME:=Lib.hid hsame;clear hnone hsame;unfold modE at HLO;rw [HLC.out] at HLO;dsimp only at HLO;by_cases q1:rk=1
  ·subst q1
   have HBD:Hid (lo=lc.bind fun x=>doE l x ⟨1,rc,rv,rok,nm⟩):=by show _=_; rw [← HLO.out]; simp
   go_wp2_with fail;refine (TC.out _ HB.out).mono ?_; rintro e w1 ⟨⟨s1,s2,s3⟩,bx,rfl,hlx,hb1⟩;have HLX:=Lib.hid hlx;have HB1:=Lib.hid hb1;have R1y:=keepR hb1 R1;clear x0_0 x0_1 x0_2 x0_3 x0_4 x0_5 x0_6 x1_0 x1_1 x1_2 x1_3 x1_4 hb1 hlx;unfold caseW;dsimp only;obtain ⟨Wx,hWx⟩:∃Wx,(w1.alloc (.cells #[.bool false,.int .i64 0,.int .u64 0] 58)).setRow w1.heap.size #[.bool s1,.int .i64 s2,.int .u64 s3]=Wx:=⟨_,rfl⟩;have Nx:Hid ((w1.alloc (.cells #[.bool false,.int .i64 0,.int .u64 0] 58)).heap[w1.heap.size]?=some (.cells #[.bool false,.int .i64 0,.int .u64 0] 58 (0,0))):=heap_alloc_new _ _;have HBx:Hid (Below w1.heap.size w1 Wx):=hWx▸row_below (below_new (Below.refl _ _) _) (Nat.le_refl _) _;have Rx:Hid (Wx.heap[w1.heap.size]?=some (.cells #[.bool s1,.int .i64 s2,.int .u64 s3] 58 (0,0))):=hWx▸setRow_heap _ _ _ _ _ (0,0) Nx.out;have HWx:=Lib.hid hWx;clear hWx;go_upto_region 6 with (refine wpList_store_row rfl 58 _ _ rfl (w1.heap.size) _ rfl rfl 58 _ Nx.out (by kernel_rfl) rfl (by simp [Value.oneCell']) ?_)
   rw [HWx.out];try simp only [Act.put]
   clear HWx Nx;have HBX:=Lib.hid (below_then HB1.out HBx.out);have R1z:=keepR HBx.out R1y;obtain ⟨x1_0,x1_1,x1_2,x1_3,x1_4⟩:=rowc5 R1z.out;obtain ⟨y0,y1,y2⟩:=rowc3 Rx.out;cases bx with
   | false=>
    have hr:Hid (lo=none):=by
     show _=_;rcases HLX.out with ⟨h2,-⟩ | ⟨-,h1⟩
     ·cases h2
     ·rw [HBD.out,h1]; rfl
    go_wp2;refine bodyPost_ret (v:=.tuple #[.slice none 0 0,.bool false]) (by simp [results,Try.results89,go_sem]) rfl ?_;exact HNONE.out hr.out _ _ _ HBX.out rfl
   | true=>
    have hlx:lc=some ⟨s1,s2,s3⟩:=by
     rcases HLX.out with ⟨-,h1⟩ | ⟨h2,-⟩
     ·exact h1
     ·cases h2
    have HBE:Hid (lo=doE l ⟨s1,s2,s3⟩ ⟨1,rc,rv,rok,nm⟩):=by show _=_; rw [HBD.out,hlx]; rfl
    have T:=TD.out ⟨s1,s2,s3⟩ Wx (below_then HB.out HBX.out) (HOK.out _ hlx);unfold caseW at T;dsimp only at T;rw [← HBE.out] at T;have T2:=Lib.hid T;clear T hlx;go_wp2_with fail;refine T2.out.mono ?_; rintro e w3 ⟨v3,ok3,rfl,hq3,hb3⟩;have HB3:=Lib.hid (below_then (below_then HB.out HBX.out) hb3);have HQ3:=Lib.hid hq3;clear hq3 hb3 y0 y1 y2 x1_0 x1_1 x1_2 x1_3 x1_4;go_wp2_with fail;refine bodyPost_ret (v:=.tuple #[v3,.bool ok3]) (by simp [results,Try.results89,go_sem]) rfl ?_;exact ⟨v3,ok3,rfl,HQ3.out,HB3.out⟩
  have q1b:(rk == 1)=false:=by simpa using q1
  by_cases q2:rk=2
  ·subst q2
   have HBD:Hid (lo=lc.bind fun x=>doE l x ⟨2,rc,rv,rok,nm⟩):=by show _=_; rw [← HLO.out]; simp
   go_wp2_with fail;refine (TC.out _ HB.out).mono ?_; rintro e w1 ⟨⟨s1,s2,s3⟩,bx,rfl,hlx,hb1⟩;have HLX:=Lib.hid hlx;have HB1:=Lib.hid hb1;have R1y:=keepR hb1 R1;clear x0_0 x0_1 x0_2 x0_3 x0_4 x0_5 x0_6 x1_0 x1_1 x1_2 x1_3 x1_4 hb1 hlx;unfold caseW;dsimp only;obtain ⟨Wx,hWx⟩:∃Wx,(w1.alloc (.cells #[.bool false,.int .i64 0,.int .u64 0] 58)).setRow w1.heap.size #[.bool s1,.int .i64 s2,.int .u64 s3]=Wx:=⟨_,rfl⟩;have Nx:Hid ((w1.alloc (.cells #[.bool false,.int .i64 0,.int .u64 0] 58)).heap[w1.heap.size]?=some (.cells #[.bool false,.int .i64 0,.int .u64 0] 58 (0,0))):=heap_alloc_new _ _;have HBx:Hid (Below w1.heap.size w1 Wx):=hWx▸row_below (below_new (Below.refl _ _) _) (Nat.le_refl _) _;have Rx:Hid (Wx.heap[w1.heap.size]?=some (.cells #[.bool s1,.int .i64 s2,.int .u64 s3] 58 (0,0))):=hWx▸setRow_heap _ _ _ _ _ (0,0) Nx.out;have HWx:=Lib.hid hWx;clear hWx;go_upto_region 6 with (refine wpList_store_row rfl 58 _ _ rfl (w1.heap.size) _ rfl rfl 58 _ Nx.out (by kernel_rfl) rfl (by simp [Value.oneCell']) ?_)
   rw [HWx.out];try simp only [Act.put]
   clear HWx Nx;have HBX:=Lib.hid (below_then HB1.out HBx.out);have R1z:=keepR HBx.out R1y;obtain ⟨x1_0,x1_1,x1_2,x1_3,x1_4⟩:=rowc5 R1z.out;obtain ⟨y0,y1,y2⟩:=rowc3 Rx.out;cases bx with
   | false=>
    have hr:Hid (lo=none):=by
     show _=_;rcases HLX.out with ⟨h2,-⟩ | ⟨-,h1⟩
     ·cases h2
     ·rw [HBD.out,h1]; rfl
    go_wp2;refine bodyPost_ret (v:=.tuple #[.slice none 0 0,.bool false]) (by simp [results,Try.results89,go_sem]) rfl ?_;exact HNONE.out hr.out _ _ _ HBX.out rfl
   | true=>
    have hlx:lc=some ⟨s1,s2,s3⟩:=by
     rcases HLX.out with ⟨-,h1⟩ | ⟨h2,-⟩
     ·exact h1
     ·cases h2
    have HBE:Hid (lo=doE l ⟨s1,s2,s3⟩ ⟨2,rc,rv,rok,nm⟩):=by show _=_; rw [HBD.out,hlx]; rfl
    have T:=TD.out ⟨s1,s2,s3⟩ Wx (below_then HB.out HBX.out) (HOK.out _ hlx);unfold caseW at T;dsimp only at T;rw [← HBE.out] at T;have T2:=Lib.hid T;clear T hlx;go_wp2_with fail;refine T2.out.mono ?_; rintro e w3 ⟨v3,ok3,rfl,hq3,hb3⟩;have HB3:=Lib.hid (below_then (below_then HB.out HBX.out) hb3);have HQ3:=Lib.hid hq3;clear hq3 hb3 y0 y1 y2 x1_0 x1_1 x1_2 x1_3 x1_4;go_wp2_with fail;refine bodyPost_ret (v:=.tuple #[v3,.bool ok3]) (by simp [results,Try.results89,go_sem]) rfl ?_;exact ⟨v3,ok3,rfl,HQ3.out,HB3.out⟩
  have q2b:(rk == 2)=false:=by simpa using q2
  by_cases q5:rk=5
  ·subst q5
   by_cases k3:kd=3
   ·subst k3
    obtain ⟨o1,ho1⟩:∃b,onlyB ⟨5,rc,rv,rok,nm⟩ false false=b:=⟨_,rfl⟩;have T:=Lib.hid (TO.out false false);rw [ho1] at T;have HO1:=Lib.hid ho1;clear ho1;obtain ⟨ex,hex⟩:∃b,exB l ch=b:=⟨_,rfl⟩;rw [hex] at TE;have HEX:=Lib.hid hex;clear hex;have TEB:Hid (∀w',Below w.heap.size w w'→Calls Try.prog 86 #[.slice a l.length cap,.int .i64 ch] w' fun e w2=>e=.returned (.bool ex)∧Below w'.heap.size w' w2):=fun w' hb=>(TE.out w' hb).mono fun e w2 h=>by
     obtain ⟨h1,rfl⟩:=h;exact ⟨h1,Below.refl _ _⟩
    by_cases c1:rc=-1
    ·subst c1
     cases o1 with
     | false=>
      have hr:Hid (lo=none):=by show _=_; rw [← HLO.out]; simp [HO1.out]
      go_upto_region 11 with fail
      have Xx0_0:=ext_cell _ _ ((ltR R0)) _ x0_0;have Xx0_1:=ext_cell _ _ ((ltR R0)) _ x0_1;have Xx0_2:=ext_cell _ _ ((ltR R0)) _ x0_2;have Xx0_3:=ext_cell _ _ ((ltR R0)) _ x0_3;have Xx0_4:=ext_cell _ _ ((ltR R0)) _ x0_4;have Xx0_5:=ext_cell _ _ ((ltR R0)) _ x0_5;have Xx0_6:=ext_cell _ _ ((ltR R0)) _ x0_6;have Xx1_0:=ext_cell _ _ ((ltR R1)) _ x1_0;have Xx1_1:=ext_cell _ _ ((ltR R1)) _ x1_1;have Xx1_2:=ext_cell _ _ ((ltR R1)) _ x1_2;have Xx1_3:=ext_cell _ _ ((ltR R1)) _ x1_3;have Xx1_4:=ext_cell _ _ ((ltR R1)) _ x1_4;clear x0_0 x0_1 x0_2 x0_3 x0_4 x0_5 x0_6 x1_0 x1_1 x1_2 x1_3 x1_4;refine wp_region_ext W (by kernel_rfl) (by kernel_rfl) (Below.refl _ _) ?_
      repeat (go_big_quiet_step (first | (go_at_call 107; with_reducible exact calls_ext (T.out _)) | (go_at_call 86; with_reducible exact calls_ext (TEB.out _ (below_then HB.out (Ext.below _))))))
      refine wpQuiet_nil ?_;intro _ hw';obtain ⟨n9,rfl⟩:=hw';have HB9:=Lib.hid n9.below;generalize n9.wd=w9 at *;clear Xx0_0 Xx0_1 Xx0_2 Xx0_3 Xx0_4 Xx0_5 Xx0_6 Xx1_0 Xx1_1 Xx1_2 Xx1_3 Xx1_4;go_wp2_with fail
      first | refine bodyPost_ret (v:=.tuple #[.slice a l.length cap,.bool false]) (by simp [results,Try.results89,go_sem]) rfl ?_ | refine bodyPost_ret (v:=.tuple #[.slice (some ⟨b,off,none⟩) l.length cap,.bool false]) (by simp [results,Try.results89,go_sem]) rfl ?_
      exact HNONE.out hr.out _ _ _ HB9.out rfl
     | true=>
      cases ex with
      | false=>
       have hr:Hid (lo=some l):=by show _=_; rw [← HLO.out]; simp [HO1.out,HEX.out]
       go_upto_region 11 with fail
       have Xx0_0:=ext_cell _ _ ((ltR R0)) _ x0_0;have Xx0_1:=ext_cell _ _ ((ltR R0)) _ x0_1;have Xx0_2:=ext_cell _ _ ((ltR R0)) _ x0_2;have Xx0_3:=ext_cell _ _ ((ltR R0)) _ x0_3;have Xx0_4:=ext_cell _ _ ((ltR R0)) _ x0_4;have Xx0_5:=ext_cell _ _ ((ltR R0)) _ x0_5;have Xx0_6:=ext_cell _ _ ((ltR R0)) _ x0_6;have Xx1_0:=ext_cell _ _ ((ltR R1)) _ x1_0;have Xx1_1:=ext_cell _ _ ((ltR R1)) _ x1_1;have Xx1_2:=ext_cell _ _ ((ltR R1)) _ x1_2;have Xx1_3:=ext_cell _ _ ((ltR R1)) _ x1_3;have Xx1_4:=ext_cell _ _ ((ltR R1)) _ x1_4;clear x0_0 x0_1 x0_2 x0_3 x0_4 x0_5 x0_6 x1_0 x1_1 x1_2 x1_3 x1_4;refine wp_region_ext W (by kernel_rfl) (by kernel_rfl) (Below.refl _ _) ?_
       repeat (go_big_quiet_step (first | (go_at_call 107; with_reducible exact calls_ext (T.out _)) | (go_at_call 86; with_reducible exact calls_ext (TEB.out _ (below_then HB.out (Ext.below _))))))
       refine wpQuiet_nil ?_;intro _ hw';obtain ⟨n9,rfl⟩:=hw';have HB9:=Lib.hid n9.below;generalize n9.wd=w9 at *;clear Xx0_0 Xx0_1 Xx0_2 Xx0_3 Xx0_4 Xx0_5 Xx0_6 Xx1_0 Xx1_1 Xx1_2 Xx1_3 Xx1_4;go_wp2_with fail
       first | refine bodyPost_ret (v:=.tuple #[.slice a l.length cap,.bool true]) (by simp [results,Try.results89,go_sem]) rfl ?_ | refine bodyPost_ret (v:=.tuple #[.slice (some ⟨b,off,none⟩) l.length cap,.bool true]) (by simp [results,Try.results89,go_sem]) rfl ?_
       exact HSAME.out hr.out _ _ HB9.out rfl
      | true=>
       have hx:=HEX.out;unfold exB at hx;simp only [Bool.and_eq_true,decide_eq_true_eq] at hx;obtain ⟨i,hi⟩:∃i:Nat,ch=(i:Int):=⟨ch.toNat,by omega⟩;subst hi;have hil:i<l.length:=by omega
       have hiI:(i:Int)<(l.length:Int):=by omega
       obtain ⟨⟨cc,bf,cl⟩,hcc⟩:∃c,l.getD i noChan=c:=⟨_,rfl⟩;have HCE:Hid (chE l (i:Int)=⟨cc,bf,cl⟩):=by
        show l.getD (Int.toNat (i:Int)) noChan=_;rw [Int.toNat_natCast,hcc]
       have hmem:(⟨cc,bf,cl⟩:ChanM)∈l:=by
        rw [← hcc,List.getD_eq_getElem?_getD,List.getElem?_eq_getElem hil];exact List.getElem_mem hil
       have HCW:Hid (cc=IntKind.i64.wrap cc):=by
        obtain ⟨us,-,-,-,h4,-⟩:=HV.out;exact h4 _ hmem
       have TS:=Lib.hid fun c u w' (hb:Below w.heap.size w w') hu hcw=>mset_any _ l i hil c u w' (HV.out.below hb) hu hcw HL.out;obtain ⟨b,off,cap',u,hve,hbb,c0,c1,c2,hu,hfu⟩:=(HV.out.below (HB.out)).at2 i hil;simp only [Value.slice.injEq] at hve;obtain ⟨rfl,-,rfl⟩:=hve;rw [hcc] at c0 c2 hu;dsimp only at c0 c2 hu;obtain ⟨ua,uc,rfl,-⟩:=hu.len;have HU:=Lib.hid hu;have HUF:Hid (SlU _ (.slice ua bf.length uc) bf):=⟨HU.out,hfu⟩;clear hfu hx hcc hmem hu;cases cl with
       | false=>
        have hr:Hid (lo=none):=by show _=_; rw [← HLO.out]; simp [HO1.out,HEX.out,HCE.out]
        go_upto_region 11 with fail
        have Xx0_0:=ext_cell _ _ ((ltR R0)) _ x0_0;have Xx0_1:=ext_cell _ _ ((ltR R0)) _ x0_1;have Xx0_2:=ext_cell _ _ ((ltR R0)) _ x0_2;have Xx0_3:=ext_cell _ _ ((ltR R0)) _ x0_3;have Xx0_4:=ext_cell _ _ ((ltR R0)) _ x0_4;have Xx0_5:=ext_cell _ _ ((ltR R0)) _ x0_5;have Xx0_6:=ext_cell _ _ ((ltR R0)) _ x0_6;have Xx1_0:=ext_cell _ _ ((ltR R1)) _ x1_0;have Xx1_1:=ext_cell _ _ ((ltR R1)) _ x1_1;have Xx1_2:=ext_cell _ _ ((ltR R1)) _ x1_2;have Xx1_3:=ext_cell _ _ ((ltR R1)) _ x1_3;have Xx1_4:=ext_cell _ _ ((ltR R1)) _ x1_4;have Xc0:=ext_cell _ _ (hbb) _ c0;have Xc1:=ext_cell _ _ (hbb) _ c1;have Xc2:=ext_cell _ _ (hbb) _ c2;clear x0_0 x0_1 x0_2 x0_3 x0_4 x0_5 x0_6 x1_0 x1_1 x1_2 x1_3 x1_4 c0 c1 c2;refine wp_region_ext W (by kernel_rfl) (by kernel_rfl) (Below.refl _ _) ?_
        repeat (go_big_quiet_step (first | (go_at_call 107; with_reducible exact calls_ext (T.out _)) | (go_at_call 86; with_reducible exact calls_ext (TEB.out _ (below_then HB.out (Ext.below _))))))
        refine wpQuiet_nil ?_;intro _ hw';obtain ⟨n9,rfl⟩:=hw';have HB9:=Lib.hid n9.below;generalize n9.wd=w9 at *;clear Xx0_0 Xx0_1 Xx0_2 Xx0_3 Xx0_4 Xx0_5 Xx0_6 Xx1_0 Xx1_1 Xx1_2 Xx1_3 Xx1_4 Xc0 Xc1 Xc2;go_wp2_with fail
        first | refine bodyPost_ret (v:=.tuple #[.slice a l.length cap,.bool false]) (by simp [results,Try.results89,go_sem]) rfl ?_ | refine bodyPost_ret (v:=.tuple #[.slice (some ⟨b,off,none⟩) l.length cap,.bool false]) (by simp [results,Try.results89,go_sem]) rfl ?_
        exact HNONE.out hr.out _ _ _ HB9.out rfl
       | true=>
        have hr:Hid (lo=some l):=by show _=_; rw [← HLO.out]; simp [HO1.out,HEX.out,HCE.out]
        go_upto_region 11 with fail
        have Xx0_0:=ext_cell _ _ ((ltR R0)) _ x0_0;have Xx0_1:=ext_cell _ _ ((ltR R0)) _ x0_1;have Xx0_2:=ext_cell _ _ ((ltR R0)) _ x0_2;have Xx0_3:=ext_cell _ _ ((ltR R0)) _ x0_3;have Xx0_4:=ext_cell _ _ ((ltR R0)) _ x0_4;have Xx0_5:=ext_cell _ _ ((ltR R0)) _ x0_5;have Xx0_6:=ext_cell _ _ ((ltR R0)) _ x0_6;have Xx1_0:=ext_cell _ _ ((ltR R1)) _ x1_0;have Xx1_1:=ext_cell _ _ ((ltR R1)) _ x1_1;have Xx1_2:=ext_cell _ _ ((ltR R1)) _ x1_2;have Xx1_3:=ext_cell _ _ ((ltR R1)) _ x1_3;have Xx1_4:=ext_cell _ _ ((ltR R1)) _ x1_4;have Xc0:=ext_cell _ _ (hbb) _ c0;have Xc1:=ext_cell _ _ (hbb) _ c1;have Xc2:=ext_cell _ _ (hbb) _ c2;clear x0_0 x0_1 x0_2 x0_3 x0_4 x0_5 x0_6 x1_0 x1_1 x1_2 x1_3 x1_4 c0 c1 c2;refine wp_region_ext W (by kernel_rfl) (by kernel_rfl) (Below.refl _ _) ?_
        repeat (go_big_quiet_step (first | (go_at_call 107; with_reducible exact calls_ext (T.out _)) | (go_at_call 86; with_reducible exact calls_ext (TEB.out _ (below_then HB.out (Ext.below _))))))
        refine wpQuiet_nil ?_;intro _ hw';obtain ⟨n9,rfl⟩:=hw';have HB9:=Lib.hid n9.below;generalize n9.wd=w9 at *;clear Xx0_0 Xx0_1 Xx0_2 Xx0_3 Xx0_4 Xx0_5 Xx0_6 Xx1_0 Xx1_1 Xx1_2 Xx1_3 Xx1_4 Xc0 Xc1 Xc2;go_wp2_with fail
        first | refine bodyPost_ret (v:=.tuple #[.slice a l.length cap,.bool true]) (by simp [results,Try.results89,go_sem]) rfl ?_ | refine bodyPost_ret (v:=.tuple #[.slice (some ⟨b,off,none⟩) l.length cap,.bool true]) (by simp [results,Try.results89,go_sem]) rfl ?_
        exact HSAME.out hr.out _ _ HB9.out rfl
    have c1b:(rc == -1)=false:=by simpa using c1
    have hr:Hid (lo=none):=by show _=_; rw [← HLO.out]; simp [c1]
    go_upto_region 11 with fail
    have Xx0_0:=ext_cell _ _ ((ltR R0)) _ x0_0;have Xx0_1:=ext_cell _ _ ((ltR R0)) _ x0_1;have Xx0_2:=ext_cell _ _ ((ltR R0)) _ x0_2;have Xx0_3:=ext_cell _ _ ((ltR R0)) _ x0_3;have Xx0_4:=ext_cell _ _ ((ltR R0)) _ x0_4;have Xx0_5:=ext_cell _ _ ((ltR R0)) _ x0_5;have Xx0_6:=ext_cell _ _ ((ltR R0)) _ x0_6;have Xx1_0:=ext_cell _ _ ((ltR R1)) _ x1_0;have Xx1_1:=ext_cell _ _ ((ltR R1)) _ x1_1;have Xx1_2:=ext_cell _ _ ((ltR R1)) _ x1_2;have Xx1_3:=ext_cell _ _ ((ltR R1)) _ x1_3;have Xx1_4:=ext_cell _ _ ((ltR R1)) _ x1_4;clear x0_0 x0_1 x0_2 x0_3 x0_4 x0_5 x0_6 x1_0 x1_1 x1_2 x1_3 x1_4;refine wp_region_ext W (by kernel_rfl) (by kernel_rfl) (Below.refl _ _) ?_
    repeat (go_big_quiet_step (first | (go_at_call 107; with_reducible exact calls_ext (T.out _)) | (go_at_call 86; with_reducible exact calls_ext (TEB.out _ (below_then HB.out (Ext.below _))))))
    refine wpQuiet_nil ?_;intro _ hw';obtain ⟨n9,rfl⟩:=hw';have HB9:=Lib.hid n9.below;generalize n9.wd=w9 at *;clear Xx0_0 Xx0_1 Xx0_2 Xx0_3 Xx0_4 Xx0_5 Xx0_6 Xx1_0 Xx1_1 Xx1_2 Xx1_3 Xx1_4;go_wp2_with fail
    first | refine bodyPost_ret (v:=.tuple #[.slice a l.length cap,.bool false]) (by simp [results,Try.results89,go_sem]) rfl ?_ | refine bodyPost_ret (v:=.tuple #[.slice (some ⟨b,off,none⟩) l.length cap,.bool false]) (by simp [results,Try.results89,go_sem]) rfl ?_
    exact HNONE.out hr.out _ _ _ HB9.out rfl
   ·have k3b:(kd == 3)=false:=by simpa using k3
    have HBD:Hid (lo=lc.bind fun x=>doE l x ⟨5,rc,rv,rok,nm⟩):=by show _=_; rw [← HLO.out]; simp [k3]
    go_wp2_with fail;refine (TC.out _ HB.out).mono ?_; rintro e w1 ⟨⟨s1,s2,s3⟩,bx,rfl,hlx,hb1⟩;have HLX:=Lib.hid hlx;have HB1:=Lib.hid hb1;have R1y:=keepR hb1 R1;clear x0_0 x0_1 x0_2 x0_3 x0_4 x0_5 x0_6 x1_0 x1_1 x1_2 x1_3 x1_4 hb1 hlx;unfold caseW;dsimp only;obtain ⟨Wx,hWx⟩:∃Wx,(w1.alloc (.cells #[.bool false,.int .i64 0,.int .u64 0] 58)).setRow w1.heap.size #[.bool s1,.int .i64 s2,.int .u64 s3]=Wx:=⟨_,rfl⟩;have Nx:Hid ((w1.alloc (.cells #[.bool false,.int .i64 0,.int .u64 0] 58)).heap[w1.heap.size]?=some (.cells #[.bool false,.int .i64 0,.int .u64 0] 58 (0,0))):=heap_alloc_new _ _;have HBx:Hid (Below w1.heap.size w1 Wx):=hWx▸row_below (below_new (Below.refl _ _) _) (Nat.le_refl _) _;have Rx:Hid (Wx.heap[w1.heap.size]?=some (.cells #[.bool s1,.int .i64 s2,.int .u64 s3] 58 (0,0))):=hWx▸setRow_heap _ _ _ _ _ (0,0) Nx.out;have HWx:=Lib.hid hWx;clear hWx;go_upto_region 13 with (refine wpList_store_row rfl 58 _ _ rfl (w1.heap.size) _ rfl rfl 58 _ Nx.out (by kernel_rfl) rfl (by simp [Value.oneCell']) ?_)
    rw [HWx.out];try simp only [Act.put]
    clear HWx Nx;have HBX:=Lib.hid (below_then HB1.out HBx.out);have R1z:=keepR HBx.out R1y;obtain ⟨x1_0,x1_1,x1_2,x1_3,x1_4⟩:=rowc5 R1z.out;obtain ⟨y0,y1,y2⟩:=rowc3 Rx.out;cases bx with
    | false=>
     have hr:Hid (lo=none):=by
      show _=_;rcases HLX.out with ⟨h2,-⟩ | ⟨-,h1⟩
      ·cases h2
      ·rw [HBD.out,h1]; rfl
     go_wp2;refine bodyPost_ret (v:=.tuple #[.slice none 0 0,.bool false]) (by simp [results,Try.results89,go_sem]) rfl ?_;exact HNONE.out hr.out _ _ _ HBX.out rfl
    | true=>
     have hlx:lc=some ⟨s1,s2,s3⟩:=by
      rcases HLX.out with ⟨-,h1⟩ | ⟨h2,-⟩
      ·exact h1
      ·cases h2
     have HBE:Hid (lo=doE l ⟨s1,s2,s3⟩ ⟨5,rc,rv,rok,nm⟩):=by show _=_; rw [HBD.out,hlx]; rfl
     have T:=TD.out ⟨s1,s2,s3⟩ Wx (below_then HB.out HBX.out) (HOK.out _ hlx);unfold caseW at T;dsimp only at T;rw [← HBE.out] at T;have T2:=Lib.hid T;clear T hlx;go_wp2_with fail;refine T2.out.mono ?_; rintro e w3 ⟨v3,ok3,rfl,hq3,hb3⟩;have HB3:=Lib.hid (below_then (below_then HB.out HBX.out) hb3);have HQ3:=Lib.hid hq3;clear hq3 hb3 y0 y1 y2 x1_0 x1_1 x1_2 x1_3 x1_4;go_wp2_with fail;refine bodyPost_ret (v:=.tuple #[v3,.bool ok3]) (by simp [results,Try.results89,go_sem]) rfl ?_;exact ⟨v3,ok3,rfl,HQ3.out,HB3.out⟩
  have q5b:(rk == 5)=false:=by simpa using q5
  by_cases q6:rk=6
  ·subst q6
   obtain ⟨o1,ho1⟩:∃b,onlyB ⟨6,rc,rv,rok,nm⟩ false false=b:=⟨_,rfl⟩;have T:=Lib.hid (TO.out false false);rw [ho1] at T;have HO1:=Lib.hid ho1;clear ho1;obtain ⟨ex,hex⟩:∃b,exB l ch=b:=⟨_,rfl⟩;rw [hex] at TE;have HEX:=Lib.hid hex;clear hex;by_cases k3:kd=3
   ·subst k3
    by_cases c1:rc=-1
    ·subst c1
     go_wp2_with fail;refine (T.out _).mono ?_; rintro e w1 ⟨rfl,hbw⟩;have HB1:=Lib.hid hbw;have R0y:=keepR hbw R0;clear x0_0 x0_1 x0_2 x0_3 x0_4 x0_5 x0_6 x1_0 x1_1 x1_2 x1_3 x1_4 hbw T;obtain ⟨x0_0,x0_1,x0_2,x0_3,x0_4,x0_5,x0_6⟩:=rowc7 R0y.out;cases o1 with
     | false=>
      have hr:Hid (lo=none):=by show _=_; rw [← HLO.out]; simp [HO1.out]
      go_wp2;refine bodyPost_ret (v:=.tuple #[.slice none 0 0,.bool false]) (by simp [results,Try.results89,go_sem]) rfl ?_;exact HNONE.out hr.out _ _ _ HB1.out rfl
     | true=>
      go_wp2_with fail;refine (TE.out _ (below_then HB.out HB1.out)).mono ?_; rintro e w' ⟨rfl,rfl⟩;cases ex with
      | false=>
       have hr:Hid (lo=none):=by show _=_; rw [← HLO.out]; simp [HO1.out,HEX.out]
       go_wp2;refine bodyPost_ret (v:=.tuple #[.slice none 0 0,.bool false]) (by simp [results,Try.results89,go_sem]) rfl ?_;exact HNONE.out hr.out _ _ _ HB1.out rfl
      | true=>
       have hx:=HEX.out;unfold exB at hx;simp only [Bool.and_eq_true,decide_eq_true_eq] at hx;obtain ⟨i,hi⟩:∃i:Nat,ch=(i:Int):=⟨ch.toNat,by omega⟩;subst hi;have hil:i<l.length:=by omega
       have hiI:(i:Int)<(l.length:Int):=by omega
       obtain ⟨⟨cc,bf,cl⟩,hcc⟩:∃c,l.getD i noChan=c:=⟨_,rfl⟩;have HCE:Hid (chE l (i:Int)=⟨cc,bf,cl⟩):=by
        show l.getD (Int.toNat (i:Int)) noChan=_;rw [Int.toNat_natCast,hcc]
       have hmem:(⟨cc,bf,cl⟩:ChanM)∈l:=by
        rw [← hcc,List.getD_eq_getElem?_getD,List.getElem?_eq_getElem hil];exact List.getElem_mem hil
       have HCW:Hid (cc=IntKind.i64.wrap cc):=by
        obtain ⟨us,-,-,-,h4,-⟩:=HV.out;exact h4 _ hmem
       have TS:=Lib.hid fun c u w' (hb:Below w.heap.size w w') hu hcw=>mset_any _ l i hil c u w' (HV.out.below hb) hu hcw HL.out;obtain ⟨b,off,cap',u,hve,hbb,c0,c1,c2,hu,hfu⟩:=(HV.out.below (below_then HB.out HB1.out)).at2 i hil;simp only [Value.slice.injEq] at hve;obtain ⟨rfl,-,rfl⟩:=hve;rw [hcc] at c0 c2 hu;dsimp only at c0 c2 hu;obtain ⟨ua,uc,rfl,-⟩:=hu.len;have HU:=Lib.hid hu;have HUF:Hid (SlU _ (.slice ua bf.length uc) bf):=⟨HU.out,hfu⟩;clear hfu hx hcc hmem hu;cases cl with
       | true=>
        have hr:Hid (lo=none):=by show _=_; rw [← HLO.out]; simp [HO1.out,HEX.out,HCE.out]
        go_wp2;refine bodyPost_ret (v:=.tuple #[.slice none 0 0,.bool false]) (by simp [results,Try.results89,go_sem]) rfl ?_;exact HNONE.out hr.out _ _ _ HB1.out rfl
       | false=>
        have hr:Hid (lo=some (l.set i ⟨cc,bf,true⟩)):=by show _=_; rw [← HLO.out]; simp [HO1.out,HEX.out,HCE.out,setE]
        obtain ⟨Wx,hWx⟩:∃Wx,(w1.alloc (.cells #[.int .i64 0,.slice none 0 0,.bool false] 63)).setRow w1.heap.size #[.int .i64 cc,.slice ua bf.length uc,.bool false]=Wx:=⟨_,rfl⟩;have Nx:Hid ((w1.alloc (.cells #[.int .i64 0,.slice none 0 0,.bool false] 63)).heap[w1.heap.size]?=some (.cells #[.int .i64 0,.slice none 0 0,.bool false] 63 (0,0))):=heap_alloc_new _ _;have HBx:Hid (Below w1.heap.size w1 Wx):=hWx▸row_below (below_new (Below.refl _ _) _) (Nat.le_refl _) _;have Rx:Hid (Wx.heap[w1.heap.size]?=some (.cells #[.int .i64 cc,.slice ua bf.length uc,.bool false] 63 (0,0))):=hWx▸setRow_heap _ _ _ _ _ (0,0) Nx.out;have HWx:=Lib.hid hWx;clear hWx;go_upto_region 20 with (refine wpList_store_row rfl 63 _ _ rfl (w1.heap.size) _ rfl rfl 63 _ Nx.out (by kernel_rfl) rfl (by simp [Value.oneCell']) ?_)
        rw [HWx.out];try simp only [Act.put]
        clear HWx Nx;have ff:=frozen_of_row Wx w1.heap.size 2 _ _ Rx.out;obtain ⟨z0,z1,z2⟩:=rowc3 Rx.out;go_upto_region 21 with fail
        obtain ⟨u4,hu4⟩:∃u4,Wx.setCell ⟨w1.heap.size,2,none⟩ (.bool true)=u4:=⟨_,rfl⟩;have HR4:Hid (u4.heap[w1.heap.size]?=some (.cells #[.int .i64 cc,.slice ua bf.length uc,.bool true] 63 (0,0))):=by
         rw [← hu4];have r1:=heap_setCell_same Wx w1.heap.size 2 _ _ (.bool true) Rx.out;simp at r1;exact r1
        have HC4:Hid (u4.heap[w.heap.size]?=some (.cells #[.int .i64 3,.int .i64 md,.int .i64 i,.int .u64 vl,.int .i64 dl,.slice a3 cs.length cap3,.slice a4 ds.length cap4] 44 (0,0))):=by
         rw [← hu4];exact (heap_setCell_other Wx ⟨w1.heap.size,2,none⟩ w.heap.size (.bool true) (by show w.heap.size≠w1.heap.size; have:=HB1.out.size; omega)).trans ((HBx.out.block w.heap.size (ltR R0y)).trans R0y.out)
        have HB4:Hid (Below w1.heap.size w1 u4):=by
         rw [← hu4];exact HBx.out.setCell (p:=⟨w1.heap.size,2,none⟩) (Nat.le_refl _) (.bool true)
        rw [hu4];clear hu4 z0 z1 z2 ff x0_0 x0_1 x0_2 x0_3 x0_4 x0_5 x0_6 c0 c1 c2;obtain ⟨z0,z1,z2⟩:=rowc3 HR4.out;obtain ⟨x0_0,x0_1,x0_2,x0_3,x0_4,x0_5,x0_6⟩:=rowc7 HC4.out;have T5:=TS.out ⟨cc,bf,true⟩ (.slice ua bf.length uc) u4 (below_then HB.out (below_then HB1.out HB4.out)) (HUF.out.below HB4.out) HCW.out;dsimp only at T5;have T5':=Lib.hid T5;clear T5;go_wp2_with fail;refine T5'.out.mono ?_; rintro e u5 ⟨v5,rfl,hs5,hb5⟩;have HB5:=Lib.hid (below_then (below_then HB.out (below_then HB1.out HB4.out)) hb5);have HS5:=Lib.hid hs5;clear z0 z1 z2 x0_0 x0_1 x0_2 x0_3 x0_4 x0_5 x0_6 hb5 hs5 T5';go_wp2_with fail;refine bodyPost_ret (v:=.tuple #[v5,.bool true]) (by simp [results,Try.results89,go_sem]) rfl ?_;exact ⟨v5,true,rfl,.inl ⟨_,hr.out,rfl,HS5.out⟩,HB5.out⟩
    have c1b:(rc == -1)=false:=by simpa using c1
    have c1n:(rc != -1)=true:=by simpa using c1
    have hr:Hid (lo=none):=by show _=_; rw [← HLO.out]; simp [c1]
    go_wp2;refine bodyPost_ret (v:=.tuple #[.slice none 0 0,.bool false]) (by simp [results,Try.results89,go_sem]) rfl ?_;exact HNONE.out hr.out _ _ _ (Below.refl _ _) rfl
   have k3b:(kd == 3)=false:=by simpa using k3
   have k3n:(kd != 3)=true:=by simpa using k3
   have hr:Hid (lo=none):=by show _=_; rw [← HLO.out]; simp [k3]
   go_wp2;refine bodyPost_ret (v:=.tuple #[.slice none 0 0,.bool false]) (by simp [results,Try.results89,go_sem]) rfl ?_;exact HNONE.out hr.out _ _ _ (Below.refl _ _) rfl
  have q6b:(rk == 6)=false:=by simpa using q6
  by_cases q3:rk=3
  ·subst q3
   obtain ⟨o1,ho1⟩:∃b,onlyB ⟨3,rc,rv,rok,nm⟩ false false=b:=⟨_,rfl⟩;have T:=Lib.hid (TO.out false false);rw [ho1] at T;obtain ⟨b1,hb1⟩:∃b,(md == 1)=b:=⟨_,rfl⟩;obtain ⟨b2,hb2⟩:∃b,(rc == -1)=b:=⟨_,rfl⟩;obtain ⟨bb,hbb⟩:∃b,blockedB l ⟨kd,md,ch,vl,dl,cs,ds⟩=b:=⟨_,rfl⟩;rw [hbb] at TB;have HZZ:Hid (lo=if wv=true∧b1=true∧b2=true∧o1=true∧bb=true then some l else none):=by
    show _=_;rw [← HLO.out,← hb1,← hb2,← ho1,← HWV.out,← hbb];simp
   clear HLO ho1;cases wv with
   | false=>
    have hr:Hid (lo=none):=by show _=_; rw [HZZ.out]; simp
    go_wp2
    first | refine bodyPost_ret (v:=.tuple #[.slice a l.length cap,.bool false]) (by simp [results,Try.results89,go_sem]) rfl ?_ | refine bodyPost_ret (v:=.tuple #[.slice (some ⟨b,off,none⟩) l.length cap,.bool false]) (by simp [results,Try.results89,go_sem]) rfl ?_
    exact HNONE.out hr.out _ _ _ (Below.refl _ _) rfl
   | true=>
    cases b1 with
    | false=>
     have hr:Hid (lo=none):=by show _=_; rw [HZZ.out]; simp
     go_wp2
     first | refine bodyPost_ret (v:=.tuple #[.slice a l.length cap,.bool false]) (by simp [results,Try.results89,go_sem]) rfl ?_ | refine bodyPost_ret (v:=.tuple #[.slice (some ⟨b,off,none⟩) l.length cap,.bool false]) (by simp [results,Try.results89,go_sem]) rfl ?_
     exact HNONE.out hr.out _ _ _ (Below.refl _ _) rfl
    | true=>
     cases b2 with
     | false=>
      have hr:Hid (lo=none):=by show _=_; rw [HZZ.out]; simp
      go_wp2
      first | refine bodyPost_ret (v:=.tuple #[.slice a l.length cap,.bool false]) (by simp [results,Try.results89,go_sem]) rfl ?_ | refine bodyPost_ret (v:=.tuple #[.slice (some ⟨b,off,none⟩) l.length cap,.bool false]) (by simp [results,Try.results89,go_sem]) rfl ?_
      exact HNONE.out hr.out _ _ _ (Below.refl _ _) rfl
     | true=>
      go_wp2_with fail;refine (T.out _).mono ?_; rintro e w1 ⟨rfl,hbw⟩;have HB1:=Lib.hid hbw;have R0y:=keepR hbw R0;clear x0_0 x0_1 x0_2 x0_3 x0_4 x0_5 x0_6 x1_0 x1_1 x1_2 x1_3 x1_4 hbw T;cases o1 with
      | false=>
       have hr:Hid (lo=none):=by show _=_; rw [HZZ.out]; simp
       go_wp2
       first | refine bodyPost_ret (v:=.tuple #[.slice a l.length cap,.bool false]) (by simp [results,Try.results89,go_sem]) rfl ?_ | refine bodyPost_ret (v:=.tuple #[.slice (some ⟨b,off,none⟩) l.length cap,.bool false]) (by simp [results,Try.results89,go_sem]) rfl ?_
       exact HNONE.out hr.out _ _ _ HB1.out rfl
      | true=>
       obtain ⟨x0_0,x0_1,x0_2,x0_3,x0_4,x0_5,x0_6⟩:=rowc7 R0y.out;go_wp2_with fail;refine (TB.out _ (below_then HB.out HB1.out)).mono ?_; rintro e w2 ⟨rfl,hbw⟩;have HB2:=Lib.hid (below_then HB1.out hbw);clear x0_0 x0_1 x0_2 x0_3 x0_4 x0_5 x0_6 hbw;cases bb with
       | false=>
        have hr:Hid (lo=none):=by show _=_; rw [HZZ.out]; simp
        go_wp2
        first | refine bodyPost_ret (v:=.tuple #[.slice a l.length cap,.bool false]) (by simp [results,Try.results89,go_sem]) rfl ?_ | refine bodyPost_ret (v:=.tuple #[.slice (some ⟨b,off,none⟩) l.length cap,.bool false]) (by simp [results,Try.results89,go_sem]) rfl ?_
        exact HNONE.out hr.out _ _ _ HB2.out rfl
       | true=>
        have hr:Hid (lo=some l):=by show _=_; rw [HZZ.out]; simp
        go_wp2
        first | refine bodyPost_ret (v:=.tuple #[.slice a l.length cap,.bool true]) (by simp [results,Try.results89,go_sem]) rfl ?_ | refine bodyPost_ret (v:=.tuple #[.slice (some ⟨b,off,none⟩) l.length cap,.bool true]) (by simp [results,Try.results89,go_sem]) rfl ?_
        exact HSAME.out hr.out _ _ HB2.out rfl
  have q3b:(rk == 3)=false:=by simpa using q3
  by_cases q4:rk=4
  ·subst q4
   obtain ⟨o1,ho1⟩:∃b,onlyB ⟨4,rc,rv,rok,nm⟩ false false=b:=⟨_,rfl⟩;have T:=Lib.hid (TO.out false false);rw [ho1] at T;obtain ⟨b1,hb1⟩:∃b,(md == 2)=b:=⟨_,rfl⟩;obtain ⟨b2,hb2⟩:∃b,(rc == -1)=b:=⟨_,rfl⟩;have HZZ:Hid (lo=if wv=true∧b1=true∧b2=true∧o1=true then some l else none):=by
    show _=_;rw [← HLO.out,← hb1,← hb2,← ho1,← HWV.out];simp
   clear HLO ho1;cases wv with
   | false=>
    have hr:Hid (lo=none):=by show _=_; rw [HZZ.out]; simp
    go_wp2
    first | refine bodyPost_ret (v:=.tuple #[.slice a l.length cap,.bool false]) (by simp [results,Try.results89,go_sem]) rfl ?_ | refine bodyPost_ret (v:=.tuple #[.slice (some ⟨b,off,none⟩) l.length cap,.bool false]) (by simp [results,Try.results89,go_sem]) rfl ?_
    exact HNONE.out hr.out _ _ _ (Below.refl _ _) rfl
   | true=>
    cases b1 with
    | false=>
     have hr:Hid (lo=none):=by show _=_; rw [HZZ.out]; simp
     go_wp2
     first | refine bodyPost_ret (v:=.tuple #[.slice a l.length cap,.bool false]) (by simp [results,Try.results89,go_sem]) rfl ?_ | refine bodyPost_ret (v:=.tuple #[.slice (some ⟨b,off,none⟩) l.length cap,.bool false]) (by simp [results,Try.results89,go_sem]) rfl ?_
     exact HNONE.out hr.out _ _ _ (Below.refl _ _) rfl
    | true=>
     cases b2 with
     | false=>
      have hr:Hid (lo=none):=by show _=_; rw [HZZ.out]; simp
      go_wp2
      first | refine bodyPost_ret (v:=.tuple #[.slice a l.length cap,.bool false]) (by simp [results,Try.results89,go_sem]) rfl ?_ | refine bodyPost_ret (v:=.tuple #[.slice (some ⟨b,off,none⟩) l.length cap,.bool false]) (by simp [results,Try.results89,go_sem]) rfl ?_
      exact HNONE.out hr.out _ _ _ (Below.refl _ _) rfl
     | true=>
      go_wp2_with fail;refine (T.out _).mono ?_; rintro e w1 ⟨rfl,hbw⟩;have HB1:=Lib.hid hbw;have R0y:=keepR hbw R0;clear x0_0 x0_1 x0_2 x0_3 x0_4 x0_5 x0_6 x1_0 x1_1 x1_2 x1_3 x1_4 hbw T;cases o1 with
      | false=>
       have hr:Hid (lo=none):=by show _=_; rw [HZZ.out]; simp
       go_wp2
       first | refine bodyPost_ret (v:=.tuple #[.slice a l.length cap,.bool false]) (by simp [results,Try.results89,go_sem]) rfl ?_ | refine bodyPost_ret (v:=.tuple #[.slice (some ⟨b,off,none⟩) l.length cap,.bool false]) (by simp [results,Try.results89,go_sem]) rfl ?_
       exact HNONE.out hr.out _ _ _ HB1.out rfl
      | true=>
       have hr:Hid (lo=some l):=by show _=_; rw [HZZ.out]; simp
       go_wp2
       first | refine bodyPost_ret (v:=.tuple #[.slice a l.length cap,.bool true]) (by simp [results,Try.results89,go_sem]) rfl ?_ | refine bodyPost_ret (v:=.tuple #[.slice (some ⟨b,off,none⟩) l.length cap,.bool true]) (by simp [results,Try.results89,go_sem]) rfl ?_
       exact HSAME.out hr.out _ _ HB1.out rfl
  have q4b:(rk == 4)=false:=by simpa using q4
  by_cases q7:rk=7
  ·subst q7
   obtain ⟨o1,ho1⟩:∃b,onlyB ⟨7,rc,rv,rok,nm⟩ false true=b:=⟨_,rfl⟩;have T:=Lib.hid (TO.out false true);rw [ho1] at T;have HO1:=Lib.hid ho1;clear ho1;obtain ⟨ex,hex⟩:∃b,exB l ch=b:=⟨_,rfl⟩;rw [hex] at TE;have HEX:=Lib.hid hex;clear hex;by_cases k5:kd=5
   ·subst k5
    go_wp2_with fail;refine (TE.out _ HB.out).mono ?_; rintro e w' ⟨rfl,rfl⟩;cases ex with
    | false=>
     by_cases c1:rc=-1
     ·subst c1
      cases o1 with
      | false=>
       have hr:Hid (lo=none):=by show _=_; rw [← HLO.out]; simp [HO1.out]
       go_upto_region 32 with fail
       have Xx0_0:=ext_cell _ _ ((ltR R0)) _ x0_0;have Xx0_1:=ext_cell _ _ ((ltR R0)) _ x0_1;have Xx0_2:=ext_cell _ _ ((ltR R0)) _ x0_2;have Xx0_3:=ext_cell _ _ ((ltR R0)) _ x0_3;have Xx0_4:=ext_cell _ _ ((ltR R0)) _ x0_4;have Xx0_5:=ext_cell _ _ ((ltR R0)) _ x0_5;have Xx0_6:=ext_cell _ _ ((ltR R0)) _ x0_6;have Xx1_0:=ext_cell _ _ ((ltR R1)) _ x1_0;have Xx1_1:=ext_cell _ _ ((ltR R1)) _ x1_1;have Xx1_2:=ext_cell _ _ ((ltR R1)) _ x1_2;have Xx1_3:=ext_cell _ _ ((ltR R1)) _ x1_3;have Xx1_4:=ext_cell _ _ ((ltR R1)) _ x1_4;clear x0_0 x0_1 x0_2 x0_3 x0_4 x0_5 x0_6 x1_0 x1_1 x1_2 x1_3 x1_4;refine wp_region_ext W (by kernel_rfl) (by kernel_rfl) (Below.refl _ _) ?_
       repeat (go_big_quiet_step (first | (go_at_call 107; with_reducible exact calls_ext (T.out _))))
       refine wpQuiet_nil ?_;intro _ hw';obtain ⟨n9,rfl⟩:=hw';have HB9:=Lib.hid n9.below;generalize n9.wd=w9 at *;clear Xx0_0 Xx0_1 Xx0_2 Xx0_3 Xx0_4 Xx0_5 Xx0_6 Xx1_0 Xx1_1 Xx1_2 Xx1_3 Xx1_4;go_wp2_with fail
       first | refine bodyPost_ret (v:=.tuple #[.slice a l.length cap,.bool false]) (by simp [results,Try.results89,go_sem]) rfl ?_ | refine bodyPost_ret (v:=.tuple #[.slice (some ⟨b,off,none⟩) l.length cap,.bool false]) (by simp [results,Try.results89,go_sem]) rfl ?_
       exact HNONE.out hr.out _ _ _ HB9.out rfl
      | true=>
       by_cases n1:nm=0
       ·have n1b:(nm == 0)=true:=by simpa using n1
        have hr:Hid (lo=some l):=by show _=_; rw [← HLO.out]; simp [HO1.out,HEX.out,eq_true n1]
        clear n1;go_upto_region 32 with fail
        have Xx0_0:=ext_cell _ _ ((ltR R0)) _ x0_0;have Xx0_1:=ext_cell _ _ ((ltR R0)) _ x0_1;have Xx0_2:=ext_cell _ _ ((ltR R0)) _ x0_2;have Xx0_3:=ext_cell _ _ ((ltR R0)) _ x0_3;have Xx0_4:=ext_cell _ _ ((ltR R0)) _ x0_4;have Xx0_5:=ext_cell _ _ ((ltR R0)) _ x0_5;have Xx0_6:=ext_cell _ _ ((ltR R0)) _ x0_6;have Xx1_0:=ext_cell _ _ ((ltR R1)) _ x1_0;have Xx1_1:=ext_cell _ _ ((ltR R1)) _ x1_1;have Xx1_2:=ext_cell _ _ ((ltR R1)) _ x1_2;have Xx1_3:=ext_cell _ _ ((ltR R1)) _ x1_3;have Xx1_4:=ext_cell _ _ ((ltR R1)) _ x1_4;clear x0_0 x0_1 x0_2 x0_3 x0_4 x0_5 x0_6 x1_0 x1_1 x1_2 x1_3 x1_4;refine wp_region_ext W (by kernel_rfl) (by kernel_rfl) (Below.refl _ _) ?_
        repeat (go_big_quiet_step (first | (go_at_call 107; with_reducible exact calls_ext (T.out _))))
        refine wpQuiet_nil ?_;intro _ hw';obtain ⟨n9,rfl⟩:=hw';have HB9:=Lib.hid n9.below;generalize n9.wd=w9 at *;clear Xx0_0 Xx0_1 Xx0_2 Xx0_3 Xx0_4 Xx0_5 Xx0_6 Xx1_0 Xx1_1 Xx1_2 Xx1_3 Xx1_4;go_wp2_with fail
        first | refine bodyPost_ret (v:=.tuple #[.slice a l.length cap,.bool true]) (by simp [results,Try.results89,go_sem]) rfl ?_ | refine bodyPost_ret (v:=.tuple #[.slice (some ⟨b,off,none⟩) l.length cap,.bool true]) (by simp [results,Try.results89,go_sem]) rfl ?_
        exact HSAME.out hr.out _ _ HB9.out rfl
       ·have n1b:(nm == 0)=false:=by simpa using n1
        have hr:Hid (lo=none):=by show _=_; rw [← HLO.out]; simp [HO1.out,HEX.out,n1]
        clear n1;go_upto_region 32 with fail
        have Xx0_0:=ext_cell _ _ ((ltR R0)) _ x0_0;have Xx0_1:=ext_cell _ _ ((ltR R0)) _ x0_1;have Xx0_2:=ext_cell _ _ ((ltR R0)) _ x0_2;have Xx0_3:=ext_cell _ _ ((ltR R0)) _ x0_3;have Xx0_4:=ext_cell _ _ ((ltR R0)) _ x0_4;have Xx0_5:=ext_cell _ _ ((ltR R0)) _ x0_5;have Xx0_6:=ext_cell _ _ ((ltR R0)) _ x0_6;have Xx1_0:=ext_cell _ _ ((ltR R1)) _ x1_0;have Xx1_1:=ext_cell _ _ ((ltR R1)) _ x1_1;have Xx1_2:=ext_cell _ _ ((ltR R1)) _ x1_2;have Xx1_3:=ext_cell _ _ ((ltR R1)) _ x1_3;have Xx1_4:=ext_cell _ _ ((ltR R1)) _ x1_4;clear x0_0 x0_1 x0_2 x0_3 x0_4 x0_5 x0_6 x1_0 x1_1 x1_2 x1_3 x1_4;refine wp_region_ext W (by kernel_rfl) (by kernel_rfl) (Below.refl _ _) ?_
        repeat (go_big_quiet_step (first | (go_at_call 107; with_reducible exact calls_ext (T.out _))))
        refine wpQuiet_nil ?_;intro _ hw';obtain ⟨n9,rfl⟩:=hw';have HB9:=Lib.hid n9.below;generalize n9.wd=w9 at *;clear Xx0_0 Xx0_1 Xx0_2 Xx0_3 Xx0_4 Xx0_5 Xx0_6 Xx1_0 Xx1_1 Xx1_2 Xx1_3 Xx1_4;go_wp2_with fail
        first | refine bodyPost_ret (v:=.tuple #[.slice a l.length cap,.bool false]) (by simp [results,Try.results89,go_sem]) rfl ?_ | refine bodyPost_ret (v:=.tuple #[.slice (some ⟨b,off,none⟩) l.length cap,.bool false]) (by simp [results,Try.results89,go_sem]) rfl ?_
        exact HNONE.out hr.out _ _ _ HB9.out rfl
     have c1b:(rc == -1)=false:=by simpa using c1
     have hr:Hid (lo=none):=by show _=_; rw [← HLO.out]; simp [c1]
     go_upto_region 32 with fail
     have Xx0_0:=ext_cell _ _ ((ltR R0)) _ x0_0;have Xx0_1:=ext_cell _ _ ((ltR R0)) _ x0_1;have Xx0_2:=ext_cell _ _ ((ltR R0)) _ x0_2;have Xx0_3:=ext_cell _ _ ((ltR R0)) _ x0_3;have Xx0_4:=ext_cell _ _ ((ltR R0)) _ x0_4;have Xx0_5:=ext_cell _ _ ((ltR R0)) _ x0_5;have Xx0_6:=ext_cell _ _ ((ltR R0)) _ x0_6;have Xx1_0:=ext_cell _ _ ((ltR R1)) _ x1_0;have Xx1_1:=ext_cell _ _ ((ltR R1)) _ x1_1;have Xx1_2:=ext_cell _ _ ((ltR R1)) _ x1_2;have Xx1_3:=ext_cell _ _ ((ltR R1)) _ x1_3;have Xx1_4:=ext_cell _ _ ((ltR R1)) _ x1_4;clear x0_0 x0_1 x0_2 x0_3 x0_4 x0_5 x0_6 x1_0 x1_1 x1_2 x1_3 x1_4;refine wp_region_ext W (by kernel_rfl) (by kernel_rfl) (Below.refl _ _) ?_
     repeat (go_big_quiet_step (first | (go_at_call 107; with_reducible exact calls_ext (T.out _))))
     refine wpQuiet_nil ?_;intro _ hw';obtain ⟨n9,rfl⟩:=hw';have HB9:=Lib.hid n9.below;generalize n9.wd=w9 at *;clear Xx0_0 Xx0_1 Xx0_2 Xx0_3 Xx0_4 Xx0_5 Xx0_6 Xx1_0 Xx1_1 Xx1_2 Xx1_3 Xx1_4;go_wp2_with fail
     first | refine bodyPost_ret (v:=.tuple #[.slice a l.length cap,.bool false]) (by simp [results,Try.results89,go_sem]) rfl ?_ | refine bodyPost_ret (v:=.tuple #[.slice (some ⟨b,off,none⟩) l.length cap,.bool false]) (by simp [results,Try.results89,go_sem]) rfl ?_
     exact HNONE.out hr.out _ _ _ HB9.out rfl
    | true=>
     have hx:=HEX.out;unfold exB at hx;simp only [Bool.and_eq_true,decide_eq_true_eq] at hx;obtain ⟨i,hi⟩:∃i:Nat,ch=(i:Int):=⟨ch.toNat,by omega⟩;subst hi;have hil:i<l.length:=by omega
     have hiI:(i:Int)<(l.length:Int):=by omega
     obtain ⟨⟨cc,bf,cl⟩,hcc⟩:∃c,l.getD i noChan=c:=⟨_,rfl⟩;have HCE:Hid (chE l (i:Int)=⟨cc,bf,cl⟩):=by
      show l.getD (Int.toNat (i:Int)) noChan=_;rw [Int.toNat_natCast,hcc]
     have hmem:(⟨cc,bf,cl⟩:ChanM)∈l:=by
      rw [← hcc,List.getD_eq_getElem?_getD,List.getElem?_eq_getElem hil];exact List.getElem_mem hil
     have HCW:Hid (cc=IntKind.i64.wrap cc):=by
      obtain ⟨us,-,-,-,h4,-⟩:=HV.out;exact h4 _ hmem
     have TS:=Lib.hid fun c u w' (hb:Below w.heap.size w w') hu hcw=>mset_any _ l i hil c u w' (HV.out.below hb) hu hcw HL.out;obtain ⟨b,off,cap',u,hve,hbb,c0,c1,c2,hu,hfu⟩:=(HV.out.below (HB.out)).at2 i hil;simp only [Value.slice.injEq] at hve;obtain ⟨rfl,-,rfl⟩:=hve;rw [hcc] at c0 c2 hu;dsimp only at c0 c2 hu;obtain ⟨ua,uc,rfl,-⟩:=hu.len;have HU:=Lib.hid hu;have HUF:Hid (SlU _ (.slice ua bf.length uc) bf):=⟨HU.out,hfu⟩;clear hfu hx hcc hmem hu;by_cases cq:rc=-1
     ·subst cq
      cases o1 with
      | false=>
       have hr:Hid (lo=none):=by show _=_; rw [← HLO.out]; simp [HO1.out]
       go_upto_region 32 with fail
       have Xx0_0:=ext_cell _ _ ((ltR R0)) _ x0_0;have Xx0_1:=ext_cell _ _ ((ltR R0)) _ x0_1;have Xx0_2:=ext_cell _ _ ((ltR R0)) _ x0_2;have Xx0_3:=ext_cell _ _ ((ltR R0)) _ x0_3;have Xx0_4:=ext_cell _ _ ((ltR R0)) _ x0_4;have Xx0_5:=ext_cell _ _ ((ltR R0)) _ x0_5;have Xx0_6:=ext_cell _ _ ((ltR R0)) _ x0_6;have Xx1_0:=ext_cell _ _ ((ltR R1)) _ x1_0;have Xx1_1:=ext_cell _ _ ((ltR R1)) _ x1_1;have Xx1_2:=ext_cell _ _ ((ltR R1)) _ x1_2;have Xx1_3:=ext_cell _ _ ((ltR R1)) _ x1_3;have Xx1_4:=ext_cell _ _ ((ltR R1)) _ x1_4;have Xc0:=ext_cell _ _ (hbb) _ c0;have Xc1:=ext_cell _ _ (hbb) _ c1;have Xc2:=ext_cell _ _ (hbb) _ c2;clear x0_0 x0_1 x0_2 x0_3 x0_4 x0_5 x0_6 x1_0 x1_1 x1_2 x1_3 x1_4 c0 c1 c2;refine wp_region_ext W (by kernel_rfl) (by kernel_rfl) (Below.refl _ _) ?_
       repeat (go_big_quiet_step (first | (go_at_call 107; with_reducible exact calls_ext (T.out _))))
       refine wpQuiet_nil ?_;intro _ hw';obtain ⟨n9,rfl⟩:=hw';have HB9:=Lib.hid n9.below;generalize n9.wd=w9 at *;clear Xx0_0 Xx0_1 Xx0_2 Xx0_3 Xx0_4 Xx0_5 Xx0_6 Xx1_0 Xx1_1 Xx1_2 Xx1_3 Xx1_4 Xc0 Xc1 Xc2;go_wp2_with fail
       first | refine bodyPost_ret (v:=.tuple #[.slice a l.length cap,.bool false]) (by simp [results,Try.results89,go_sem]) rfl ?_ | refine bodyPost_ret (v:=.tuple #[.slice (some ⟨b,off,none⟩) l.length cap,.bool false]) (by simp [results,Try.results89,go_sem]) rfl ?_
       exact HNONE.out hr.out _ _ _ HB9.out rfl
      | true=>
       by_cases n1:nm=(bf.length:Int)
       ·have n1b:(nm == (bf.length:Int))=true:=by simpa using n1
        have hr:Hid (lo=some l):=by show _=_; rw [← HLO.out]; simp [HO1.out,HEX.out,HCE.out,eq_true n1]
        clear n1;go_upto_region 32 with fail
        have Xx0_0:=ext_cell _ _ ((ltR R0)) _ x0_0;have Xx0_1:=ext_cell _ _ ((ltR R0)) _ x0_1;have Xx0_2:=ext_cell _ _ ((ltR R0)) _ x0_2;have Xx0_3:=ext_cell _ _ ((ltR R0)) _ x0_3;have Xx0_4:=ext_cell _ _ ((ltR R0)) _ x0_4;have Xx0_5:=ext_cell _ _ ((ltR R0)) _ x0_5;have Xx0_6:=ext_cell _ _ ((ltR R0)) _ x0_6;have Xx1_0:=ext_cell _ _ ((ltR R1)) _ x1_0;have Xx1_1:=ext_cell _ _ ((ltR R1)) _ x1_1;have Xx1_2:=ext_cell _ _ ((ltR R1)) _ x1_2;have Xx1_3:=ext_cell _ _ ((ltR R1)) _ x1_3;have Xx1_4:=ext_cell _ _ ((ltR R1)) _ x1_4;have Xc0:=ext_cell _ _ (hbb) _ c0;have Xc1:=ext_cell _ _ (hbb) _ c1;have Xc2:=ext_cell _ _ (hbb) _ c2;clear x0_0 x0_1 x0_2 x0_3 x0_4 x0_5 x0_6 x1_0 x1_1 x1_2 x1_3 x1_4 c0 c1 c2;refine wp_region_ext W (by kernel_rfl) (by kernel_rfl) (Below.refl _ _) ?_
        repeat (go_big_quiet_step (first | (go_at_call 107; with_reducible exact calls_ext (T.out _))))
        refine wpQuiet_nil ?_;intro _ hw';obtain ⟨n9,rfl⟩:=hw';have HB9:=Lib.hid n9.below;generalize n9.wd=w9 at *;clear Xx0_0 Xx0_1 Xx0_2 Xx0_3 Xx0_4 Xx0_5 Xx0_6 Xx1_0 Xx1_1 Xx1_2 Xx1_3 Xx1_4 Xc0 Xc1 Xc2;go_wp2_with fail
        first | refine bodyPost_ret (v:=.tuple #[.slice a l.length cap,.bool true]) (by simp [results,Try.results89,go_sem]) rfl ?_ | refine bodyPost_ret (v:=.tuple #[.slice (some ⟨b,off,none⟩) l.length cap,.bool true]) (by simp [results,Try.results89,go_sem]) rfl ?_
        exact HSAME.out hr.out _ _ HB9.out rfl
       ·have n1b:(nm == (bf.length:Int))=false:=by simpa using n1
        have hr:Hid (lo=none):=by show _=_; rw [← HLO.out]; simp [HO1.out,HEX.out,HCE.out,n1]
        clear n1;go_upto_region 32 with fail
        have Xx0_0:=ext_cell _ _ ((ltR R0)) _ x0_0;have Xx0_1:=ext_cell _ _ ((ltR R0)) _ x0_1;have Xx0_2:=ext_cell _ _ ((ltR R0)) _ x0_2;have Xx0_3:=ext_cell _ _ ((ltR R0)) _ x0_3;have Xx0_4:=ext_cell _ _ ((ltR R0)) _ x0_4;have Xx0_5:=ext_cell _ _ ((ltR R0)) _ x0_5;have Xx0_6:=ext_cell _ _ ((ltR R0)) _ x0_6;have Xx1_0:=ext_cell _ _ ((ltR R1)) _ x1_0;have Xx1_1:=ext_cell _ _ ((ltR R1)) _ x1_1;have Xx1_2:=ext_cell _ _ ((ltR R1)) _ x1_2;have Xx1_3:=ext_cell _ _ ((ltR R1)) _ x1_3;have Xx1_4:=ext_cell _ _ ((ltR R1)) _ x1_4;have Xc0:=ext_cell _ _ (hbb) _ c0;have Xc1:=ext_cell _ _ (hbb) _ c1;have Xc2:=ext_cell _ _ (hbb) _ c2;clear x0_0 x0_1 x0_2 x0_3 x0_4 x0_5 x0_6 x1_0 x1_1 x1_2 x1_3 x1_4 c0 c1 c2;refine wp_region_ext W (by kernel_rfl) (by kernel_rfl) (Below.refl _ _) ?_
        repeat (go_big_quiet_step (first | (go_at_call 107; with_reducible exact calls_ext (T.out _))))
        refine wpQuiet_nil ?_;intro _ hw';obtain ⟨n9,rfl⟩:=hw';have HB9:=Lib.hid n9.below;generalize n9.wd=w9 at *;clear Xx0_0 Xx0_1 Xx0_2 Xx0_3 Xx0_4 Xx0_5 Xx0_6 Xx1_0 Xx1_1 Xx1_2 Xx1_3 Xx1_4 Xc0 Xc1 Xc2;go_wp2_with fail
        first | refine bodyPost_ret (v:=.tuple #[.slice a l.length cap,.bool false]) (by simp [results,Try.results89,go_sem]) rfl ?_ | refine bodyPost_ret (v:=.tuple #[.slice (some ⟨b,off,none⟩) l.length cap,.bool false]) (by simp [results,Try.results89,go_sem]) rfl ?_
        exact HNONE.out hr.out _ _ _ HB9.out rfl
     have cqb:(rc == -1)=false:=by simpa using cq
     have hr:Hid (lo=none):=by show _=_; rw [← HLO.out]; simp [cq]
     go_upto_region 32 with fail
     have Xx0_0:=ext_cell _ _ ((ltR R0)) _ x0_0;have Xx0_1:=ext_cell _ _ ((ltR R0)) _ x0_1;have Xx0_2:=ext_cell _ _ ((ltR R0)) _ x0_2;have Xx0_3:=ext_cell _ _ ((ltR R0)) _ x0_3;have Xx0_4:=ext_cell _ _ ((ltR R0)) _ x0_4;have Xx0_5:=ext_cell _ _ ((ltR R0)) _ x0_5;have Xx0_6:=ext_cell _ _ ((ltR R0)) _ x0_6;have Xx1_0:=ext_cell _ _ ((ltR R1)) _ x1_0;have Xx1_1:=ext_cell _ _ ((ltR R1)) _ x1_1;have Xx1_2:=ext_cell _ _ ((ltR R1)) _ x1_2;have Xx1_3:=ext_cell _ _ ((ltR R1)) _ x1_3;have Xx1_4:=ext_cell _ _ ((ltR R1)) _ x1_4;have Xc0:=ext_cell _ _ (hbb) _ c0;have Xc1:=ext_cell _ _ (hbb) _ c1;have Xc2:=ext_cell _ _ (hbb) _ c2;clear x0_0 x0_1 x0_2 x0_3 x0_4 x0_5 x0_6 x1_0 x1_1 x1_2 x1_3 x1_4 c0 c1 c2;refine wp_region_ext W (by kernel_rfl) (by kernel_rfl) (Below.refl _ _) ?_
     repeat (go_big_quiet_step (first | (go_at_call 107; with_reducible exact calls_ext (T.out _))))
     refine wpQuiet_nil ?_;intro _ hw';obtain ⟨n9,rfl⟩:=hw';have HB9:=Lib.hid n9.below;generalize n9.wd=w9 at *;clear Xx0_0 Xx0_1 Xx0_2 Xx0_3 Xx0_4 Xx0_5 Xx0_6 Xx1_0 Xx1_1 Xx1_2 Xx1_3 Xx1_4 Xc0 Xc1 Xc2;go_wp2_with fail
     first | refine bodyPost_ret (v:=.tuple #[.slice a l.length cap,.bool false]) (by simp [results,Try.results89,go_sem]) rfl ?_ | refine bodyPost_ret (v:=.tuple #[.slice (some ⟨b,off,none⟩) l.length cap,.bool false]) (by simp [results,Try.results89,go_sem]) rfl ?_
     exact HNONE.out hr.out _ _ _ HB9.out rfl
   have k5b:(kd == 5)=false:=by simpa using k5
   by_cases k6:kd=6
   ·subst k6
    go_wp2_with fail;refine (TE.out _ HB.out).mono ?_; rintro e w' ⟨rfl,rfl⟩;cases ex with
    | false=>
     by_cases c1:rc=-1
     ·subst c1
      cases o1 with
      | false=>
       have hr:Hid (lo=none):=by show _=_; rw [← HLO.out]; simp [HO1.out]
       go_upto_region 32 with fail
       have Xx0_0:=ext_cell _ _ ((ltR R0)) _ x0_0;have Xx0_1:=ext_cell _ _ ((ltR R0)) _ x0_1;have Xx0_2:=ext_cell _ _ ((ltR R0)) _ x0_2;have Xx0_3:=ext_cell _ _ ((ltR R0)) _ x0_3;have Xx0_4:=ext_cell _ _ ((ltR R0)) _ x0_4;have Xx0_5:=ext_cell _ _ ((ltR R0)) _ x0_5;have Xx0_6:=ext_cell _ _ ((ltR R0)) _ x0_6;have Xx1_0:=ext_cell _ _ ((ltR R1)) _ x1_0;have Xx1_1:=ext_cell _ _ ((ltR R1)) _ x1_1;have Xx1_2:=ext_cell _ _ ((ltR R1)) _ x1_2;have Xx1_3:=ext_cell _ _ ((ltR R1)) _ x1_3;have Xx1_4:=ext_cell _ _ ((ltR R1)) _ x1_4;clear x0_0 x0_1 x0_2 x0_3 x0_4 x0_5 x0_6 x1_0 x1_1 x1_2 x1_3 x1_4;refine wp_region_ext W (by kernel_rfl) (by kernel_rfl) (Below.refl _ _) ?_
       repeat (go_big_quiet_step (first | (go_at_call 107; with_reducible exact calls_ext (T.out _))))
       refine wpQuiet_nil ?_;intro _ hw';obtain ⟨n9,rfl⟩:=hw';have HB9:=Lib.hid n9.below;generalize n9.wd=w9 at *;clear Xx0_0 Xx0_1 Xx0_2 Xx0_3 Xx0_4 Xx0_5 Xx0_6 Xx1_0 Xx1_1 Xx1_2 Xx1_3 Xx1_4;go_wp2_with fail
       first | refine bodyPost_ret (v:=.tuple #[.slice a l.length cap,.bool false]) (by simp [results,Try.results89,go_sem]) rfl ?_ | refine bodyPost_ret (v:=.tuple #[.slice (some ⟨b,off,none⟩) l.length cap,.bool false]) (by simp [results,Try.results89,go_sem]) rfl ?_
       exact HNONE.out hr.out _ _ _ HB9.out rfl
      | true=>
       by_cases n1:nm=0
       ·have n1b:(nm == 0)=true:=by simpa using n1
        have hr:Hid (lo=some l):=by show _=_; rw [← HLO.out]; simp [HO1.out,HEX.out,eq_true n1]
        clear n1;go_upto_region 32 with fail
        have Xx0_0:=ext_cell _ _ ((ltR R0)) _ x0_0;have Xx0_1:=ext_cell _ _ ((ltR R0)) _ x0_1;have Xx0_2:=ext_cell _ _ ((ltR R0)) _ x0_2;have Xx0_3:=ext_cell _ _ ((ltR R0)) _ x0_3;have Xx0_4:=ext_cell _ _ ((ltR R0)) _ x0_4;have Xx0_5:=ext_cell _ _ ((ltR R0)) _ x0_5;have Xx0_6:=ext_cell _ _ ((ltR R0)) _ x0_6;have Xx1_0:=ext_cell _ _ ((ltR R1)) _ x1_0;have Xx1_1:=ext_cell _ _ ((ltR R1)) _ x1_1;have Xx1_2:=ext_cell _ _ ((ltR R1)) _ x1_2;have Xx1_3:=ext_cell _ _ ((ltR R1)) _ x1_3;have Xx1_4:=ext_cell _ _ ((ltR R1)) _ x1_4;clear x0_0 x0_1 x0_2 x0_3 x0_4 x0_5 x0_6 x1_0 x1_1 x1_2 x1_3 x1_4;refine wp_region_ext W (by kernel_rfl) (by kernel_rfl) (Below.refl _ _) ?_
        repeat (go_big_quiet_step (first | (go_at_call 107; with_reducible exact calls_ext (T.out _))))
        refine wpQuiet_nil ?_;intro _ hw';obtain ⟨n9,rfl⟩:=hw';have HB9:=Lib.hid n9.below;generalize n9.wd=w9 at *;clear Xx0_0 Xx0_1 Xx0_2 Xx0_3 Xx0_4 Xx0_5 Xx0_6 Xx1_0 Xx1_1 Xx1_2 Xx1_3 Xx1_4;go_wp2_with fail
        first | refine bodyPost_ret (v:=.tuple #[.slice a l.length cap,.bool true]) (by simp [results,Try.results89,go_sem]) rfl ?_ | refine bodyPost_ret (v:=.tuple #[.slice (some ⟨b,off,none⟩) l.length cap,.bool true]) (by simp [results,Try.results89,go_sem]) rfl ?_
        exact HSAME.out hr.out _ _ HB9.out rfl
       ·have n1b:(nm == 0)=false:=by simpa using n1
        have hr:Hid (lo=none):=by show _=_; rw [← HLO.out]; simp [HO1.out,HEX.out,n1]
        clear n1;go_upto_region 32 with fail
        have Xx0_0:=ext_cell _ _ ((ltR R0)) _ x0_0;have Xx0_1:=ext_cell _ _ ((ltR R0)) _ x0_1;have Xx0_2:=ext_cell _ _ ((ltR R0)) _ x0_2;have Xx0_3:=ext_cell _ _ ((ltR R0)) _ x0_3;have Xx0_4:=ext_cell _ _ ((ltR R0)) _ x0_4;have Xx0_5:=ext_cell _ _ ((ltR R0)) _ x0_5;have Xx0_6:=ext_cell _ _ ((ltR R0)) _ x0_6;have Xx1_0:=ext_cell _ _ ((ltR R1)) _ x1_0;have Xx1_1:=ext_cell _ _ ((ltR R1)) _ x1_1;have Xx1_2:=ext_cell _ _ ((ltR R1)) _ x1_2;have Xx1_3:=ext_cell _ _ ((ltR R1)) _ x1_3;have Xx1_4:=ext_cell _ _ ((ltR R1)) _ x1_4;clear x0_0 x0_1 x0_2 x0_3 x0_4 x0_5 x0_6 x1_0 x1_1 x1_2 x1_3 x1_4;refine wp_region_ext W (by kernel_rfl) (by kernel_rfl) (Below.refl _ _) ?_
        repeat (go_big_quiet_step (first | (go_at_call 107; with_reducible exact calls_ext (T.out _))))
        refine wpQuiet_nil ?_;intro _ hw';obtain ⟨n9,rfl⟩:=hw';have HB9:=Lib.hid n9.below;generalize n9.wd=w9 at *;clear Xx0_0 Xx0_1 Xx0_2 Xx0_3 Xx0_4 Xx0_5 Xx0_6 Xx1_0 Xx1_1 Xx1_2 Xx1_3 Xx1_4;go_wp2_with fail
        first | refine bodyPost_ret (v:=.tuple #[.slice a l.length cap,.bool false]) (by simp [results,Try.results89,go_sem]) rfl ?_ | refine bodyPost_ret (v:=.tuple #[.slice (some ⟨b,off,none⟩) l.length cap,.bool false]) (by simp [results,Try.results89,go_sem]) rfl ?_
        exact HNONE.out hr.out _ _ _ HB9.out rfl
     have c1b:(rc == -1)=false:=by simpa using c1
     have hr:Hid (lo=none):=by show _=_; rw [← HLO.out]; simp [c1]
     go_upto_region 32 with fail
     have Xx0_0:=ext_cell _ _ ((ltR R0)) _ x0_0;have Xx0_1:=ext_cell _ _ ((ltR R0)) _ x0_1;have Xx0_2:=ext_cell _ _ ((ltR R0)) _ x0_2;have Xx0_3:=ext_cell _ _ ((ltR R0)) _ x0_3;have Xx0_4:=ext_cell _ _ ((ltR R0)) _ x0_4;have Xx0_5:=ext_cell _ _ ((ltR R0)) _ x0_5;have Xx0_6:=ext_cell _ _ ((ltR R0)) _ x0_6;have Xx1_0:=ext_cell _ _ ((ltR R1)) _ x1_0;have Xx1_1:=ext_cell _ _ ((ltR R1)) _ x1_1;have Xx1_2:=ext_cell _ _ ((ltR R1)) _ x1_2;have Xx1_3:=ext_cell _ _ ((ltR R1)) _ x1_3;have Xx1_4:=ext_cell _ _ ((ltR R1)) _ x1_4;clear x0_0 x0_1 x0_2 x0_3 x0_4 x0_5 x0_6 x1_0 x1_1 x1_2 x1_3 x1_4;refine wp_region_ext W (by kernel_rfl) (by kernel_rfl) (Below.refl _ _) ?_
     repeat (go_big_quiet_step (first | (go_at_call 107; with_reducible exact calls_ext (T.out _))))
     refine wpQuiet_nil ?_;intro _ hw';obtain ⟨n9,rfl⟩:=hw';have HB9:=Lib.hid n9.below;generalize n9.wd=w9 at *;clear Xx0_0 Xx0_1 Xx0_2 Xx0_3 Xx0_4 Xx0_5 Xx0_6 Xx1_0 Xx1_1 Xx1_2 Xx1_3 Xx1_4;go_wp2_with fail
     first | refine bodyPost_ret (v:=.tuple #[.slice a l.length cap,.bool false]) (by simp [results,Try.results89,go_sem]) rfl ?_ | refine bodyPost_ret (v:=.tuple #[.slice (some ⟨b,off,none⟩) l.length cap,.bool false]) (by simp [results,Try.results89,go_sem]) rfl ?_
     exact HNONE.out hr.out _ _ _ HB9.out rfl
    | true=>
     have hx:=HEX.out;unfold exB at hx;simp only [Bool.and_eq_true,decide_eq_true_eq] at hx;obtain ⟨i,hi⟩:∃i:Nat,ch=(i:Int):=⟨ch.toNat,by omega⟩;subst hi;have hil:i<l.length:=by omega
     have hiI:(i:Int)<(l.length:Int):=by omega
     obtain ⟨⟨cc,bf,cl⟩,hcc⟩:∃c,l.getD i noChan=c:=⟨_,rfl⟩;have HCE:Hid (chE l (i:Int)=⟨cc,bf,cl⟩):=by
      show l.getD (Int.toNat (i:Int)) noChan=_;rw [Int.toNat_natCast,hcc]
     have hmem:(⟨cc,bf,cl⟩:ChanM)∈l:=by
      rw [← hcc,List.getD_eq_getElem?_getD,List.getElem?_eq_getElem hil];exact List.getElem_mem hil
     have HCW:Hid (cc=IntKind.i64.wrap cc):=by
      obtain ⟨us,-,-,-,h4,-⟩:=HV.out;exact h4 _ hmem
     have TS:=Lib.hid fun c u w' (hb:Below w.heap.size w w') hu hcw=>mset_any _ l i hil c u w' (HV.out.below hb) hu hcw HL.out;obtain ⟨b,off,cap',u,hve,hbb,c0,c1,c2,hu,hfu⟩:=(HV.out.below (HB.out)).at2 i hil;simp only [Value.slice.injEq] at hve;obtain ⟨rfl,-,rfl⟩:=hve;rw [hcc] at c0 c2 hu;dsimp only at c0 c2 hu;obtain ⟨ua,uc,rfl,-⟩:=hu.len;have HU:=Lib.hid hu;have HUF:Hid (SlU _ (.slice ua bf.length uc) bf):=⟨HU.out,hfu⟩;clear hfu hx hcc hmem hu;by_cases cq:rc=-1
     ·subst cq
      cases o1 with
      | false=>
       have hr:Hid (lo=none):=by show _=_; rw [← HLO.out]; simp [HO1.out]
       go_upto_region 32 with fail
       have Xx0_0:=ext_cell _ _ ((ltR R0)) _ x0_0;have Xx0_1:=ext_cell _ _ ((ltR R0)) _ x0_1;have Xx0_2:=ext_cell _ _ ((ltR R0)) _ x0_2;have Xx0_3:=ext_cell _ _ ((ltR R0)) _ x0_3;have Xx0_4:=ext_cell _ _ ((ltR R0)) _ x0_4;have Xx0_5:=ext_cell _ _ ((ltR R0)) _ x0_5;have Xx0_6:=ext_cell _ _ ((ltR R0)) _ x0_6;have Xx1_0:=ext_cell _ _ ((ltR R1)) _ x1_0;have Xx1_1:=ext_cell _ _ ((ltR R1)) _ x1_1;have Xx1_2:=ext_cell _ _ ((ltR R1)) _ x1_2;have Xx1_3:=ext_cell _ _ ((ltR R1)) _ x1_3;have Xx1_4:=ext_cell _ _ ((ltR R1)) _ x1_4;have Xc0:=ext_cell _ _ (hbb) _ c0;have Xc1:=ext_cell _ _ (hbb) _ c1;have Xc2:=ext_cell _ _ (hbb) _ c2;clear x0_0 x0_1 x0_2 x0_3 x0_4 x0_5 x0_6 x1_0 x1_1 x1_2 x1_3 x1_4 c0 c1 c2;refine wp_region_ext W (by kernel_rfl) (by kernel_rfl) (Below.refl _ _) ?_
       repeat (go_big_quiet_step (first | (go_at_call 107; with_reducible exact calls_ext (T.out _))))
       refine wpQuiet_nil ?_;intro _ hw';obtain ⟨n9,rfl⟩:=hw';have HB9:=Lib.hid n9.below;generalize n9.wd=w9 at *;clear Xx0_0 Xx0_1 Xx0_2 Xx0_3 Xx0_4 Xx0_5 Xx0_6 Xx1_0 Xx1_1 Xx1_2 Xx1_3 Xx1_4 Xc0 Xc1 Xc2;go_wp2_with fail
       first | refine bodyPost_ret (v:=.tuple #[.slice a l.length cap,.bool false]) (by simp [results,Try.results89,go_sem]) rfl ?_ | refine bodyPost_ret (v:=.tuple #[.slice (some ⟨b,off,none⟩) l.length cap,.bool false]) (by simp [results,Try.results89,go_sem]) rfl ?_
       exact HNONE.out hr.out _ _ _ HB9.out rfl
      | true=>
       by_cases n1:nm=cc
       ·have n1b:(nm == cc)=true:=by simpa using n1
        have hr:Hid (lo=some l):=by show _=_; rw [← HLO.out]; simp [HO1.out,HEX.out,HCE.out,eq_true n1]
        clear n1;go_upto_region 32 with fail
        have Xx0_0:=ext_cell _ _ ((ltR R0)) _ x0_0;have Xx0_1:=ext_cell _ _ ((ltR R0)) _ x0_1;have Xx0_2:=ext_cell _ _ ((ltR R0)) _ x0_2;have Xx0_3:=ext_cell _ _ ((ltR R0)) _ x0_3;have Xx0_4:=ext_cell _ _ ((ltR R0)) _ x0_4;have Xx0_5:=ext_cell _ _ ((ltR R0)) _ x0_5;have Xx0_6:=ext_cell _ _ ((ltR R0)) _ x0_6;have Xx1_0:=ext_cell _ _ ((ltR R1)) _ x1_0;have Xx1_1:=ext_cell _ _ ((ltR R1)) _ x1_1;have Xx1_2:=ext_cell _ _ ((ltR R1)) _ x1_2;have Xx1_3:=ext_cell _ _ ((ltR R1)) _ x1_3;have Xx1_4:=ext_cell _ _ ((ltR R1)) _ x1_4;have Xc0:=ext_cell _ _ (hbb) _ c0;have Xc1:=ext_cell _ _ (hbb) _ c1;have Xc2:=ext_cell _ _ (hbb) _ c2;clear x0_0 x0_1 x0_2 x0_3 x0_4 x0_5 x0_6 x1_0 x1_1 x1_2 x1_3 x1_4 c0 c1 c2;refine wp_region_ext W (by kernel_rfl) (by kernel_rfl) (Below.refl _ _) ?_
        repeat (go_big_quiet_step (first | (go_at_call 107; with_reducible exact calls_ext (T.out _))))
        refine wpQuiet_nil ?_;intro _ hw';obtain ⟨n9,rfl⟩:=hw';have HB9:=Lib.hid n9.below;generalize n9.wd=w9 at *;clear Xx0_0 Xx0_1 Xx0_2 Xx0_3 Xx0_4 Xx0_5 Xx0_6 Xx1_0 Xx1_1 Xx1_2 Xx1_3 Xx1_4 Xc0 Xc1 Xc2;go_wp2_with fail
        first | refine bodyPost_ret (v:=.tuple #[.slice a l.length cap,.bool true]) (by simp [results,Try.results89,go_sem]) rfl ?_ | refine bodyPost_ret (v:=.tuple #[.slice (some ⟨b,off,none⟩) l.length cap,.bool true]) (by simp [results,Try.results89,go_sem]) rfl ?_
        exact HSAME.out hr.out _ _ HB9.out rfl
       ·have n1b:(nm == cc)=false:=by simpa using n1
        have hr:Hid (lo=none):=by show _=_; rw [← HLO.out]; simp [HO1.out,HEX.out,HCE.out,n1]
        clear n1;go_upto_region 32 with fail
        have Xx0_0:=ext_cell _ _ ((ltR R0)) _ x0_0;have Xx0_1:=ext_cell _ _ ((ltR R0)) _ x0_1;have Xx0_2:=ext_cell _ _ ((ltR R0)) _ x0_2;have Xx0_3:=ext_cell _ _ ((ltR R0)) _ x0_3;have Xx0_4:=ext_cell _ _ ((ltR R0)) _ x0_4;have Xx0_5:=ext_cell _ _ ((ltR R0)) _ x0_5;have Xx0_6:=ext_cell _ _ ((ltR R0)) _ x0_6;have Xx1_0:=ext_cell _ _ ((ltR R1)) _ x1_0;have Xx1_1:=ext_cell _ _ ((ltR R1)) _ x1_1;have Xx1_2:=ext_cell _ _ ((ltR R1)) _ x1_2;have Xx1_3:=ext_cell _ _ ((ltR R1)) _ x1_3;have Xx1_4:=ext_cell _ _ ((ltR R1)) _ x1_4;have Xc0:=ext_cell _ _ (hbb) _ c0;have Xc1:=ext_cell _ _ (hbb) _ c1;have Xc2:=ext_cell _ _ (hbb) _ c2;clear x0_0 x0_1 x0_2 x0_3 x0_4 x0_5 x0_6 x1_0 x1_1 x1_2 x1_3 x1_4 c0 c1 c2;refine wp_region_ext W (by kernel_rfl) (by kernel_rfl) (Below.refl _ _) ?_
        repeat (go_big_quiet_step (first | (go_at_call 107; with_reducible exact calls_ext (T.out _))))
        refine wpQuiet_nil ?_;intro _ hw';obtain ⟨n9,rfl⟩:=hw';have HB9:=Lib.hid n9.below;generalize n9.wd=w9 at *;clear Xx0_0 Xx0_1 Xx0_2 Xx0_3 Xx0_4 Xx0_5 Xx0_6 Xx1_0 Xx1_1 Xx1_2 Xx1_3 Xx1_4 Xc0 Xc1 Xc2;go_wp2_with fail
        first | refine bodyPost_ret (v:=.tuple #[.slice a l.length cap,.bool false]) (by simp [results,Try.results89,go_sem]) rfl ?_ | refine bodyPost_ret (v:=.tuple #[.slice (some ⟨b,off,none⟩) l.length cap,.bool false]) (by simp [results,Try.results89,go_sem]) rfl ?_
        exact HNONE.out hr.out _ _ _ HB9.out rfl
     have cqb:(rc == -1)=false:=by simpa using cq
     have hr:Hid (lo=none):=by show _=_; rw [← HLO.out]; simp [cq]
     go_upto_region 32 with fail
     have Xx0_0:=ext_cell _ _ ((ltR R0)) _ x0_0;have Xx0_1:=ext_cell _ _ ((ltR R0)) _ x0_1;have Xx0_2:=ext_cell _ _ ((ltR R0)) _ x0_2;have Xx0_3:=ext_cell _ _ ((ltR R0)) _ x0_3;have Xx0_4:=ext_cell _ _ ((ltR R0)) _ x0_4;have Xx0_5:=ext_cell _ _ ((ltR R0)) _ x0_5;have Xx0_6:=ext_cell _ _ ((ltR R0)) _ x0_6;have Xx1_0:=ext_cell _ _ ((ltR R1)) _ x1_0;have Xx1_1:=ext_cell _ _ ((ltR R1)) _ x1_1;have Xx1_2:=ext_cell _ _ ((ltR R1)) _ x1_2;have Xx1_3:=ext_cell _ _ ((ltR R1)) _ x1_3;have Xx1_4:=ext_cell _ _ ((ltR R1)) _ x1_4;have Xc0:=ext_cell _ _ (hbb) _ c0;have Xc1:=ext_cell _ _ (hbb) _ c1;have Xc2:=ext_cell _ _ (hbb) _ c2;clear x0_0 x0_1 x0_2 x0_3 x0_4 x0_5 x0_6 x1_0 x1_1 x1_2 x1_3 x1_4 c0 c1 c2;refine wp_region_ext W (by kernel_rfl) (by kernel_rfl) (Below.refl _ _) ?_
     repeat (go_big_quiet_step (first | (go_at_call 107; with_reducible exact calls_ext (T.out _))))
     refine wpQuiet_nil ?_;intro _ hw';obtain ⟨n9,rfl⟩:=hw';have HB9:=Lib.hid n9.below;generalize n9.wd=w9 at *;clear Xx0_0 Xx0_1 Xx0_2 Xx0_3 Xx0_4 Xx0_5 Xx0_6 Xx1_0 Xx1_1 Xx1_2 Xx1_3 Xx1_4 Xc0 Xc1 Xc2;go_wp2_with fail
     first | refine bodyPost_ret (v:=.tuple #[.slice a l.length cap,.bool false]) (by simp [results,Try.results89,go_sem]) rfl ?_ | refine bodyPost_ret (v:=.tuple #[.slice (some ⟨b,off,none⟩) l.length cap,.bool false]) (by simp [results,Try.results89,go_sem]) rfl ?_
     exact HNONE.out hr.out _ _ _ HB9.out rfl
   have k6b:(kd == 6)=false:=by simpa using k6
   go_wp2_with fail;refine (TE.out _ HB.out).mono ?_; rintro e w' ⟨rfl,rfl⟩;cases ex with
   | false=>
    have hr:Hid (lo=none):=by show _=_; rw [← HLO.out]; simp [k5,k6]
    go_upto_region 32 with fail
    have Xx0_0:=ext_cell _ _ ((ltR R0)) _ x0_0;have Xx0_1:=ext_cell _ _ ((ltR R0)) _ x0_1;have Xx0_2:=ext_cell _ _ ((ltR R0)) _ x0_2;have Xx0_3:=ext_cell _ _ ((ltR R0)) _ x0_3;have Xx0_4:=ext_cell _ _ ((ltR R0)) _ x0_4;have Xx0_5:=ext_cell _ _ ((ltR R0)) _ x0_5;have Xx0_6:=ext_cell _ _ ((ltR R0)) _ x0_6;have Xx1_0:=ext_cell _ _ ((ltR R1)) _ x1_0;have Xx1_1:=ext_cell _ _ ((ltR R1)) _ x1_1;have Xx1_2:=ext_cell _ _ ((ltR R1)) _ x1_2;have Xx1_3:=ext_cell _ _ ((ltR R1)) _ x1_3;have Xx1_4:=ext_cell _ _ ((ltR R1)) _ x1_4;clear x0_0 x0_1 x0_2 x0_3 x0_4 x0_5 x0_6 x1_0 x1_1 x1_2 x1_3 x1_4;refine wp_region_ext W (by kernel_rfl) (by kernel_rfl) (Below.refl _ _) ?_
    repeat (go_big_quiet_step (first | (go_at_call 107; with_reducible exact calls_ext (T.out _))))
    refine wpQuiet_nil ?_;intro _ hw';obtain ⟨n9,rfl⟩:=hw';have HB9:=Lib.hid n9.below;generalize n9.wd=w9 at *;clear Xx0_0 Xx0_1 Xx0_2 Xx0_3 Xx0_4 Xx0_5 Xx0_6 Xx1_0 Xx1_1 Xx1_2 Xx1_3 Xx1_4;go_wp2_with fail
    first | refine bodyPost_ret (v:=.tuple #[.slice a l.length cap,.bool false]) (by simp [results,Try.results89,go_sem]) rfl ?_ | refine bodyPost_ret (v:=.tuple #[.slice (some ⟨b,off,none⟩) l.length cap,.bool false]) (by simp [results,Try.results89,go_sem]) rfl ?_
    exact HNONE.out hr.out _ _ _ HB9.out rfl
   | true=>
    have hx:=HEX.out;unfold exB at hx;simp only [Bool.and_eq_true,decide_eq_true_eq] at hx;obtain ⟨i,hi⟩:∃i:Nat,ch=(i:Int):=⟨ch.toNat,by omega⟩;subst hi;have hil:i<l.length:=by omega
    have hiI:(i:Int)<(l.length:Int):=by omega
    obtain ⟨⟨cc,bf,cl⟩,hcc⟩:∃c,l.getD i noChan=c:=⟨_,rfl⟩;have HCE:Hid (chE l (i:Int)=⟨cc,bf,cl⟩):=by
     show l.getD (Int.toNat (i:Int)) noChan=_;rw [Int.toNat_natCast,hcc]
    have hmem:(⟨cc,bf,cl⟩:ChanM)∈l:=by
     rw [← hcc,List.getD_eq_getElem?_getD,List.getElem?_eq_getElem hil];exact List.getElem_mem hil
    have HCW:Hid (cc=IntKind.i64.wrap cc):=by
     obtain ⟨us,-,-,-,h4,-⟩:=HV.out;exact h4 _ hmem
    have TS:=Lib.hid fun c u w' (hb:Below w.heap.size w w') hu hcw=>mset_any _ l i hil c u w' (HV.out.below hb) hu hcw HL.out;obtain ⟨b,off,cap',u,hve,hbb,c0,c1,c2,hu,hfu⟩:=(HV.out.below (HB.out)).at2 i hil;simp only [Value.slice.injEq] at hve;obtain ⟨rfl,-,rfl⟩:=hve;rw [hcc] at c0 c2 hu;dsimp only at c0 c2 hu;obtain ⟨ua,uc,rfl,-⟩:=hu.len;have HU:=Lib.hid hu;have HUF:Hid (SlU _ (.slice ua bf.length uc) bf):=⟨HU.out,hfu⟩;clear hfu hx hcc hmem hu;have hr:Hid (lo=none):=by show _=_; rw [← HLO.out]; simp [k5,k6]
    go_upto_region 32 with fail
    have Xx0_0:=ext_cell _ _ ((ltR R0)) _ x0_0;have Xx0_1:=ext_cell _ _ ((ltR R0)) _ x0_1;have Xx0_2:=ext_cell _ _ ((ltR R0)) _ x0_2;have Xx0_3:=ext_cell _ _ ((ltR R0)) _ x0_3;have Xx0_4:=ext_cell _ _ ((ltR R0)) _ x0_4;have Xx0_5:=ext_cell _ _ ((ltR R0)) _ x0_5;have Xx0_6:=ext_cell _ _ ((ltR R0)) _ x0_6;have Xx1_0:=ext_cell _ _ ((ltR R1)) _ x1_0;have Xx1_1:=ext_cell _ _ ((ltR R1)) _ x1_1;have Xx1_2:=ext_cell _ _ ((ltR R1)) _ x1_2;have Xx1_3:=ext_cell _ _ ((ltR R1)) _ x1_3;have Xx1_4:=ext_cell _ _ ((ltR R1)) _ x1_4;have Xc0:=ext_cell _ _ (hbb) _ c0;have Xc1:=ext_cell _ _ (hbb) _ c1;have Xc2:=ext_cell _ _ (hbb) _ c2;clear x0_0 x0_1 x0_2 x0_3 x0_4 x0_5 x0_6 x1_0 x1_1 x1_2 x1_3 x1_4 c0 c1 c2;refine wp_region_ext W (by kernel_rfl) (by kernel_rfl) (Below.refl _ _) ?_
    repeat (go_big_quiet_step (first | (go_at_call 107; with_reducible exact calls_ext (T.out _))))
    refine wpQuiet_nil ?_;intro _ hw';obtain ⟨n9,rfl⟩:=hw';have HB9:=Lib.hid n9.below;generalize n9.wd=w9 at *;clear Xx0_0 Xx0_1 Xx0_2 Xx0_3 Xx0_4 Xx0_5 Xx0_6 Xx1_0 Xx1_1 Xx1_2 Xx1_3 Xx1_4 Xc0 Xc1 Xc2;go_wp2_with fail
    first | refine bodyPost_ret (v:=.tuple #[.slice a l.length cap,.bool false]) (by simp [results,Try.results89,go_sem]) rfl ?_ | refine bodyPost_ret (v:=.tuple #[.slice (some ⟨b,off,none⟩) l.length cap,.bool false]) (by simp [results,Try.results89,go_sem]) rfl ?_
    exact HNONE.out hr.out _ _ _ HB9.out rfl
  have q7b:(rk == 7)=false:=by simpa using q7
  have hr:Hid (lo=none):=by show _=_; rw [← HLO.out]; simp [q1,q2,q5,q6,q3,q4,q7]
  go_wp2;refine bodyPost_ret (v:=.tuple #[.slice none 0 0,.bool false]) (by simp [results,Try.results89,go_sem]) rfl ?_;exact HNONE.out hr.out _ _ _ (Below.refl _ _) rfl
def DoN (o:Option (List ChanM)) (w:World) (e:Ending) (w':World):Prop:=∃(v':Value) (ok:Bool),e=.returned (.tuple #[v',.bool ok])∧((∃l',o=some l'∧ok=true∧SlH w' v' l')∨(o=none∧ok=false∧v'=.slice none 0 0))∧Below w.heap.size w w'
theorem DoN.doQ {o:Option (List ChanM)} {w:World} {e:Ending} {w':World} (h:DoN o w e w'):DoQ o w e w':=by
 obtain ⟨v',ok,he,h1 | ⟨h1,h2,-⟩,hb⟩:=h
 ·exact ⟨v',ok,he,.inl h1,hb⟩
 ·exact ⟨v',ok,he,.inr ⟨h1,h2⟩,hb⟩
set_option maxRecDepth 100000 in
set_option maxHeartbeats 16000000 in
theorem mApplyN_any (v vo:Value) (l:List ChanM) (op:OpM) (r:ResM) (w:World) (hv:SlH w v l) (hl:l.length≤1000000) (hbf:∀c∈l,c.buf.length≤999999) (h:OpV w vo op) (hok:op.chan=IntKind.i64.wrap op.chan∧op.val=IntKind.u64.wrap op.val):Calls Try.prog 63 #[v,vo,resW r] w fun e w'=>DoN (modE l op r) w e w':=by
 have TA:=Lib.hid fun w' (hb:Below w.heap.size w w')=>mapply_any v vo l op r w' (hv.below hb) hl hbf (h.below hb) hok;obtain ⟨lo,hlo⟩:∃o,modE l op r=o:=⟨_,rfl⟩;rw [hlo] at TA ⊢;clear hlo;obtain ⟨vc,vd,rfl,hc,hd⟩:=h;obtain ⟨kd,md,ch,vl,dl,cs,ds⟩:=op;obtain ⟨rk,rc,rv,rok,nm⟩:=r;dsimp only at *;obtain ⟨a3,cap3,rfl⟩:=hc.len;obtain ⟨a4,cap4,rfl,-⟩:=hd.len;unfold resW at TA ⊢;dsimp only at TA ⊢;obtain ⟨a,cap,hve,-⟩:=hv.len;subst hve;clear hv hl hbf hc hd hok;obtain ⟨W,hW,HB,R0,R1,hz⟩:=two_new w (.cells #[.int .i64 kd,.int .i64 md,.int .i64 ch,.int .u64 vl,.int .i64 dl,.slice a3 cs.length cap3,.slice a4 ds.length cap4] 44) (.cells #[.int .i64 rk,.int .i64 rc,.int .u64 rv,.bool rok,.int .i64 nm] 73);have HW:=Lib.hid hW;clear hW;go_enter Try.func63,Try.ntmps63;go_upto_region 1 with fail
 rw [HW.out];clear HW;obtain ⟨x0_0,x0_1,x0_2,x0_3,x0_4,x0_5,x0_6⟩:=rowc7 R0.out;obtain ⟨x1_0,x1_1,x1_2,x1_3,x1_4⟩:=rowc5 R1.out;go_wp2_with fail;refine (TA.out _ HB.out).mono ?_; rintro e w3 ⟨v3,ok3,rfl,hq3,hb3⟩;have HB3:=Lib.hid (below_then HB.out hb3);have HQ3:=Lib.hid hq3;clear hq3 hb3 x0_0 x0_1 x0_2 x0_3 x0_4 x0_5 x0_6 x1_0 x1_1 x1_2 x1_3 x1_4;cases ok3 with
 | false=>
  go_wp2_with fail;refine bodyPost_ret (v:=.tuple #[.slice none 0 0,.bool false]) (by simp [results,Try.results63,go_sem]) rfl ?_;refine ⟨_,false,rfl,.inr ⟨?_,rfl,rfl⟩,HB3.out⟩;rcases HQ3.out with ⟨l',-,h2,-⟩ | ⟨h1,-⟩
  ·cases h2
  ·exact h1
 | true=>
  go_wp2_with fail;refine bodyPost_ret (v:=.tuple #[v3,.bool true]) (by simp [results,Try.results63,go_sem]) rfl ?_;refine ⟨v3,true,rfl,?_,HB3.out⟩;rcases HQ3.out with ⟨l',h1,-,h2⟩ | ⟨-,h1⟩
  ·exact .inl ⟨l',h1,rfl,h2⟩
  ·cases h1
theorem mApply_any (v vo:Value) (l:List ChanM) (op:OpM) (r:ResM) (w:World) (hv:SlH w v l) (hl:l.length≤1000000) (hbf:∀c∈l,c.buf.length≤999999) (h:OpV w vo op) (hok:op.chan=IntKind.i64.wrap op.chan∧op.val=IntKind.u64.wrap op.val):Calls Try.prog 63 #[v,vo,resW r] w fun e w'=>DoQ (modE l op r) w e w':=
 (mApplyN_any v vo l op r w hv hl hbf h hok).mono fun _ _ h=>h.doQ
def passB (v:Int) (s r:ResM):Bool:=(s.kind == 1 && (s.val == 0 && (!s.ok && s.num == 0))) && (r.kind == 2 && (r.val == v && (r.ok && r.num == 0)))
theorem four_new (w:World) (a b c d:Obj):∃W,(((w.alloc a).alloc b).alloc c).alloc d=W∧Hid (Below w.heap.size w W)∧Hid (W.heap[w.heap.size]?=some a)∧Hid (W.heap[w.heap.size+1]?=some b)∧Hid (W.heap[w.heap.size+2]?=some c)∧Hid (W.heap[w.heap.size+3]?=some d)∧w.heap.size+4=W.heap.size:=by
 refine ⟨_,rfl,below_new (below_new (below_new (below_new (Below.refl w.heap.size w) _) _) _) _,Lib.hid ?_,Lib.hid ?_,Lib.hid ?_,Lib.hid ?_,by simp⟩
 ·rw [heap_alloc_old _ _ (by simp <;> omega),heap_alloc_old _ _ (by simp <;> omega),heap_alloc_old _ _ (by simp <;> omega),heap_alloc_new]
 ·rw [heap_alloc_old _ _ (by simp <;> omega),heap_alloc_old _ _ (by simp <;> omega)]
  simpa using heap_alloc_new (w.alloc a) b
 ·rw [heap_alloc_old _ _ (by simp <;> omega)]
  simpa using heap_alloc_new ((w.alloc a).alloc b) c
 ·simpa using heap_alloc_new (((w.alloc a).alloc b).alloc c) d
def pairC (o1 o2:Option CaseM) (l:List ChanM) (x y:ResM):Bool:=match o1,o2 with | some p,some q=>rdvB l p q && (if p.send then passB p.val x y else passB q.val y x) | _,_=>false
def pairP (l:List ChanM) (a:OpM) (x:ResM) (b:OpM) (y:ResM):Bool:=pairC (chosenE a x) (chosenE b y) l x y
def halfM (l:List ChanM) (v:Int) (o1 o2:Option CaseM):Bool:=match o1,o2 with
 | some p,some q=>p.send && !q.send && decide (p.chan=q.chan) && exB l p.chan && decide ((chE l p.chan).cap≤0) && !(chE l p.chan).closed && decide (v=p.val)
 | _,_=>false
theorem halfB_eq (l:List ChanM) (a:OpM) (x:ResM) (b:OpM) (y:ResM):halfB l a x b y=(decide (x.kind=1∧y.kind=2) && onlyB x false false && onlyB y true false && y.ok && halfM l y.val (chosenE a x) (chosenE b y)):=rfl
set_option maxRecDepth 100000 in
set_option maxHeartbeats 16000000 in
theorem rhalf_any (v va vb:Value) (l:List ChanM) (a:OpM) (x:ResM) (b:OpM) (y:ResM) (w:World) (hv:SlH w v l) (ha:OpV w va a) (hb:OpV w vb b):Calls Try.prog 90 #[v,va,resW x,vb,resW y] w fun e w'=>e=.returned (.bool (halfB l a x b y))∧Below w.heap.size w w':=by
 have TXa:=Lib.hid fun w' (h:Below w.heap.size w w')=>mchosen_any va a x w' (ha.below h);have TXb:=Lib.hid fun w' (h:Below w.heap.size w w')=>mchosen_any vb b y w' (hb.below h);have TE:=Lib.hid fun n w' (h:Below w.heap.size w w')=>mexists_any v l n w' (hv.below h);have TO1:=Lib.hid fun w'=>monly_any x false false w';have TO2:=Lib.hid fun w'=>monly_any y true false w';have HV:=Lib.hid hv;obtain ⟨mb,hmb⟩:∃z,halfB l a x b y=z:=⟨_,rfl⟩;rw [hmb];rw [halfB_eq] at hmb;obtain ⟨oa,hoa⟩:∃o,chosenE a x=o:=⟨_,rfl⟩;obtain ⟨ob,hob⟩:∃o,chosenE b y=o:=⟨_,rfl⟩;rw [hoa,hob] at hmb;rw [hoa] at TXa;rw [hob] at TXb;obtain ⟨bo1,ho1⟩:∃o,onlyB x false false=o:=⟨_,rfl⟩;obtain ⟨bo2,ho2⟩:∃o,onlyB y true false=o:=⟨_,rfl⟩;rw [ho1,ho2] at hmb;rw [ho1] at TO1;rw [ho2] at TO2;clear hoa hob ho1 ho2;obtain ⟨vc,vd,rfl,hc,hd⟩:=ha;obtain ⟨kd,md,ch,vl,dl,cs,ds⟩:=a;dsimp only at *;obtain ⟨a3,cap3,rfl⟩:=hc.len;obtain ⟨a4,cap4,rfl,-⟩:=hd.len;obtain ⟨vc2,vd2,rfl,hc2,hd2⟩:=hb;obtain ⟨kd2,md2,ch2,vl2,dl2,cs2,ds2⟩:=b;dsimp only at *;obtain ⟨a32,cap32,rfl⟩:=hc2.len;obtain ⟨a42,cap42,rfl,-⟩:=hd2.len;obtain ⟨rk,rc,rv,rok,nm⟩:=x;obtain ⟨rk2,rc2,rv2,rok2,nm2⟩:=y;unfold resW at TO1 TO2 TXa TXb ⊢;dsimp only at TO1 TO2 TXa TXb hmb ⊢;have HMB:=Lib.hid hmb;obtain ⟨aq,cap,hve,-⟩:=hv.len;subst hve;clear hv hmb hc hd hc2 hd2;obtain ⟨W,hW,HB,R0,R1,R2,R3,hz⟩:=four_new w (.cells #[.int .i64 kd,.int .i64 md,.int .i64 ch,.int .u64 vl,.int .i64 dl,.slice a3 cs.length cap3,.slice a4 ds.length cap4] 44) (.cells #[.int .i64 rk,.int .i64 rc,.int .u64 rv,.bool rok,.int .i64 nm] 73) (.cells #[.int .i64 kd2,.int .i64 md2,.int .i64 ch2,.int .u64 vl2,.int .i64 dl2,.slice a32 cs2.length cap32,.slice a42 ds2.length cap42] 44) (.cells #[.int .i64 rk2,.int .i64 rc2,.int .u64 rv2,.bool rok2,.int .i64 nm2] 73);have HW:=Lib.hid hW;clear hW;go_enter Try.func90,Try.ntmps90;go_upto_region 1 with fail
 rw [HW.out];clear HW;obtain ⟨x0_0,x0_1,x0_2,x0_3,x0_4,x0_5,x0_6⟩:=rowc7 R0.out;obtain ⟨x1_0,x1_1,x1_2,x1_3,x1_4⟩:=rowc5 R1.out;obtain ⟨x2_0,x2_1,x2_2,x2_3,x2_4,x2_5,x2_6⟩:=rowc7 R2.out;obtain ⟨x3_0,x3_1,x3_2,x3_3,x3_4⟩:=rowc5 R3.out;clear x0_0 x0_1 x0_2 x0_3 x0_4 x0_5 x0_6 x1_0 x1_1 x1_2 x1_3 x1_4 x2_0 x2_1 x2_2 x2_3 x2_4 x2_5 x2_6 x3_0 x3_1 x3_2 x3_3 x3_4;obtain ⟨o0,o1,o2,o3,o4,o5,o6⟩:=rowc7 R0.out;obtain ⟨r0,r1,r2,r3,r4⟩:=rowc5 R1.out;obtain ⟨p0,p1,p2,p3,p4,p5,p6⟩:=rowc7 R2.out;obtain ⟨zz0,zz1,zz2,zz3,zz4⟩:=rowc5 R3.out;by_cases k1:rk=1
 case neg=>
  have k1b:(rk != 1)=true:=by simpa using k1
  have hr:mb=false:=by rw [← HMB.out]; simp [k1]
  subst hr;clear HMB;go_wp2;go_ret;exact ⟨rfl,HB.out⟩
 subst k1;by_cases k2:rk2=2
 case neg=>
  have k2b:(rk2 != 2)=true:=by simpa using k2
  have hr:mb=false:=by rw [← HMB.out]; simp [k2]
  subst hr;clear HMB;go_wp2;go_ret;exact ⟨rfl,HB.out⟩
 subst k2;go_wp2_with fail;refine (TO1.out _).mono ?_; rintro e w1 ⟨rfl,hb1⟩;have HB1:=Lib.hid (below_then HB.out hb1);clear o0 o1 o2 o3 o4 o5 o6 r0 r1 r2 r3 r4 p0 p1 p2 p3 p4 p5 p6 zz0 zz1 zz2 zz3 zz4;have C1_0:=keepR hb1 R0;have C1_1:=keepR hb1 R1;have C1_2:=keepR hb1 R2;have C1_3:=keepR hb1 R3;clear hb1 TO1;obtain ⟨o0,o1,o2,o3,o4,o5,o6⟩:=rowc7 C1_0.out;obtain ⟨r0,r1,r2,r3,r4⟩:=rowc5 C1_1.out;obtain ⟨p0,p1,p2,p3,p4,p5,p6⟩:=rowc7 C1_2.out;obtain ⟨zz0,zz1,zz2,zz3,zz4⟩:=rowc5 C1_3.out;cases bo1 with
 | false=>
  have hr:mb=false:=by rw [← HMB.out]; simp
  subst hr;clear HMB;go_wp2;go_ret;exact ⟨rfl,HB1.out⟩
 | true=>
  go_wp2_with fail;refine (TO2.out _).mono ?_; rintro e w2 ⟨rfl,hb2⟩;have HB2:=Lib.hid (below_then HB1.out hb2);clear o0 o1 o2 o3 o4 o5 o6 r0 r1 r2 r3 r4 p0 p1 p2 p3 p4 p5 p6 zz0 zz1 zz2 zz3 zz4;have C2_0:=keepR hb2 C1_0;have C2_1:=keepR hb2 C1_1;have C2_2:=keepR hb2 C1_2;have C2_3:=keepR hb2 C1_3;clear hb2 TO2;obtain ⟨o0,o1,o2,o3,o4,o5,o6⟩:=rowc7 C2_0.out;obtain ⟨r0,r1,r2,r3,r4⟩:=rowc5 C2_1.out;obtain ⟨p0,p1,p2,p3,p4,p5,p6⟩:=rowc7 C2_2.out;obtain ⟨zz0,zz1,zz2,zz3,zz4⟩:=rowc5 C2_3.out;cases bo2 with
  | false=>
   have hr:mb=false:=by rw [← HMB.out]; simp
   subst hr;clear HMB;go_wp2;go_ret;exact ⟨rfl,HB2.out⟩
  | true=>
   cases rok2 with
   | false=>
    have hr:mb=false:=by rw [← HMB.out]; simp
    subst hr;clear HMB;go_wp2;go_ret;exact ⟨rfl,HB2.out⟩
   | true=>
    have HR:Hid (mb=halfM l rv2 oa ob):=by show _=_; rw [← HMB.out]; simp
    clear HMB;go_wp2_with fail;refine (TXa.out _ HB2.out).mono ?_; rintro e w3 ⟨⟨s1,s2,s3⟩,b1,rfl,hx1,hb3⟩;unfold caseW;dsimp only;have HX1:=Lib.hid hx1;have HB3:=Lib.hid (below_then HB2.out hb3);clear o0 o1 o2 o3 o4 o5 o6 r0 r1 r2 r3 r4 p0 p1 p2 p3 p4 p5 p6 zz0 zz1 zz2 zz3 zz4;have C3_0:=keepR hb3 C2_0;have C3_1:=keepR hb3 C2_1;have C3_2:=keepR hb3 C2_2;have C3_3:=keepR hb3 C2_3;clear hb3 hx1 TXa;obtain ⟨Wx,hWx⟩:∃Wx,(w3.alloc (.cells #[.bool false,.int .i64 0,.int .u64 0] 58)).setRow w3.heap.size #[.bool s1,.int .i64 s2,.int .u64 s3]=Wx:=⟨_,rfl⟩;have Nx:Hid ((w3.alloc (.cells #[.bool false,.int .i64 0,.int .u64 0] 58)).heap[w3.heap.size]?=some (.cells #[.bool false,.int .i64 0,.int .u64 0] 58 (0,0))):=heap_alloc_new _ _;have HBx:Hid (Below w3.heap.size w3 Wx):=hWx▸row_below (below_new (Below.refl _ _) _) (Nat.le_refl _) _;have Rx:Hid (Wx.heap[w3.heap.size]?=some (.cells #[.bool s1,.int .i64 s2,.int .u64 s3] 58 (0,0))):=hWx▸setRow_heap _ _ _ _ _ (0,0) Nx.out;have HWx:=Lib.hid hWx;clear hWx;go_upto_region 4 with (refine wpList_store_row rfl 58 _ _ rfl (w3.heap.size) _ rfl rfl 58 _ Nx.out (by kernel_rfl) rfl (by simp [Value.oneCell']) ?_)
    rw [HWx.out];try simp only [Act.put]
    clear HWx Nx;obtain ⟨X,hX⟩:∃X,w3.heap.size=X:=⟨_,rfl⟩;rw [hX] at Rx;rw [hX];clear hX;have C4_0:=keepR HBx.out C3_0;have C4_1:=keepR HBx.out C3_1;have C4_2:=keepR HBx.out C3_2;have C4_3:=keepR HBx.out C3_3;have HBX:=Lib.hid (below_then HB3.out HBx.out);obtain ⟨p0,p1,p2,p3,p4,p5,p6⟩:=rowc7 C4_2.out;obtain ⟨zz0,zz1,zz2,zz3,zz4⟩:=rowc5 C4_3.out;go_wp2_with fail;refine (TXb.out _ HBX.out).mono ?_; rintro e w5 ⟨⟨t1,t2,t3⟩,b2,rfl,hx2,hb5⟩;unfold caseW;dsimp only;have HX2:=Lib.hid hx2;have HB5:=Lib.hid (below_then HBX.out hb5);clear p0 p1 p2 p3 p4 p5 p6 zz0 zz1 zz2 zz3 zz4;have C5_0:=keepR hb5 C4_0;have C5_1:=keepR hb5 C4_1;have C5_2:=keepR hb5 C4_2;have C5_3:=keepR hb5 C4_3;have C5_4:=keepR hb5 Rx;clear hb5 hx2 TXb;obtain ⟨Wy,hWy⟩:∃Wy,(w5.alloc (.cells #[.bool false,.int .i64 0,.int .u64 0] 58)).setRow w5.heap.size #[.bool t1,.int .i64 t2,.int .u64 t3]=Wy:=⟨_,rfl⟩;have Ny:Hid ((w5.alloc (.cells #[.bool false,.int .i64 0,.int .u64 0] 58)).heap[w5.heap.size]?=some (.cells #[.bool false,.int .i64 0,.int .u64 0] 58 (0,0))):=heap_alloc_new _ _;have HBy:Hid (Below w5.heap.size w5 Wy):=hWy▸row_below (below_new (Below.refl _ _) _) (Nat.le_refl _) _;have Ry:Hid (Wy.heap[w5.heap.size]?=some (.cells #[.bool t1,.int .i64 t2,.int .u64 t3] 58 (0,0))):=hWy▸setRow_heap _ _ _ _ _ (0,0) Ny.out;have HWy:=Lib.hid hWy;clear hWy;go_upto_region 5 with (refine wpList_store_row rfl 58 _ _ rfl (w5.heap.size) _ rfl rfl 58 _ Ny.out (by kernel_rfl) rfl (by simp [Value.oneCell']) ?_)
    rw [HWy.out];try simp only [Act.put]
    clear HWy Ny;obtain ⟨Y,hY⟩:∃Y,w5.heap.size=Y:=⟨_,rfl⟩;rw [hY] at Ry;rw [hY];clear hY;have C6_0:=keepR HBy.out C5_0;have C6_1:=keepR HBy.out C5_1;have C6_2:=keepR HBy.out C5_2;have C6_3:=keepR HBy.out C5_3;have C6_4:=keepR HBy.out C5_4;have HBY:=Lib.hid (below_then HB5.out HBy.out);obtain ⟨o0,o1,o2,o3,o4,o5,o6⟩:=rowc7 C6_0.out;obtain ⟨r0,r1,r2,r3,r4⟩:=rowc5 C6_1.out;obtain ⟨p0,p1,p2,p3,p4,p5,p6⟩:=rowc7 C6_2.out;obtain ⟨zz0,zz1,zz2,zz3,zz4⟩:=rowc5 C6_3.out;obtain ⟨x0,x1,x2⟩:=rowc3 C6_4.out;obtain ⟨y0,y1,y2⟩:=rowc3 Ry.out;have HA:Hid (b1=true→oa=some ⟨s1,s2,s3⟩):=fun h=>by
     rcases HX1.out with ⟨-,h2⟩ | ⟨h2,-⟩
     ·exact h2
     ·rw [h] at h2; cases h2
    have HNA:Hid (b1=false→oa=none):=fun h=>by
     rcases HX1.out with ⟨h2,-⟩ | ⟨-,h2⟩
     ·rw [h] at h2; cases h2
     ·exact h2
    have HBq:Hid (b2=true→ob=some ⟨t1,t2,t3⟩):=fun h=>by
     rcases HX2.out with ⟨-,h2⟩ | ⟨h2,-⟩
     ·exact h2
     ·rw [h] at h2; cases h2
    have HNB:Hid (b2=false→ob=none):=fun h=>by
     rcases HX2.out with ⟨h2,-⟩ | ⟨-,h2⟩
     ·rw [h] at h2; cases h2
     ·exact h2
    clear HX1 HX2;cases b1 with
    | false=>
     have hr:mb=false:=by rw [HR.out]; rw [HNA.out rfl]; rfl
     subst hr;clear HR;go_wp2;go_ret;exact ⟨rfl,HBY.out⟩
    | true=>
     cases b2 with
     | false=>
      have hr:mb=false:=by rw [HR.out]; rw [HNB.out rfl]; cases oa <;> rfl
      subst hr;clear HR;go_wp2;go_ret;exact ⟨rfl,HBY.out⟩
     | true=>
      rw [HA.out rfl,HBq.out rfl] at HR;unfold halfM at HR;dsimp only at HR;clear HA HNA HBq HNB;cases s1 with
      | false=>
       have hr:mb=false:=by rw [HR.out]; rfl
       subst hr;clear HR;go_wp2;go_ret;exact ⟨rfl,HBY.out⟩
      | true=>
       cases t1 with
       | true=>
        have hr:mb=false:=by rw [HR.out]; rfl
        subst hr;clear HR;go_wp2;go_ret;exact ⟨rfl,HBY.out⟩
       | false=>
        by_cases hch:s2=t2
        case neg=>
         have hchb:(s2 != t2)=true:=by simpa using hch
         have hr:mb=false:=by rw [HR.out]; simp [hch]
         subst hr;clear HR;go_wp2;go_ret;exact ⟨rfl,HBY.out⟩
        subst hch;obtain ⟨ex,hex⟩:∃b,exB l s2=b:=⟨_,rfl⟩;have TE1:=Lib.hid (TE.out s2 _ HBY.out);rw [hex] at TE1 HR;have HEX:=Lib.hid hex;clear hex;go_wp2_with fail;refine TE1.out.mono ?_; rintro e w' ⟨rfl,rfl⟩;clear TE1;cases ex with
        | false=>
         have hr:mb=false:=by rw [HR.out]; simp
         subst hr;clear HR;go_wp2;go_ret;exact ⟨rfl,HBY.out⟩
        | true=>
         obtain ⟨i,hi,hil,hce⟩:=exB_nat HEX.out;subst hi;have hiI:(i:Int)<(l.length:Int):=by omega
         obtain ⟨b,off,cap',u,hve,hb,c0,c1,c2,hu⟩:=(HV.out.below HBY.out).at i hil;simp only [Value.slice.injEq] at hve;obtain ⟨rfl,-,rfl⟩:=hve;obtain ⟨⟨cc,bf,cl⟩,hcc⟩:∃c,l.getD i noChan=c:=⟨_,rfl⟩;rw [hcc] at c0 c2 hu hce;dsimp only at c0 c2 hu;rw [hce] at HR;dsimp only at HR;obtain ⟨ua,uc,rfl,-⟩:=hu.len;clear hcc hce hu HEX TE HV;obtain ⟨Wq,hWq⟩:∃Wq,(Wy.alloc (.cells #[.int .i64 0,.slice none 0 0,.bool false] 63)).setRow Wy.heap.size #[.int .i64 cc,.slice ua bf.length uc,.bool cl]=Wq:=⟨_,rfl⟩;have Nq:Hid ((Wy.alloc (.cells #[.int .i64 0,.slice none 0 0,.bool false] 63)).heap[Wy.heap.size]?=some (.cells #[.int .i64 0,.slice none 0 0,.bool false] 63 (0,0))):=heap_alloc_new _ _;have HBq:Hid (Below Wy.heap.size Wy Wq):=hWq▸row_below (below_new (Below.refl _ _) _) (Nat.le_refl _) _;have Rq:Hid (Wq.heap[Wy.heap.size]?=some (.cells #[.int .i64 cc,.slice ua bf.length uc,.bool cl] 63 (0,0))):=hWq▸setRow_heap _ _ _ _ _ (0,0) Nq.out;have HWq:=Lib.hid hWq;clear hWq;go_upto_region 8 with (refine wpList_store_row rfl 63 _ _ rfl (Wy.heap.size) _ rfl rfl 63 _ Nq.out (by kernel_rfl) rfl (by simp [Value.oneCell']) ?_)
         rw [HWq.out];try simp only [Act.put]
         clear HWq Nq;obtain ⟨Q,hQ⟩:∃Q,Wy.heap.size=Q:=⟨_,rfl⟩;rw [hQ] at Rq;rw [hQ];clear hQ;clear o0 o1 o2 o3 o4 o5 o6 r0 r1 r2 r3 r4 p0 p1 p2 p3 p4 p5 p6 zz0 zz1 zz2 zz3 zz4 x0 x1 x2 y0 y1 y2;have C7_0:=keepR HBq.out C6_0;have C7_1:=keepR HBq.out C6_1;have C7_2:=keepR HBq.out C6_2;have C7_3:=keepR HBq.out C6_3;have C7_4:=keepR HBq.out C6_4;have C7_5:=keepR HBq.out Ry;obtain ⟨o0,o1,o2,o3,o4,o5,o6⟩:=rowc7 C7_0.out;obtain ⟨r0,r1,r2,r3,r4⟩:=rowc5 C7_1.out;obtain ⟨p0,p1,p2,p3,p4,p5,p6⟩:=rowc7 C7_2.out;obtain ⟨zz0,zz1,zz2,zz3,zz4⟩:=rowc5 C7_3.out;obtain ⟨x0,x1,x2⟩:=rowc3 C7_4.out;obtain ⟨y0,y1,y2⟩:=rowc3 C7_5.out;have HBQ:=Lib.hid (below_then HBY.out HBq.out);obtain ⟨q0,q1,q2⟩:=rowc3 Rq.out;clear c0 c1 c2 hb;obtain ⟨b3,hb3⟩:∃b,decide (cc≤0)=b:=⟨_,rfl⟩;obtain ⟨b4,hb4⟩:∃b,decide (rv2=s3)=b:=⟨_,rfl⟩;have hb4':(rv2 == s3)=b4:=by rw [← hb4,Bool.eq_iff_iff]; simp
         rw [hb3,hb4] at HR;cases b3 <;> cases cl
         all_goals (
          have hr:=HR.out;clear HR;go_wp2;go_ret;exact ⟨by rw [hr]; first | rfl | simp [*],HBQ.out⟩)
set_option maxRecDepth 100000 in
set_option maxHeartbeats 16000000 in
theorem rPair_any (v va vb:Value) (l:List ChanM) (a:OpM) (x:ResM) (b:OpM) (y:ResM) (w:World) (hv:SlH w v l) (ha:OpV w va a) (hb:OpV w vb b):Calls Try.prog 64 #[v,va,resW x,vb,resW y] w fun e w'=>e=.returned (.bool (pairB l a x b y))∧Below w.heap.size w w':=by
 have T1:=Lib.hid fun w' (h:Below w.heap.size w w')=>rhalf_any v va vb l a x b y w' (hv.below h) (ha.below h) (hb.below h);have T3:=Lib.hid fun w' (h:Below w.heap.size w w')=>rhalf_any v vb va l b y a x w' (hv.below h) (hb.below h) (ha.below h);obtain ⟨mb,hmb⟩:∃z,pairB l a x b y=z:=⟨_,rfl⟩;rw [hmb];unfold pairB at hmb;obtain ⟨h1,hh1⟩:∃z,halfB l a x b y=z:=⟨_,rfl⟩;obtain ⟨h2,hh2⟩:∃z,halfB l b y a x=z:=⟨_,rfl⟩;rw [hh1,hh2] at hmb;rw [hh1] at T1;rw [hh2] at T3;clear hh1 hh2;obtain ⟨vc,vd,rfl,hc,hd⟩:=ha;obtain ⟨kd,md,ch,vl,dl,cs,ds⟩:=a;dsimp only at *;obtain ⟨a3,cap3,rfl⟩:=hc.len;obtain ⟨a4,cap4,rfl,-⟩:=hd.len;obtain ⟨vc2,vd2,rfl,hc2,hd2⟩:=hb;obtain ⟨kd2,md2,ch2,vl2,dl2,cs2,ds2⟩:=b;dsimp only at *;obtain ⟨a32,cap32,rfl⟩:=hc2.len;obtain ⟨a42,cap42,rfl,-⟩:=hd2.len;obtain ⟨rk,rc,rv,rok,nm⟩:=x;obtain ⟨rk2,rc2,rv2,rok2,nm2⟩:=y;unfold resW at T1 T3 ⊢;dsimp only at T1 T3 ⊢;have HMB:=Lib.hid hmb;obtain ⟨aq,cap,hve,-⟩:=hv.len;subst hve;clear hv hmb hc hd hc2 hd2;obtain ⟨W,hW,HB,R0,R1,R2,R3,hz⟩:=four_new w (.cells #[.int .i64 kd,.int .i64 md,.int .i64 ch,.int .u64 vl,.int .i64 dl,.slice a3 cs.length cap3,.slice a4 ds.length cap4] 44) (.cells #[.int .i64 rk,.int .i64 rc,.int .u64 rv,.bool rok,.int .i64 nm] 73) (.cells #[.int .i64 kd2,.int .i64 md2,.int .i64 ch2,.int .u64 vl2,.int .i64 dl2,.slice a32 cs2.length cap32,.slice a42 ds2.length cap42] 44) (.cells #[.int .i64 rk2,.int .i64 rc2,.int .u64 rv2,.bool rok2,.int .i64 nm2] 73);have HW:=Lib.hid hW;clear hW;go_enter Try.func64,Try.ntmps64;go_upto_region 1 with fail
 rw [HW.out];clear HW;obtain ⟨x0_0,x0_1,x0_2,x0_3,x0_4,x0_5,x0_6⟩:=rowc7 R0.out;obtain ⟨x1_0,x1_1,x1_2,x1_3,x1_4⟩:=rowc5 R1.out;obtain ⟨x2_0,x2_1,x2_2,x2_3,x2_4,x2_5,x2_6⟩:=rowc7 R2.out;obtain ⟨x3_0,x3_1,x3_2,x3_3,x3_4⟩:=rowc5 R3.out;clear x0_0 x0_1 x0_2 x0_3 x0_4 x0_5 x0_6 x1_0 x1_1 x1_2 x1_3 x1_4 x2_0 x2_1 x2_2 x2_3 x2_4 x2_5 x2_6 x3_0 x3_1 x3_2 x3_3 x3_4;obtain ⟨o0,o1,o2,o3,o4,o5,o6⟩:=rowc7 R0.out;obtain ⟨r0,r1,r2,r3,r4⟩:=rowc5 R1.out;obtain ⟨p0,p1,p2,p3,p4,p5,p6⟩:=rowc7 R2.out;obtain ⟨zz0,zz1,zz2,zz3,zz4⟩:=rowc5 R3.out;go_wp2_with fail;refine (T1.out _ HB.out).mono ?_; rintro e w1 ⟨rfl,hb1⟩;have HB1:=Lib.hid (below_then HB.out hb1);clear o0 o1 o2 o3 o4 o5 o6 r0 r1 r2 r3 r4 p0 p1 p2 p3 p4 p5 p6 zz0 zz1 zz2 zz3 zz4;have C1_0:=keepR hb1 R0;have C1_1:=keepR hb1 R1;have C1_2:=keepR hb1 R2;have C1_3:=keepR hb1 R3;clear hb1 T1;obtain ⟨o0,o1,o2,o3,o4,o5,o6⟩:=rowc7 C1_0.out;obtain ⟨r0,r1,r2,r3,r4⟩:=rowc5 C1_1.out;obtain ⟨p0,p1,p2,p3,p4,p5,p6⟩:=rowc7 C1_2.out;obtain ⟨zz0,zz1,zz2,zz3,zz4⟩:=rowc5 C1_3.out;cases h1 with
 | true=>
  have hr:mb=true:=by rw [← HMB.out]; rfl
  subst hr;clear HMB;go_wp2;go_ret;exact ⟨rfl,HB1.out⟩
 | false=>
  have HR:Hid (mb=h2):=by show _=_; rw [← HMB.out]; rfl
  clear HMB;go_wp2_with fail;refine (T3.out _ HB1.out).mono ?_; rintro e w2 ⟨rfl,hb2⟩;have HB2:=Lib.hid (below_then HB1.out hb2);clear hb2 T3 o0 o1 o2 o3 o4 o5 o6 r0 r1 r2 r3 r4 p0 p1 p2 p3 p4 p5 p6 zz0 zz1 zz2 zz3 zz4;go_wp2;go_ret;exact ⟨by rw [HR.out]; rfl,HB2.out⟩
end Go.Proofs.Ytiekicailidhcaa
