import Derived.Deep.DeepCutAuto
import Derived.Deep.CutBlock
import Derived.Test.YtiekicailidhcaaRows
import Derived.Deep.QuietTactic
import Derived.BigQuiet
import Derived.Test.YtiekicailidhcaaB02
import Derived.Test.YtiekicailidhcaaB03
import Derived.Test.YtiekicailidhcaaB01
set_option linter.unusedVariables false
set_option linter.unusedSimpArgs false
namespace Go.Proofs.Ytiekicailidhcaa
open Go.ChangeShapes Go.WideShapes Go.ChangeAt Go.RowKit
set_option maxRecDepth 100000
theorem chosen_ok {op:OpM} {r:ResM} {x:CaseM} (h:chosenE op r=some x) (hc:∀x∈op.cases,x.ok) (hok:op.chan=IntKind.i64.wrap op.chan∧op.val=IntKind.u64.wrap op.val):x.val=IntKind.u64.wrap x.val:=by
 unfold chosenE at h;split at h
 ·split at h
  ·cases h
  ·rename_i h2
   simp only [Option.some.injEq] at h;subst h;have h3:r.case.toNat<op.cases.length:=by omega
   rw [List.getD_eq_getElem?_getD,List.getElem?_eq_getElem h3];exact (hc _ (List.getElem_mem h3)).2
 ·split at h
  ·simp only [Option.some.injEq] at h
   subst h;unfold oneC;split
   ·exact hok.2
   ·split
    ·exact hok.2
    ·decide
  ·cases h
set_option maxRecDepth 100000 in
set_option maxHeartbeats 16000000 in
theorem mapply_any (v vo:Value) (l:List ChanM) (op:OpM) (r:ResM) (w:World) (hv:SlH w v l) (hl:l.length≤1000000) (hbf:∀c∈l,c.buf.length≤999999) (h:OpV w vo op) (hok:op.chan=IntKind.i64.wrap op.chan∧op.val=IntKind.u64.wrap op.val):Calls Try.prog 89 #[v,vo,resW r] w fun e w'=>DoQ (modE l op r) w e w':=by
 have HV:=Lib.hid hv;have TE:=Lib.hid fun w' (hb:Below w.heap.size w w')=>mexists_any v l op.chan w' (hv.below hb);have TO:=Lib.hid fun b1 b2 w'=>monly_any r b1 b2 w';have TC:=Lib.hid fun w' (hb:Below w.heap.size w w')=>mchosen_any vo op r w' (h.below hb);have TB:=Lib.hid fun w' (hb:Below w.heap.size w w')=>mblocked_any v vo l op w' (hv.below hb) (h.below hb) hok;have TD:=Lib.hid fun x w' (hb:Below w.heap.size w w') hx=>mdo_any v l x r w' (hv.below hb) hl hbf hx;have HOK:Hid (∀x,chosenE op r=some x→x.val=IntKind.u64.wrap x.val):=fun x hx=>chosen_ok hx (by obtain ⟨_,_,_,hc,_⟩:=h; exact hc.2.1) hok;obtain ⟨lc,hlc⟩:∃c,chosenE op r=c:=⟨_,rfl⟩;have HLC:=Lib.hid hlc;rw [hlc] at HOK TC;obtain ⟨wv,hwv⟩:∃b,waitsB op=b:=⟨_,rfl⟩;have HWV:=Lib.hid hwv;obtain ⟨lo,hlo⟩:∃o,modE l op r=o:=⟨_,rfl⟩;rw [hlo];have HLO:=Lib.hid hlo;clear hlc hwv hlo;obtain ⟨vc,vd,rfl,hc,hd⟩:=h;obtain ⟨kd,md,ch,vl,dl,cs,ds⟩:=op;obtain ⟨rk,rc,rv,rok,nm⟩:=r;dsimp only at *;obtain ⟨a3,cap3,rfl⟩:=hc.len;obtain ⟨a4,cap4,rfl,-⟩:=hd.len;unfold resW at TO TD TC ⊢;dsimp only at TO TD TC ⊢;have HL:=Lib.hid hl;obtain ⟨a,cap,hve,-⟩:=hv.len;subst hve;clear hv hl hbf hc hd hok;obtain ⟨W,hW,HB,R0,R1,hz⟩:=two_new w (.cells #[.int .i64 kd,.int .i64 md,.int .i64 ch,.int .u64 vl,.int .i64 dl,.slice a3 cs.length cap3,.slice a4 ds.length cap4] 44) (.cells #[.int .i64 rk,.int .i64 rc,.int .u64 rv,.bool rok,.int .i64 nm] 73);have HW:=Lib.hid hW;clear hW;go_enter Try.func89,Try.ntmps89;go_upto_region 1 with fail
 rw [HW.out];clear HW;obtain ⟨x0_0,x0_1,x0_2,x0_3,x0_4,x0_5,x0_6⟩:=rowc7 R0.out;obtain ⟨x1_0,x1_1,x1_2,x1_3,x1_4⟩:=rowc5 R1.out;go_cut [8] (fun s8 wx=>s8=.bool wv∧wx=W)
 case first=>
  unfold waitsB at HWV;dsimp only at HWV;by_cases k1:kd=1
  ·subst k1
   have e:wv=true:=by rw [← HWV.out]; rfl
   subst e;go_wp2_with fail;go_meet;exact ⟨rfl,rfl⟩
  have k1b:(kd == 1)=false:=by simpa using k1
  by_cases k2:kd=2
  ·subst k2
   have e:wv=true:=by rw [← HWV.out]; rfl
   subst e;go_wp2_with fail;go_meet;exact ⟨rfl,rfl⟩
  have k2b:(kd == 2)=false:=by simpa using k2
  have e:wv=(kd == 4):=by rw [← HWV.out,k1b,k2b]; rfl
  subst e;go_wp2_with fail;go_meet;exact ⟨rfl,rfl⟩
 case rest=>
  obtain ⟨rfl,hwc⟩:=hcut;have hwc':=hwc.symm;subst hwc';clear hwc;have hnone:lo=none→∀w' e v',Below W.heap.size W w'→e=.returned (.tuple #[v',.bool false])→DoQ lo w e w':=fun h w' e v' hb he=>⟨v',false,he,.inr ⟨h,rfl⟩,below_then HB.out hb⟩;have HNONE:=Lib.hid hnone;have hsame:lo=some l→∀w' e,Below W.heap.size W w'→e=.returned (.tuple #[.slice a l.length cap,.bool true])→DoQ lo w e w':=fun h w' e hb he=>⟨_,true,he,.inl ⟨l,h,rfl,HV.out.below (below_then HB.out hb)⟩,below_then HB.out hb⟩;have HSAME:=Lib.hid hsame;clear hnone hsame;unfold modE at HLO;rw [HLC.out] at HLO;dsimp only at HLO;by_cases q1:rk=1
  ·subst q1
   have HBD:Hid (lo=lc.bind fun x=>doE l x ⟨1,rc,rv,rok,nm⟩):=by show _=_; rw [← HLO.out]; simp
   go_wp2_with fail;refine (TC.out _ HB.out).mono ?_; rintro e w1 ⟨⟨s1,s2,s3⟩,bx,rfl,hlx,hb1⟩;have HLX:=Lib.hid hlx;have HB1:=Lib.hid hb1;have R1y:=keepR hb1 R1;clear x0_0 x0_1 x0_2 x0_3 x0_4 x0_5 x0_6 x1_0 x1_1 x1_2 x1_3 x1_4 hb1 hlx;unfold caseW;dsimp only;obtain ⟨Wx,hWx⟩:∃Wx,(w1.alloc (.cells #[.bool false,.int .i64 0,.int .u64 0] 58)).setRow w1.heap.size #[.bool s1,.int .i64 s2,.int .u64 s3]=Wx:=⟨_,rfl⟩;have Nx:Hid ((w1.alloc (.cells #[.bool false,.int .i64 0,.int .u64 0] 58)).heap[w1.heap.size]?=some (.cells #[.bool false,.int .i64 0,.int .u64 0] 58 (0,0))):=heap_alloc_new _ _;have HBx:Hid (Below w1.heap.size w1 Wx):=hWx▸row_below (below_new (Below.refl _ _) _) (Nat.le_refl _) _;have Rx:Hid (Wx.heap[w1.heap.size]?=some (.cells #[.bool s1,.int .i64 s2,.int .u64 s3] 58 (0,0))):=hWx▸setRow_heap _ _ _ _ _ (0,0) Nx.out;have HWx:=Lib.hid hWx;clear hWx;go_upto_region 6 with (refine wpList_store_row rfl 58 _ _ rfl (w1.heap.size) _ rfl rfl 58 _ Nx.out (by kernel_rfl) rfl (by simp [Value.oneCell']) ?_)
   rw [HWx.out];try simp only [Act.put]
   clear HWx Nx;have HBX:=Lib.hid (below_then HB1.out HBx.out);have R1z:=keepR HBx.out R1y;obtain ⟨x1_0,x1_1,x1_2,x1_3,x1_4⟩:=rowc5 R1z.out;obtain ⟨y0,y1,y2⟩:=rowc3 Rx.out;cases bx with
   | false=>
    have hr:Hid (lo=none):=by
     show _=_;rcases HLX.out with ⟨h2,-⟩ | ⟨-,h1⟩
     ·cases h2
     ·rw [HBD.out,h1]; rfl
    go_wp2;refine bodyPost_ret (v:=.tuple #[.slice none 0 0,.bool false]) (by simp [results,Try.results89,go_sem]) rfl ?_;exact HNONE.out hr.out _ _ _ HBX.out rfl
   | true=>
    have hlx:lc=some ⟨s1,s2,s3⟩:=by
     rcases HLX.out with ⟨-,h1⟩ | ⟨h2,-⟩
     ·exact h1
     ·cases h2
    have HBE:Hid (lo=doE l ⟨s1,s2,s3⟩ ⟨1,rc,rv,rok,nm⟩):=by show _=_; rw [HBD.out,hlx]; rfl
    have T:=TD.out ⟨s1,s2,s3⟩ Wx (below_then HB.out HBX.out) (HOK.out _ hlx);unfold caseW at T;dsimp only at T;rw [← HBE.out] at T;have T2:=Lib.hid T;clear T hlx;go_wp2_with fail;refine T2.out.mono ?_; rintro e w3 ⟨v3,ok3,rfl,hq3,hb3⟩;have HB3:=Lib.hid (below_then (below_then HB.out HBX.out) hb3);have HQ3:=Lib.hid hq3;clear hq3 hb3 y0 y1 y2 x1_0 x1_1 x1_2 x1_3 x1_4;go_wp2_with fail;refine bodyPost_ret (v:=.tuple #[v3,.bool ok3]) (by simp [results,Try.results89,go_sem]) rfl ?_;exact ⟨v3,ok3,rfl,HQ3.out,HB3.out⟩
  have q1b:(rk == 1)=false:=by simpa using q1
  by_cases q2:rk=2
  ·subst q2
   have HBD:Hid (lo=lc.bind fun x=>doE l x ⟨2,rc,rv,rok,nm⟩):=by show _=_; rw [← HLO.out]; simp
   go_wp2_with fail;refine (TC.out _ HB.out).mono ?_; rintro e w1 ⟨⟨s1,s2,s3⟩,bx,rfl,hlx,hb1⟩;have HLX:=Lib.hid hlx;have HB1:=Lib.hid hb1;have R1y:=keepR hb1 R1;clear x0_0 x0_1 x0_2 x0_3 x0_4 x0_5 x0_6 x1_0 x1_1 x1_2 x1_3 x1_4 hb1 hlx;unfold caseW;dsimp only;obtain ⟨Wx,hWx⟩:∃Wx,(w1.alloc (.cells #[.bool false,.int .i64 0,.int .u64 0] 58)).setRow w1.heap.size #[.bool s1,.int .i64 s2,.int .u64 s3]=Wx:=⟨_,rfl⟩;have Nx:Hid ((w1.alloc (.cells #[.bool false,.int .i64 0,.int .u64 0] 58)).heap[w1.heap.size]?=some (.cells #[.bool false,.int .i64 0,.int .u64 0] 58 (0,0))):=heap_alloc_new _ _;have HBx:Hid (Below w1.heap.size w1 Wx):=hWx▸row_below (below_new (Below.refl _ _) _) (Nat.le_refl _) _;have Rx:Hid (Wx.heap[w1.heap.size]?=some (.cells #[.bool s1,.int .i64 s2,.int .u64 s3] 58 (0,0))):=hWx▸setRow_heap _ _ _ _ _ (0,0) Nx.out;have HWx:=Lib.hid hWx;clear hWx;go_upto_region 6 with (refine wpList_store_row rfl 58 _ _ rfl (w1.heap.size) _ rfl rfl 58 _ Nx.out (by kernel_rfl) rfl (by simp [Value.oneCell']) ?_)
   rw [HWx.out];try simp only [Act.put]
   clear HWx Nx;have HBX:=Lib.hid (below_then HB1.out HBx.out);have R1z:=keepR HBx.out R1y;obtain ⟨x1_0,x1_1,x1_2,x1_3,x1_4⟩:=rowc5 R1z.out;obtain ⟨y0,y1,y2⟩:=rowc3 Rx.out;cases bx with
   | false=>
    have hr:Hid (lo=none):=by
     show _=_;rcases HLX.out with ⟨h2,-⟩ | ⟨-,h1⟩
     ·cases h2
     ·rw [HBD.out,h1]; rfl
    go_wp2;refine bodyPost_ret (v:=.tuple #[.slice none 0 0,.bool false]) (by simp [results,Try.results89,go_sem]) rfl ?_;exact HNONE.out hr.out _ _ _ HBX.out rfl
   | true=>
    have hlx:lc=some ⟨s1,s2,s3⟩:=by
     rcases HLX.out with ⟨-,h1⟩ | ⟨h2,-⟩
     ·exact h1
     ·cases h2
    have HBE:Hid (lo=doE l ⟨s1,s2,s3⟩ ⟨2,rc,rv,rok,nm⟩):=by show _=_; rw [HBD.out,hlx]; rfl
    have T:=TD.out ⟨s1,s2,s3⟩ Wx (below_then HB.out HBX.out) (HOK.out _ hlx);unfold caseW at T;dsimp only at T;rw [← HBE.out] at T;have T2:=Lib.hid T;clear T hlx;go_wp2_with fail;refine T2.out.mono ?_; rintro e w3 ⟨v3,ok3,rfl,hq3,hb3⟩;have HB3:=Lib.hid (below_then (below_then HB.out HBX.out) hb3);have HQ3:=Lib.hid hq3;clear hq3 hb3 y0 y1 y2 x1_0 x1_1 x1_2 x1_3 x1_4;go_wp2_with fail;refine bodyPost_ret (v:=.tuple #[v3,.bool ok3]) (by simp [results,Try.results89,go_sem]) rfl ?_;exact ⟨v3,ok3,rfl,HQ3.out,HB3.out⟩
  have q2b:(rk == 2)=false:=by simpa using q2
  by_cases q5:rk=5
  ·subst q5
   by_cases k3:kd=3
   ·subst k3
    obtain ⟨o1,ho1⟩:∃b,onlyB ⟨5,rc,rv,rok,nm⟩ false false=b:=⟨_,rfl⟩;have T:=Lib.hid (TO.out false false);rw [ho1] at T;have HO1:=Lib.hid ho1;clear ho1;obtain ⟨ex,hex⟩:∃b,exB l ch=b:=⟨_,rfl⟩;rw [hex] at TE;have HEX:=Lib.hid hex;clear hex;have TEB:Hid (∀w',Below w.heap.size w w'→Calls Try.prog 86 #[.slice a l.length cap,.int .i64 ch] w' fun e w2=>e=.returned (.bool ex)∧Below w'.heap.size w' w2):=fun w' hb=>(TE.out w' hb).mono fun e w2 h=>by
     obtain ⟨h1,rfl⟩:=h;exact ⟨h1,Below.refl _ _⟩
    by_cases c1:rc=-1
    ·subst c1
     cases o1 with
     | false=>
      have hr:Hid (lo=none):=by show _=_; rw [← HLO.out]; simp [HO1.out]
      go_upto_region 11 with fail
      have Xx0_0:=ext_cell _ _ ((ltR R0)) _ x0_0;have Xx0_1:=ext_cell _ _ ((ltR R0)) _ x0_1;have Xx0_2:=ext_cell _ _ ((ltR R0)) _ x0_2;have Xx0_3:=ext_cell _ _ ((ltR R0)) _ x0_3;have Xx0_4:=ext_cell _ _ ((ltR R0)) _ x0_4;have Xx0_5:=ext_cell _ _ ((ltR R0)) _ x0_5;have Xx0_6:=ext_cell _ _ ((ltR R0)) _ x0_6;have Xx1_0:=ext_cell _ _ ((ltR R1)) _ x1_0;have Xx1_1:=ext_cell _ _ ((ltR R1)) _ x1_1;have Xx1_2:=ext_cell _ _ ((ltR R1)) _ x1_2;have Xx1_3:=ext_cell _ _ ((ltR R1)) _ x1_3;have Xx1_4:=ext_cell _ _ ((ltR R1)) _ x1_4;clear x0_0 x0_1 x0_2 x0_3 x0_4 x0_5 x0_6 x1_0 x1_1 x1_2 x1_3 x1_4;refine wp_region_ext W (by kernel_rfl) (by kernel_rfl) (Below.refl _ _) ?_
      repeat (go_big_quiet_step (first | (go_at_call 107; with_reducible exact calls_ext (T.out _)) | (go_at_call 86; with_reducible exact calls_ext (TEB.out _ (below_then HB.out (Ext.below _))))))
      refine wpQuiet_nil ?_;intro _ hw';obtain ⟨n9,rfl⟩:=hw';have HB9:=Lib.hid n9.below;generalize n9.wd=w9 at *;clear Xx0_0 Xx0_1 Xx0_2 Xx0_3 Xx0_4 Xx0_5 Xx0_6 Xx1_0 Xx1_1 Xx1_2 Xx1_3 Xx1_4;go_wp2_with fail
      first | refine bodyPost_ret (v:=.tuple #[.slice a l.length cap,.bool false]) (by simp [results,Try.results89,go_sem]) rfl ?_ | refine bodyPost_ret (v:=.tuple #[.slice (some ⟨b,off,none⟩) l.length cap,.bool false]) (by simp [results,Try.results89,go_sem]) rfl ?_
      exact HNONE.out hr.out _ _ _ HB9.out rfl
     | true=>
      cases ex with
      | false=>
       have hr:Hid (lo=some l):=by show _=_; rw [← HLO.out]; simp [HO1.out,HEX.out]
       go_upto_region 11 with fail
       have Xx0_0:=ext_cell _ _ ((ltR R0)) _ x0_0;have Xx0_1:=ext_cell _ _ ((ltR R0)) _ x0_1;have Xx0_2:=ext_cell _ _ ((ltR R0)) _ x0_2;have Xx0_3:=ext_cell _ _ ((ltR R0)) _ x0_3;have Xx0_4:=ext_cell _ _ ((ltR R0)) _ x0_4;have Xx0_5:=ext_cell _ _ ((ltR R0)) _ x0_5;have Xx0_6:=ext_cell _ _ ((ltR R0)) _ x0_6;have Xx1_0:=ext_cell _ _ ((ltR R1)) _ x1_0;have Xx1_1:=ext_cell _ _ ((ltR R1)) _ x1_1;have Xx1_2:=ext_cell _ _ ((ltR R1)) _ x1_2;have Xx1_3:=ext_cell _ _ ((ltR R1)) _ x1_3;have Xx1_4:=ext_cell _ _ ((ltR R1)) _ x1_4;clear x0_0 x0_1 x0_2 x0_3 x0_4 x0_5 x0_6 x1_0 x1_1 x1_2 x1_3 x1_4;refine wp_region_ext W (by kernel_rfl) (by kernel_rfl) (Below.refl _ _) ?_
       repeat (go_big_quiet_step (first | (go_at_call 107; with_reducible exact calls_ext (T.out _)) | (go_at_call 86; with_reducible exact calls_ext (TEB.out _ (below_then HB.out (Ext.below _))))))
       refine wpQuiet_nil ?_;intro _ hw';obtain ⟨n9,rfl⟩:=hw';have HB9:=Lib.hid n9.below;generalize n9.wd=w9 at *;clear Xx0_0 Xx0_1 Xx0_2 Xx0_3 Xx0_4 Xx0_5 Xx0_6 Xx1_0 Xx1_1 Xx1_2 Xx1_3 Xx1_4;go_wp2_with fail
       first | refine bodyPost_ret (v:=.tuple #[.slice a l.length cap,.bool true]) (by simp [results,Try.results89,go_sem]) rfl ?_ | refine bodyPost_ret (v:=.tuple #[.slice (some ⟨b,off,none⟩) l.length cap,.bool true]) (by simp [results,Try.results89,go_sem]) rfl ?_
       exact HSAME.out hr.out _ _ HB9.out rfl
      | true=>
       have hx:=HEX.out;unfold exB at hx;simp only [Bool.and_eq_true,decide_eq_true_eq] at hx;obtain ⟨i,hi⟩:∃i:Nat,ch=(i:Int):=⟨ch.toNat,by omega⟩;subst hi;have hil:i<l.length:=by omega
       have hiI:(i:Int)<(l.length:Int):=by omega
       obtain ⟨⟨cc,bf,cl⟩,hcc⟩:∃c,l.getD i noChan=c:=⟨_,rfl⟩;have HCE:Hid (chE l (i:Int)=⟨cc,bf,cl⟩):=by
        show l.getD (Int.toNat (i:Int)) noChan=_;rw [Int.toNat_natCast,hcc]
       have hmem:(⟨cc,bf,cl⟩:ChanM)∈l:=by
        rw [← hcc,List.getD_eq_getElem?_getD,List.getElem?_eq_getElem hil];exact List.getElem_mem hil
       have HCW:Hid (cc=IntKind.i64.wrap cc):=by
        obtain ⟨us,-,-,-,h4,-⟩:=HV.out;exact h4 _ hmem
       have TS:=Lib.hid fun c u w' (hb:Below w.heap.size w w') hu hcw=>mset_any _ l i hil c u w' (HV.out.below hb) hu hcw HL.out;obtain ⟨b,off,cap',u,hve,hbb,c0,c1,c2,hu,hfu⟩:=(HV.out.below (HB.out)).at2 i hil;simp only [Value.slice.injEq] at hve;obtain ⟨rfl,-,rfl⟩:=hve;rw [hcc] at c0 c2 hu;dsimp only at c0 c2 hu;obtain ⟨ua,uc,rfl,-⟩:=hu.len;have HU:=Lib.hid hu;have HUF:Hid (SlU _ (.slice ua bf.length uc) bf):=⟨HU.out,hfu⟩;clear hfu hx hcc hmem hu;cases cl with
       | false=>
        have hr:Hid (lo=none):=by show _=_; rw [← HLO.out]; simp [HO1.out,HEX.out,HCE.out]
        go_upto_region 11 with fail
        have Xx0_0:=ext_cell _ _ ((ltR R0)) _ x0_0;have Xx0_1:=ext_cell _ _ ((ltR R0)) _ x0_1;have Xx0_2:=ext_cell _ _ ((ltR R0)) _ x0_2;have Xx0_3:=ext_cell _ _ ((ltR R0)) _ x0_3;have Xx0_4:=ext_cell _ _ ((ltR R0)) _ x0_4;have Xx0_5:=ext_cell _ _ ((ltR R0)) _ x0_5;have Xx0_6:=ext_cell _ _ ((ltR R0)) _ x0_6;have Xx1_0:=ext_cell _ _ ((ltR R1)) _ x1_0;have Xx1_1:=ext_cell _ _ ((ltR R1)) _ x1_1;have Xx1_2:=ext_cell _ _ ((ltR R1)) _ x1_2;have Xx1_3:=ext_cell _ _ ((ltR R1)) _ x1_3;have Xx1_4:=ext_cell _ _ ((ltR R1)) _ x1_4;have Xc0:=ext_cell _ _ (hbb) _ c0;have Xc1:=ext_cell _ _ (hbb) _ c1;have Xc2:=ext_cell _ _ (hbb) _ c2;clear x0_0 x0_1 x0_2 x0_3 x0_4 x0_5 x0_6 x1_0 x1_1 x1_2 x1_3 x1_4 c0 c1 c2;refine wp_region_ext W (by kernel_rfl) (by kernel_rfl) (Below.refl _ _) ?_
        repeat (go_big_quiet_step (first | (go_at_call 107; with_reducible exact calls_ext (T.out _)) | (go_at_call 86; with_reducible exact calls_ext (TEB.out _ (below_then HB.out (Ext.below _))))))
        refine wpQuiet_nil ?_;intro _ hw';obtain ⟨n9,rfl⟩:=hw';have HB9:=Lib.hid n9.below;generalize n9.wd=w9 at *;clear Xx0_0 Xx0_1 Xx0_2 Xx0_3 Xx0_4 Xx0_5 Xx0_6 Xx1_0 Xx1_1 Xx1_2 Xx1_3 Xx1_4 Xc0 Xc1 Xc2;go_wp2_with fail
        first | refine bodyPost_ret (v:=.tuple #[.slice a l.length cap,.bool false]) (by simp [results,Try.results89,go_sem]) rfl ?_ | refine bodyPost_ret (v:=.tuple #[.slice (some ⟨b,off,none⟩) l.length cap,.bool false]) (by simp [results,Try.results89,go_sem]) rfl ?_
        exact HNONE.out hr.out _ _ _ HB9.out rfl
       | true=>
        have hr:Hid (lo=some l):=by show _=_; rw [← HLO.out]; simp [HO1.out,HEX.out,HCE.out]
        go_upto_region 11 with fail
        have Xx0_0:=ext_cell _ _ ((ltR R0)) _ x0_0;have Xx0_1:=ext_cell _ _ ((ltR R0)) _ x0_1;have Xx0_2:=ext_cell _ _ ((ltR R0)) _ x0_2;have Xx0_3:=ext_cell _ _ ((ltR R0)) _ x0_3;have Xx0_4:=ext_cell _ _ ((ltR R0)) _ x0_4;have Xx0_5:=ext_cell _ _ ((ltR R0)) _ x0_5;have Xx0_6:=ext_cell _ _ ((ltR R0)) _ x0_6;have Xx1_0:=ext_cell _ _ ((ltR R1)) _ x1_0;have Xx1_1:=ext_cell _ _ ((ltR R1)) _ x1_1;have Xx1_2:=ext_cell _ _ ((ltR R1)) _ x1_2;have Xx1_3:=ext_cell _ _ ((ltR R1)) _ x1_3;have Xx1_4:=ext_cell _ _ ((ltR R1)) _ x1_4;have Xc0:=ext_cell _ _ (hbb) _ c0;have Xc1:=ext_cell _ _ (hbb) _ c1;have Xc2:=ext_cell _ _ (hbb) _ c2;clear x0_0 x0_1 x0_2 x0_3 x0_4 x0_5 x0_6 x1_0 x1_1 x1_2 x1_3 x1_4 c0 c1 c2;refine wp_region_ext W (by kernel_rfl) (by kernel_rfl) (Below.refl _ _) ?_
        repeat (go_big_quiet_step (first | (go_at_call 107; with_reducible exact calls_ext (T.out _)) | (go_at_call 86; with_reducible exact calls_ext (TEB.out _ (below_then HB.out (Ext.below _))))))
        refine wpQuiet_nil ?_;intro _ hw';obtain ⟨n9,rfl⟩:=hw';have HB9:=Lib.hid n9.below;generalize n9.wd=w9 at *;clear Xx0_0 Xx0_1 Xx0_2 Xx0_3 Xx0_4 Xx0_5 Xx0_6 Xx1_0 Xx1_1 Xx1_2 Xx1_3 Xx1_4 Xc0 Xc1 Xc2;go_wp2_with fail
        first | refine bodyPost_ret (v:=.tuple #[.slice a l.length cap,.bool true]) (by simp [results,Try.results89,go_sem]) rfl ?_ | refine bodyPost_ret (v:=.tuple #[.slice (some ⟨b,off,none⟩) l.length cap,.bool true]) (by simp [results,Try.results89,go_sem]) rfl ?_
        exact HSAME.out hr.out _ _ HB9.out rfl
    have c1b:(rc == -1)=false:=by simpa using c1
    have hr:Hid (lo=none):=by show _=_; rw [← HLO.out]; simp [c1]
    go_upto_region 11 with fail
    have Xx0_0:=ext_cell _ _ ((ltR R0)) _ x0_0;have Xx0_1:=ext_cell _ _ ((ltR R0)) _ x0_1;have Xx0_2:=ext_cell _ _ ((ltR R0)) _ x0_2;have Xx0_3:=ext_cell _ _ ((ltR R0)) _ x0_3;have Xx0_4:=ext_cell _ _ ((ltR R0)) _ x0_4;have Xx0_5:=ext_cell _ _ ((ltR R0)) _ x0_5;have Xx0_6:=ext_cell _ _ ((ltR R0)) _ x0_6;have Xx1_0:=ext_cell _ _ ((ltR R1)) _ x1_0;have Xx1_1:=ext_cell _ _ ((ltR R1)) _ x1_1;have Xx1_2:=ext_cell _ _ ((ltR R1)) _ x1_2;have Xx1_3:=ext_cell _ _ ((ltR R1)) _ x1_3;have Xx1_4:=ext_cell _ _ ((ltR R1)) _ x1_4;clear x0_0 x0_1 x0_2 x0_3 x0_4 x0_5 x0_6 x1_0 x1_1 x1_2 x1_3 x1_4;refine wp_region_ext W (by kernel_rfl) (by kernel_rfl) (Below.refl _ _) ?_
    repeat (go_big_quiet_step (first | (go_at_call 107; with_reducible exact calls_ext (T.out _)) | (go_at_call 86; with_reducible exact calls_ext (TEB.out _ (below_then HB.out (Ext.below _))))))
    refine wpQuiet_nil ?_;intro _ hw';obtain ⟨n9,rfl⟩:=hw';have HB9:=Lib.hid n9.below;generalize n9.wd=w9 at *;clear Xx0_0 Xx0_1 Xx0_2 Xx0_3 Xx0_4 Xx0_5 Xx0_6 Xx1_0 Xx1_1 Xx1_2 Xx1_3 Xx1_4;go_wp2_with fail
    first | refine bodyPost_ret (v:=.tuple #[.slice a l.length cap,.bool false]) (by simp [results,Try.results89,go_sem]) rfl ?_ | refine bodyPost_ret (v:=.tuple #[.slice (some ⟨b,off,none⟩) l.length cap,.bool false]) (by simp [results,Try.results89,go_sem]) rfl ?_
    exact HNONE.out hr.out _ _ _ HB9.out rfl
   ·have k3b:(kd == 3)=false:=by simpa using k3
    have HBD:Hid (lo=lc.bind fun x=>doE l x ⟨5,rc,rv,rok,nm⟩):=by show _=_; rw [← HLO.out]; simp [k3]
    go_wp2_with fail;refine (TC.out _ HB.out).mono ?_; rintro e w1 ⟨⟨s1,s2,s3⟩,bx,rfl,hlx,hb1⟩;have HLX:=Lib.hid hlx;have HB1:=Lib.hid hb1;have R1y:=keepR hb1 R1;clear x0_0 x0_1 x0_2 x0_3 x0_4 x0_5 x0_6 x1_0 x1_1 x1_2 x1_3 x1_4 hb1 hlx;unfold caseW;dsimp only;obtain ⟨Wx,hWx⟩:∃Wx,(w1.alloc (.cells #[.bool false,.int .i64 0,.int .u64 0] 58)).setRow w1.heap.size #[.bool s1,.int .i64 s2,.int .u64 s3]=Wx:=⟨_,rfl⟩;have Nx:Hid ((w1.alloc (.cells #[.bool false,.int .i64 0,.int .u64 0] 58)).heap[w1.heap.size]?=some (.cells #[.bool false,.int .i64 0,.int .u64 0] 58 (0,0))):=heap_alloc_new _ _;have HBx:Hid (Below w1.heap.size w1 Wx):=hWx▸row_below (below_new (Below.refl _ _) _) (Nat.le_refl _) _;have Rx:Hid (Wx.heap[w1.heap.size]?=some (.cells #[.bool s1,.int .i64 s2,.int .u64 s3] 58 (0,0))):=hWx▸setRow_heap _ _ _ _ _ (0,0) Nx.out;have HWx:=Lib.hid hWx;clear hWx;go_upto_region 13 with (refine wpList_store_row rfl 58 _ _ rfl (w1.heap.size) _ rfl rfl 58 _ Nx.out (by kernel_rfl) rfl (by simp [Value.oneCell']) ?_)
    rw [HWx.out];try simp only [Act.put]
    clear HWx Nx;have HBX:=Lib.hid (below_then HB1.out HBx.out);have R1z:=keepR HBx.out R1y;obtain ⟨x1_0,x1_1,x1_2,x1_3,x1_4⟩:=rowc5 R1z.out;obtain ⟨y0,y1,y2⟩:=rowc3 Rx.out;cases bx with
    | false=>
     have hr:Hid (lo=none):=by
      show _=_;rcases HLX.out with ⟨h2,-⟩ | ⟨-,h1⟩
      ·cases h2
      ·rw [HBD.out,h1]; rfl
     go_wp2;refine bodyPost_ret (v:=.tuple #[.slice none 0 0,.bool false]) (by simp [results,Try.results89,go_sem]) rfl ?_;exact HNONE.out hr.out _ _ _ HBX.out rfl
    | true=>
     have hlx:lc=some ⟨s1,s2,s3⟩:=by
      rcases HLX.out with ⟨-,h1⟩ | ⟨h2,-⟩
      ·exact h1
      ·cases h2
     have HBE:Hid (lo=doE l ⟨s1,s2,s3⟩ ⟨5,rc,rv,rok,nm⟩):=by show _=_; rw [HBD.out,hlx]; rfl
     have T:=TD.out ⟨s1,s2,s3⟩ Wx (below_then HB.out HBX.out) (HOK.out _ hlx);unfold caseW at T;dsimp only at T;rw [← HBE.out] at T;have T2:=Lib.hid T;clear T hlx;go_wp2_with fail;refine T2.out.mono ?_; rintro e w3 ⟨v3,ok3,rfl,hq3,hb3⟩;have HB3:=Lib.hid (below_then (below_then HB.out HBX.out) hb3);have HQ3:=Lib.hid hq3;clear hq3 hb3 y0 y1 y2 x1_0 x1_1 x1_2 x1_3 x1_4;go_wp2_with fail;refine bodyPost_ret (v:=.tuple #[v3,.bool ok3]) (by simp [results,Try.results89,go_sem]) rfl ?_;exact ⟨v3,ok3,rfl,HQ3.out,HB3.out⟩
  have q5b:(rk == 5)=false:=by simpa using q5
  by_cases q6:rk=6
  ·subst q6
   obtain ⟨o1,ho1⟩:∃b,onlyB ⟨6,rc,rv,rok,nm⟩ false false=b:=⟨_,rfl⟩;have T:=Lib.hid (TO.out false false);rw [ho1] at T;have HO1:=Lib.hid ho1;clear ho1;obtain ⟨ex,hex⟩:∃b,exB l ch=b:=⟨_,rfl⟩;rw [hex] at TE;have HEX:=Lib.hid hex;clear hex;by_cases k3:kd=3
   ·subst k3
    by_cases c1:rc=-1
    ·subst c1
     go_wp2_with fail;refine (T.out _).mono ?_; rintro e w1 ⟨rfl,hbw⟩;have HB1:=Lib.hid hbw;have R0y:=keepR hbw R0;clear x0_0 x0_1 x0_2 x0_3 x0_4 x0_5 x0_6 x1_0 x1_1 x1_2 x1_3 x1_4 hbw T;obtain ⟨x0_0,x0_1,x0_2,x0_3,x0_4,x0_5,x0_6⟩:=rowc7 R0y.out;cases o1 with
     | false=>
      have hr:Hid (lo=none):=by show _=_; rw [← HLO.out]; simp [HO1.out]
      go_wp2;refine bodyPost_ret (v:=.tuple #[.slice none 0 0,.bool false]) (by simp [results,Try.results89,go_sem]) rfl ?_;exact HNONE.out hr.out _ _ _ HB1.out rfl
     | true=>
      go_wp2_with fail;refine (TE.out _ (below_then HB.out HB1.out)).mono ?_; rintro e w' ⟨rfl,rfl⟩;cases ex with
      | false=>
       have hr:Hid (lo=none):=by show _=_; rw [← HLO.out]; simp [HO1.out,HEX.out]
       go_wp2;refine bodyPost_ret (v:=.tuple #[.slice none 0 0,.bool false]) (by simp [results,Try.results89,go_sem]) rfl ?_;exact HNONE.out hr.out _ _ _ HB1.out rfl
      | true=>
       have hx:=HEX.out;unfold exB at hx;simp only [Bool.and_eq_true,decide_eq_true_eq] at hx;obtain ⟨i,hi⟩:∃i:Nat,ch=(i:Int):=⟨ch.toNat,by omega⟩;subst hi;have hil:i<l.length:=by omega
       have hiI:(i:Int)<(l.length:Int):=by omega
       obtain ⟨⟨cc,bf,cl⟩,hcc⟩:∃c,l.getD i noChan=c:=⟨_,rfl⟩;have HCE:Hid (chE l (i:Int)=⟨cc,bf,cl⟩):=by
        show l.getD (Int.toNat (i:Int)) noChan=_;rw [Int.toNat_natCast,hcc]
       have hmem:(⟨cc,bf,cl⟩:ChanM)∈l:=by
        rw [← hcc,List.getD_eq_getElem?_getD,List.getElem?_eq_getElem hil];exact List.getElem_mem hil
       have HCW:Hid (cc=IntKind.i64.wrap cc):=by
        obtain ⟨us,-,-,-,h4,-⟩:=HV.out;exact h4 _ hmem
       have TS:=Lib.hid fun c u w' (hb:Below w.heap.size w w') hu hcw=>mset_any _ l i hil c u w' (HV.out.below hb) hu hcw HL.out;obtain ⟨b,off,cap',u,hve,hbb,c0,c1,c2,hu,hfu⟩:=(HV.out.below (below_then HB.out HB1.out)).at2 i hil;simp only [Value.slice.injEq] at hve;obtain ⟨rfl,-,rfl⟩:=hve;rw [hcc] at c0 c2 hu;dsimp only at c0 c2 hu;obtain ⟨ua,uc,rfl,-⟩:=hu.len;have HU:=Lib.hid hu;have HUF:Hid (SlU _ (.slice ua bf.length uc) bf):=⟨HU.out,hfu⟩;clear hfu hx hcc hmem hu;cases cl with
       | true=>
        have hr:Hid (lo=none):=by show _=_; rw [← HLO.out]; simp [HO1.out,HEX.out,HCE.out]
        go_wp2;refine bodyPost_ret (v:=.tuple #[.slice none 0 0,.bool false]) (by simp [results,Try.results89,go_sem]) rfl ?_;exact HNONE.out hr.out _ _ _ HB1.out rfl
       | false=>
        have hr:Hid (lo=some (l.set i ⟨cc,bf,true⟩)):=by show _=_; rw [← HLO.out]; simp [HO1.out,HEX.out,HCE.out,setE]
        obtain ⟨Wx,hWx⟩:∃Wx,(w1.alloc (.cells #[.int .i64 0,.slice none 0 0,.bool false] 63)).setRow w1.heap.size #[.int .i64 cc,.slice ua bf.length uc,.bool false]=Wx:=⟨_,rfl⟩;have Nx:Hid ((w1.alloc (.cells #[.int .i64 0,.slice none 0 0,.bool false] 63)).heap[w1.heap.size]?=some (.cells #[.int .i64 0,.slice none 0 0,.bool false] 63 (0,0))):=heap_alloc_new _ _;have HBx:Hid (Below w1.heap.size w1 Wx):=hWx▸row_below (below_new (Below.refl _ _) _) (Nat.le_refl _) _;have Rx:Hid (Wx.heap[w1.heap.size]?=some (.cells #[.int .i64 cc,.slice ua bf.length uc,.bool false] 63 (0,0))):=hWx▸setRow_heap _ _ _ _ _ (0,0) Nx.out;have HWx:=Lib.hid hWx;clear hWx;go_upto_region 20 with (refine wpList_store_row rfl 63 _ _ rfl (w1.heap.size) _ rfl rfl 63 _ Nx.out (by kernel_rfl) rfl (by simp [Value.oneCell']) ?_)
        rw [HWx.out];try simp only [Act.put]
        clear HWx Nx;have ff:=frozen_of_row Wx w1.heap.size 2 _ _ Rx.out;obtain ⟨z0,z1,z2⟩:=rowc3 Rx.out;go_upto_region 21 with fail
        obtain ⟨u4,hu4⟩:∃u4,Wx.setCell ⟨w1.heap.size,2,none⟩ (.bool true)=u4:=⟨_,rfl⟩;have HR4:Hid (u4.heap[w1.heap.size]?=some (.cells #[.int .i64 cc,.slice ua bf.length uc,.bool true] 63 (0,0))):=by
         rw [← hu4];have r1:=heap_setCell_same Wx w1.heap.size 2 _ _ (.bool true) Rx.out;simp at r1;exact r1
        have HC4:Hid (u4.heap[w.heap.size]?=some (.cells #[.int .i64 3,.int .i64 md,.int .i64 i,.int .u64 vl,.int .i64 dl,.slice a3 cs.length cap3,.slice a4 ds.length cap4] 44 (0,0))):=by
         rw [← hu4];exact (heap_setCell_other Wx ⟨w1.heap.size,2,none⟩ w.heap.size (.bool true) (by show w.heap.size≠w1.heap.size; have:=HB1.out.size; omega)).trans ((HBx.out.block w.heap.size (ltR R0y)).trans R0y.out)
        have HB4:Hid (Below w1.heap.size w1 u4):=by
         rw [← hu4];exact HBx.out.setCell (p:=⟨w1.heap.size,2,none⟩) (Nat.le_refl _) (.bool true)
        rw [hu4];clear hu4 z0 z1 z2 ff x0_0 x0_1 x0_2 x0_3 x0_4 x0_5 x0_6 c0 c1 c2;obtain ⟨z0,z1,z2⟩:=rowc3 HR4.out;obtain ⟨x0_0,x0_1,x0_2,x0_3,x0_4,x0_5,x0_6⟩:=rowc7 HC4.out;have T5:=TS.out ⟨cc,bf,true⟩ (.slice ua bf.length uc) u4 (below_then HB.out (below_then HB1.out HB4.out)) (HUF.out.below HB4.out) HCW.out;dsimp only at T5;have T5':=Lib.hid T5;clear T5;go_wp2_with fail;refine T5'.out.mono ?_; rintro e u5 ⟨v5,rfl,hs5,hb5⟩;have HB5:=Lib.hid (below_then (below_then HB.out (below_then HB1.out HB4.out)) hb5);have HS5:=Lib.hid hs5;clear z0 z1 z2 x0_0 x0_1 x0_2 x0_3 x0_4 x0_5 x0_6 hb5 hs5 T5';go_wp2_with fail;refine bodyPost_ret (v:=.tuple #[v5,.bool true]) (by simp [results,Try.results89,go_sem]) rfl ?_;exact ⟨v5,true,rfl,.inl ⟨_,hr.out,rfl,HS5.out⟩,HB5.out⟩
    have c1b:(rc == -1)=false:=by simpa using c1
    have c1n:(rc != -1)=true:=by simpa using c1
    have hr:Hid (lo=none):=by show _=_; rw [← HLO.out]; simp [c1]
    go_wp2;refine bodyPost_ret (v:=.tuple #[.slice none 0 0,.bool false]) (by simp [results,Try.results89,go_sem]) rfl ?_;exact HNONE.out hr.out _ _ _ (Below.refl _ _) rfl
   have k3b:(kd == 3)=false:=by simpa using k3
   have k3n:(kd != 3)=true:=by simpa using k3
   have hr:Hid (lo=none):=by show _=_; rw [← HLO.out]; simp [k3]
   go_wp2;refine bodyPost_ret (v:=.tuple #[.slice none 0 0,.bool false]) (by simp [results,Try.results89,go_sem]) rfl ?_;exact HNONE.out hr.out _ _ _ (Below.refl _ _) rfl
  have q6b:(rk == 6)=false:=by simpa using q6
  by_cases q3:rk=3
  ·subst q3
   obtain ⟨o1,ho1⟩:∃b,onlyB ⟨3,rc,rv,rok,nm⟩ false false=b:=⟨_,rfl⟩;have T:=Lib.hid (TO.out false false);rw [ho1] at T;obtain ⟨b1,hb1⟩:∃b,(md == 1)=b:=⟨_,rfl⟩;obtain ⟨b2,hb2⟩:∃b,(rc == -1)=b:=⟨_,rfl⟩;obtain ⟨bb,hbb⟩:∃b,blockedB l ⟨kd,md,ch,vl,dl,cs,ds⟩=b:=⟨_,rfl⟩;rw [hbb] at TB;have HZZ:Hid (lo=if wv=true∧b1=true∧b2=true∧o1=true∧bb=true then some l else none):=by
    show _=_;rw [← HLO.out,← hb1,← hb2,← ho1,← HWV.out,← hbb];simp
   clear HLO ho1;cases wv with
   | false=>
    have hr:Hid (lo=none):=by show _=_; rw [HZZ.out]; simp
    go_wp2
    first | refine bodyPost_ret (v:=.tuple #[.slice a l.length cap,.bool false]) (by simp [results,Try.results89,go_sem]) rfl ?_ | refine bodyPost_ret (v:=.tuple #[.slice (some ⟨b,off,none⟩) l.length cap,.bool false]) (by simp [results,Try.results89,go_sem]) rfl ?_
    exact HNONE.out hr.out _ _ _ (Below.refl _ _) rfl
   | true=>
    cases b1 with
    | false=>
     have hr:Hid (lo=none):=by show _=_; rw [HZZ.out]; simp
     go_wp2
     first | refine bodyPost_ret (v:=.tuple #[.slice a l.length cap,.bool false]) (by simp [results,Try.results89,go_sem]) rfl ?_ | refine bodyPost_ret (v:=.tuple #[.slice (some ⟨b,off,none⟩) l.length cap,.bool false]) (by simp [results,Try.results89,go_sem]) rfl ?_
     exact HNONE.out hr.out _ _ _ (Below.refl _ _) rfl
    | true=>
     cases b2 with
     | false=>
      have hr:Hid (lo=none):=by show _=_; rw [HZZ.out]; simp
      go_wp2
      first | refine bodyPost_ret (v:=.tuple #[.slice a l.length cap,.bool false]) (by simp [results,Try.results89,go_sem]) rfl ?_ | refine bodyPost_ret (v:=.tuple #[.slice (some ⟨b,off,none⟩) l.length cap,.bool false]) (by simp [results,Try.results89,go_sem]) rfl ?_
      exact HNONE.out hr.out _ _ _ (Below.refl _ _) rfl
     | true=>
      go_wp2_with fail;refine (T.out _).mono ?_; rintro e w1 ⟨rfl,hbw⟩;have HB1:=Lib.hid hbw;have R0y:=keepR hbw R0;clear x0_0 x0_1 x0_2 x0_3 x0_4 x0_5 x0_6 x1_0 x1_1 x1_2 x1_3 x1_4 hbw T;cases o1 with
      | false=>
       have hr:Hid (lo=none):=by show _=_; rw [HZZ.out]; simp
       go_wp2
       first | refine bodyPost_ret (v:=.tuple #[.slice a l.length cap,.bool false]) (by simp [results,Try.results89,go_sem]) rfl ?_ | refine bodyPost_ret (v:=.tuple #[.slice (some ⟨b,off,none⟩) l.length cap,.bool false]) (by simp [results,Try.results89,go_sem]) rfl ?_
       exact HNONE.out hr.out _ _ _ HB1.out rfl
      | true=>
       obtain ⟨x0_0,x0_1,x0_2,x0_3,x0_4,x0_5,x0_6⟩:=rowc7 R0y.out;go_wp2_with fail;refine (TB.out _ (below_then HB.out HB1.out)).mono ?_; rintro e w2 ⟨rfl,hbw⟩;have HB2:=Lib.hid (below_then HB1.out hbw);clear x0_0 x0_1 x0_2 x0_3 x0_4 x0_5 x0_6 hbw;cases bb with
       | false=>
        have hr:Hid (lo=none):=by show _=_; rw [HZZ.out]; simp
        go_wp2
        first | refine bodyPost_ret (v:=.tuple #[.slice a l.length cap,.bool false]) (by simp [results,Try.results89,go_sem]) rfl ?_ | refine bodyPost_ret (v:=.tuple #[.slice (some ⟨b,off,none⟩) l.length cap,.bool false]) (by simp [results,Try.results89,go_sem]) rfl ?_
        exact HNONE.out hr.out _ _ _ HB2.out rfl
       | true=>
        have hr:Hid (lo=some l):=by show _=_; rw [HZZ.out]; simp
        go_wp2
        first | refine bodyPost_ret (v:=.tuple #[.slice a l.length cap,.bool true]) (by simp [results,Try.results89,go_sem]) rfl ?_ | refine bodyPost_ret (v:=.tuple #[.slice (some ⟨b,off,none⟩) l.length cap,.bool true]) (by simp [results,Try.results89,go_sem]) rfl ?_
        exact HSAME.out hr.out _ _ HB2.out rfl
  have q3b:(rk == 3)=false:=by simpa using q3
  by_cases q4:rk=4
  ·subst q4
   obtain ⟨o1,ho1⟩:∃b,onlyB ⟨4,rc,rv,rok,nm⟩ false false=b:=⟨_,rfl⟩;have T:=Lib.hid (TO.out false false);rw [ho1] at T;obtain ⟨b1,hb1⟩:∃b,(md == 2)=b:=⟨_,rfl⟩;obtain ⟨b2,hb2⟩:∃b,(rc == -1)=b:=⟨_,rfl⟩;have HZZ:Hid (lo=if wv=true∧b1=true∧b2=true∧o1=true then some l else none):=by
    show _=_;rw [← HLO.out,← hb1,← hb2,← ho1,← HWV.out];simp
   clear HLO ho1;cases wv with
   | false=>
    have hr:Hid (lo=none):=by show _=_; rw [HZZ.out]; simp
    go_wp2
    first | refine bodyPost_ret (v:=.tuple #[.slice a l.length cap,.bool false]) (by simp [results,Try.results89,go_sem]) rfl ?_ | refine bodyPost_ret (v:=.tuple #[.slice (some ⟨b,off,none⟩) l.length cap,.bool false]) (by simp [results,Try.results89,go_sem]) rfl ?_
    exact HNONE.out hr.out _ _ _ (Below.refl _ _) rfl
   | true=>
    cases b1 with
    | false=>
     have hr:Hid (lo=none):=by show _=_; rw [HZZ.out]; simp
     go_wp2
     first | refine bodyPost_ret (v:=.tuple #[.slice a l.length cap,.bool false]) (by simp [results,Try.results89,go_sem]) rfl ?_ | refine bodyPost_ret (v:=.tuple #[.slice (some ⟨b,off,none⟩) l.length cap,.bool false]) (by simp [results,Try.results89,go_sem]) rfl ?_
     exact HNONE.out hr.out _ _ _ (Below.refl _ _) rfl
    | true=>
     cases b2 with
     | false=>
      have hr:Hid (lo=none):=by show _=_; rw [HZZ.out]; simp
      go_wp2
      first | refine bodyPost_ret (v:=.tuple #[.slice a l.length cap,.bool false]) (by simp [results,Try.results89,go_sem]) rfl ?_ | refine bodyPost_ret (v:=.tuple #[.slice (some ⟨b,off,none⟩) l.length cap,.bool false]) (by simp [results,Try.results89,go_sem]) rfl ?_
      exact HNONE.out hr.out _ _ _ (Below.refl _ _) rfl
     | true=>
      go_wp2_with fail;refine (T.out _).mono ?_; rintro e w1 ⟨rfl,hbw⟩;have HB1:=Lib.hid hbw;have R0y:=keepR hbw R0;clear x0_0 x0_1 x0_2 x0_3 x0_4 x0_5 x0_6 x1_0 x1_1 x1_2 x1_3 x1_4 hbw T;cases o1 with
      | false=>
       have hr:Hid (lo=none):=by show _=_; rw [HZZ.out]; simp
       go_wp2
       first | refine bodyPost_ret (v:=.tuple #[.slice a l.length cap,.bool false]) (by simp [results,Try.results89,go_sem]) rfl ?_ | refine bodyPost_ret (v:=.tuple #[.slice (some ⟨b,off,none⟩) l.length cap,.bool false]) (by simp [results,Try.results89,go_sem]) rfl ?_
       exact HNONE.out hr.out _ _ _ HB1.out rfl
      | true=>
       have hr:Hid (lo=some l):=by show _=_; rw [HZZ.out]; simp
       go_wp2
       first | refine bodyPost_ret (v:=.tuple #[.slice a l.length cap,.bool true]) (by simp [results,Try.results89,go_sem]) rfl ?_ | refine bodyPost_ret (v:=.tuple #[.slice (some ⟨b,off,none⟩) l.length cap,.bool true]) (by simp [results,Try.results89,go_sem]) rfl ?_
       exact HSAME.out hr.out _ _ HB1.out rfl
  have q4b:(rk == 4)=false:=by simpa using q4
  by_cases q7:rk=7
  ·subst q7
   obtain ⟨o1,ho1⟩:∃b,onlyB ⟨7,rc,rv,rok,nm⟩ false true=b:=⟨_,rfl⟩;have T:=Lib.hid (TO.out false true);rw [ho1] at T;have HO1:=Lib.hid ho1;clear ho1;obtain ⟨ex,hex⟩:∃b,exB l ch=b:=⟨_,rfl⟩;rw [hex] at TE;have HEX:=Lib.hid hex;clear hex;by_cases k5:kd=5
   ·subst k5
    go_wp2_with fail;refine (TE.out _ HB.out).mono ?_; rintro e w' ⟨rfl,rfl⟩;cases ex with
    | false=>
     by_cases c1:rc=-1
     ·subst c1
      cases o1 with
      | false=>
       have hr:Hid (lo=none):=by show _=_; rw [← HLO.out]; simp [HO1.out]
       go_upto_region 32 with fail
       have Xx0_0:=ext_cell _ _ ((ltR R0)) _ x0_0;have Xx0_1:=ext_cell _ _ ((ltR R0)) _ x0_1;have Xx0_2:=ext_cell _ _ ((ltR R0)) _ x0_2;have Xx0_3:=ext_cell _ _ ((ltR R0)) _ x0_3;have Xx0_4:=ext_cell _ _ ((ltR R0)) _ x0_4;have Xx0_5:=ext_cell _ _ ((ltR R0)) _ x0_5;have Xx0_6:=ext_cell _ _ ((ltR R0)) _ x0_6;have Xx1_0:=ext_cell _ _ ((ltR R1)) _ x1_0;have Xx1_1:=ext_cell _ _ ((ltR R1)) _ x1_1;have Xx1_2:=ext_cell _ _ ((ltR R1)) _ x1_2;have Xx1_3:=ext_cell _ _ ((ltR R1)) _ x1_3;have Xx1_4:=ext_cell _ _ ((ltR R1)) _ x1_4;clear x0_0 x0_1 x0_2 x0_3 x0_4 x0_5 x0_6 x1_0 x1_1 x1_2 x1_3 x1_4;refine wp_region_ext W (by kernel_rfl) (by kernel_rfl) (Below.refl _ _) ?_
       repeat (go_big_quiet_step (first | (go_at_call 107; with_reducible exact calls_ext (T.out _))))
       refine wpQuiet_nil ?_;intro _ hw';obtain ⟨n9,rfl⟩:=hw';have HB9:=Lib.hid n9.below;generalize n9.wd=w9 at *;clear Xx0_0 Xx0_1 Xx0_2 Xx0_3 Xx0_4 Xx0_5 Xx0_6 Xx1_0 Xx1_1 Xx1_2 Xx1_3 Xx1_4;go_wp2_with fail
       first | refine bodyPost_ret (v:=.tuple #[.slice a l.length cap,.bool false]) (by simp [results,Try.results89,go_sem]) rfl ?_ | refine bodyPost_ret (v:=.tuple #[.slice (some ⟨b,off,none⟩) l.length cap,.bool false]) (by simp [results,Try.results89,go_sem]) rfl ?_
       exact HNONE.out hr.out _ _ _ HB9.out rfl
      | true=>
       by_cases n1:nm=0
       ·have n1b:(nm == 0)=true:=by simpa using n1
        have hr:Hid (lo=some l):=by show _=_; rw [← HLO.out]; simp [HO1.out,HEX.out,eq_true n1]
        clear n1;go_upto_region 32 with fail
        have Xx0_0:=ext_cell _ _ ((ltR R0)) _ x0_0;have Xx0_1:=ext_cell _ _ ((ltR R0)) _ x0_1;have Xx0_2:=ext_cell _ _ ((ltR R0)) _ x0_2;have Xx0_3:=ext_cell _ _ ((ltR R0)) _ x0_3;have Xx0_4:=ext_cell _ _ ((ltR R0)) _ x0_4;have Xx0_5:=ext_cell _ _ ((ltR R0)) _ x0_5;have Xx0_6:=ext_cell _ _ ((ltR R0)) _ x0_6;have Xx1_0:=ext_cell _ _ ((ltR R1)) _ x1_0;have Xx1_1:=ext_cell _ _ ((ltR R1)) _ x1_1;have Xx1_2:=ext_cell _ _ ((ltR R1)) _ x1_2;have Xx1_3:=ext_cell _ _ ((ltR R1)) _ x1_3;have Xx1_4:=ext_cell _ _ ((ltR R1)) _ x1_4;clear x0_0 x0_1 x0_2 x0_3 x0_4 x0_5 x0_6 x1_0 x1_1 x1_2 x1_3 x1_4;refine wp_region_ext W (by kernel_rfl) (by kernel_rfl) (Below.refl _ _) ?_
        repeat (go_big_quiet_step (first | (go_at_call 107; with_reducible exact calls_ext (T.out _))))
        refine wpQuiet_nil ?_;intro _ hw';obtain ⟨n9,rfl⟩:=hw';have HB9:=Lib.hid n9.below;generalize n9.wd=w9 at *;clear Xx0_0 Xx0_1 Xx0_2 Xx0_3 Xx0_4 Xx0_5 Xx0_6 Xx1_0 Xx1_1 Xx1_2 Xx1_3 Xx1_4;go_wp2_with fail
        first | refine bodyPost_ret (v:=.tuple #[.slice a l.length cap,.bool true]) (by simp [results,Try.results89,go_sem]) rfl ?_ | refine bodyPost_ret (v:=.tuple #[.slice (some ⟨b,off,none⟩) l.length cap,.bool true]) (by simp [results,Try.results89,go_sem]) rfl ?_
        exact HSAME.out hr.out _ _ HB9.out rfl
       ·have n1b:(nm == 0)=false:=by simpa using n1
        have hr:Hid (lo=none):=by show _=_; rw [← HLO.out]; simp [HO1.out,HEX.out,n1]
        clear n1;go_upto_region 32 with fail
        have Xx0_0:=ext_cell _ _ ((ltR R0)) _ x0_0;have Xx0_1:=ext_cell _ _ ((ltR R0)) _ x0_1;have Xx0_2:=ext_cell _ _ ((ltR R0)) _ x0_2;have Xx0_3:=ext_cell _ _ ((ltR R0)) _ x0_3;have Xx0_4:=ext_cell _ _ ((ltR R0)) _ x0_4;have Xx0_5:=ext_cell _ _ ((ltR R0)) _ x0_5;have Xx0_6:=ext_cell _ _ ((ltR R0)) _ x0_6;have Xx1_0:=ext_cell _ _ ((ltR R1)) _ x1_0;have Xx1_1:=ext_cell _ _ ((ltR R1)) _ x1_1;have Xx1_2:=ext_cell _ _ ((ltR R1)) _ x1_2;have Xx1_3:=ext_cell _ _ ((ltR R1)) _ x1_3;have Xx1_4:=ext_cell _ _ ((ltR R1)) _ x1_4;clear x0_0 x0_1 x0_2 x0_3 x0_4 x0_5 x0_6 x1_0 x1_1 x1_2 x1_3 x1_4;refine wp_region_ext W (by kernel_rfl) (by kernel_rfl) (Below.refl _ _) ?_
        repeat (go_big_quiet_step (first | (go_at_call 107; with_reducible exact calls_ext (T.out _))))
        refine wpQuiet_nil ?_;intro _ hw';obtain ⟨n9,rfl⟩:=hw';have HB9:=Lib.hid n9.below;generalize n9.wd=w9 at *;clear Xx0_0 Xx0_1 Xx0_2 Xx0_3 Xx0_4 Xx0_5 Xx0_6 Xx1_0 Xx1_1 Xx1_2 Xx1_3 Xx1_4;go_wp2_with fail
        first | refine bodyPost_ret (v:=.tuple #[.slice a l.length cap,.bool false]) (by simp [results,Try.results89,go_sem]) rfl ?_ | refine bodyPost_ret (v:=.tuple #[.slice (some ⟨b,off,none⟩) l.length cap,.bool false]) (by simp [results,Try.results89,go_sem]) rfl ?_
        exact HNONE.out hr.out _ _ _ HB9.out rfl
     have c1b:(rc == -1)=false:=by simpa using c1
     have hr:Hid (lo=none):=by show _=_; rw [← HLO.out]; simp [c1]
     go_upto_region 32 with fail
     have Xx0_0:=ext_cell _ _ ((ltR R0)) _ x0_0;have Xx0_1:=ext_cell _ _ ((ltR R0)) _ x0_1;have Xx0_2:=ext_cell _ _ ((ltR R0)) _ x0_2;have Xx0_3:=ext_cell _ _ ((ltR R0)) _ x0_3;have Xx0_4:=ext_cell _ _ ((ltR R0)) _ x0_4;have Xx0_5:=ext_cell _ _ ((ltR R0)) _ x0_5;have Xx0_6:=ext_cell _ _ ((ltR R0)) _ x0_6;have Xx1_0:=ext_cell _ _ ((ltR R1)) _ x1_0;have Xx1_1:=ext_cell _ _ ((ltR R1)) _ x1_1;have Xx1_2:=ext_cell _ _ ((ltR R1)) _ x1_2;have Xx1_3:=ext_cell _ _ ((ltR R1)) _ x1_3;have Xx1_4:=ext_cell _ _ ((ltR R1)) _ x1_4;clear x0_0 x0_1 x0_2 x0_3 x0_4 x0_5 x0_6 x1_0 x1_1 x1_2 x1_3 x1_4;refine wp_region_ext W (by kernel_rfl) (by kernel_rfl) (Below.refl _ _) ?_
     repeat (go_big_quiet_step (first | (go_at_call 107; with_reducible exact calls_ext (T.out _))))
     refine wpQuiet_nil ?_;intro _ hw';obtain ⟨n9,rfl⟩:=hw';have HB9:=Lib.hid n9.below;generalize n9.wd=w9 at *;clear Xx0_0 Xx0_1 Xx0_2 Xx0_3 Xx0_4 Xx0_5 Xx0_6 Xx1_0 Xx1_1 Xx1_2 Xx1_3 Xx1_4;go_wp2_with fail
     first | refine bodyPost_ret (v:=.tuple #[.slice a l.length cap,.bool false]) (by simp [results,Try.results89,go_sem]) rfl ?_ | refine bodyPost_ret (v:=.tuple #[.slice (some ⟨b,off,none⟩) l.length cap,.bool false]) (by simp [results,Try.results89,go_sem]) rfl ?_
     exact HNONE.out hr.out _ _ _ HB9.out rfl
    | true=>
     have hx:=HEX.out;unfold exB at hx;simp only [Bool.and_eq_true,decide_eq_true_eq] at hx;obtain ⟨i,hi⟩:∃i:Nat,ch=(i:Int):=⟨ch.toNat,by omega⟩;subst hi;have hil:i<l.length:=by omega
     have hiI:(i:Int)<(l.length:Int):=by omega
     obtain ⟨⟨cc,bf,cl⟩,hcc⟩:∃c,l.getD i noChan=c:=⟨_,rfl⟩;have HCE:Hid (chE l (i:Int)=⟨cc,bf,cl⟩):=by
      show l.getD (Int.toNat (i:Int)) noChan=_;rw [Int.toNat_natCast,hcc]
     have hmem:(⟨cc,bf,cl⟩:ChanM)∈l:=by
      rw [← hcc,List.getD_eq_getElem?_getD,List.getElem?_eq_getElem hil];exact List.getElem_mem hil
     have HCW:Hid (cc=IntKind.i64.wrap cc):=by
      obtain ⟨us,-,-,-,h4,-⟩:=HV.out;exact h4 _ hmem
     have TS:=Lib.hid fun c u w' (hb:Below w.heap.size w w') hu hcw=>mset_any _ l i hil c u w' (HV.out.below hb) hu hcw HL.out;obtain ⟨b,off,cap',u,hve,hbb,c0,c1,c2,hu,hfu⟩:=(HV.out.below (HB.out)).at2 i hil;simp only [Value.slice.injEq] at hve;obtain ⟨rfl,-,rfl⟩:=hve;rw [hcc] at c0 c2 hu;dsimp only at c0 c2 hu;obtain ⟨ua,uc,rfl,-⟩:=hu.len;have HU:=Lib.hid hu;have HUF:Hid (SlU _ (.slice ua bf.length uc) bf):=⟨HU.out,hfu⟩;clear hfu hx hcc hmem hu;by_cases cq:rc=-1
     ·subst cq
      cases o1 with
      | false=>
       have hr:Hid (lo=none):=by show _=_; rw [← HLO.out]; simp [HO1.out]
       go_upto_region 32 with fail
       have Xx0_0:=ext_cell _ _ ((ltR R0)) _ x0_0;have Xx0_1:=ext_cell _ _ ((ltR R0)) _ x0_1;have Xx0_2:=ext_cell _ _ ((ltR R0)) _ x0_2;have Xx0_3:=ext_cell _ _ ((ltR R0)) _ x0_3;have Xx0_4:=ext_cell _ _ ((ltR R0)) _ x0_4;have Xx0_5:=ext_cell _ _ ((ltR R0)) _ x0_5;have Xx0_6:=ext_cell _ _ ((ltR R0)) _ x0_6;have Xx1_0:=ext_cell _ _ ((ltR R1)) _ x1_0;have Xx1_1:=ext_cell _ _ ((ltR R1)) _ x1_1;have Xx1_2:=ext_cell _ _ ((ltR R1)) _ x1_2;have Xx1_3:=ext_cell _ _ ((ltR R1)) _ x1_3;have Xx1_4:=ext_cell _ _ ((ltR R1)) _ x1_4;have Xc0:=ext_cell _ _ (hbb) _ c0;have Xc1:=ext_cell _ _ (hbb) _ c1;have Xc2:=ext_cell _ _ (hbb) _ c2;clear x0_0 x0_1 x0_2 x0_3 x0_4 x0_5 x0_6 x1_0 x1_1 x1_2 x1_3 x1_4 c0 c1 c2;refine wp_region_ext W (by kernel_rfl) (by kernel_rfl) (Below.refl _ _) ?_
       repeat (go_big_quiet_step (first | (go_at_call 107; with_reducible exact calls_ext (T.out _))))
       refine wpQuiet_nil ?_;intro _ hw';obtain ⟨n9,rfl⟩:=hw';have HB9:=Lib.hid n9.below;generalize n9.wd=w9 at *;clear Xx0_0 Xx0_1 Xx0_2 Xx0_3 Xx0_4 Xx0_5 Xx0_6 Xx1_0 Xx1_1 Xx1_2 Xx1_3 Xx1_4 Xc0 Xc1 Xc2;go_wp2_with fail
       first | refine bodyPost_ret (v:=.tuple #[.slice a l.length cap,.bool false]) (by simp [results,Try.results89,go_sem]) rfl ?_ | refine bodyPost_ret (v:=.tuple #[.slice (some ⟨b,off,none⟩) l.length cap,.bool false]) (by simp [results,Try.results89,go_sem]) rfl ?_
       exact HNONE.out hr.out _ _ _ HB9.out rfl
      | true=>
       by_cases n1:nm=(bf.length:Int)
       ·have n1b:(nm == (bf.length:Int))=true:=by simpa using n1
        have hr:Hid (lo=some l):=by show _=_; rw [← HLO.out]; simp [HO1.out,HEX.out,HCE.out,eq_true n1]
        clear n1;go_upto_region 32 with fail
        have Xx0_0:=ext_cell _ _ ((ltR R0)) _ x0_0;have Xx0_1:=ext_cell _ _ ((ltR R0)) _ x0_1;have Xx0_2:=ext_cell _ _ ((ltR R0)) _ x0_2;have Xx0_3:=ext_cell _ _ ((ltR R0)) _ x0_3;have Xx0_4:=ext_cell _ _ ((ltR R0)) _ x0_4;have Xx0_5:=ext_cell _ _ ((ltR R0)) _ x0_5;have Xx0_6:=ext_cell _ _ ((ltR R0)) _ x0_6;have Xx1_0:=ext_cell _ _ ((ltR R1)) _ x1_0;have Xx1_1:=ext_cell _ _ ((ltR R1)) _ x1_1;have Xx1_2:=ext_cell _ _ ((ltR R1)) _ x1_2;have Xx1_3:=ext_cell _ _ ((ltR R1)) _ x1_3;have Xx1_4:=ext_cell _ _ ((ltR R1)) _ x1_4;have Xc0:=ext_cell _ _ (hbb) _ c0;have Xc1:=ext_cell _ _ (hbb) _ c1;have Xc2:=ext_cell _ _ (hbb) _ c2;clear x0_0 x0_1 x0_2 x0_3 x0_4 x0_5 x0_6 x1_0 x1_1 x1_2 x1_3 x1_4 c0 c1 c2;refine wp_region_ext W (by kernel_rfl) (by kernel_rfl) (Below.refl _ _) ?_
        repeat (go_big_quiet_step (first | (go_at_call 107; with_reducible exact calls_ext (T.out _))))
        refine wpQuiet_nil ?_;intro _ hw';obtain ⟨n9,rfl⟩:=hw';have HB9:=Lib.hid n9.below;generalize n9.wd=w9 at *;clear Xx0_0 Xx0_1 Xx0_2 Xx0_3 Xx0_4 Xx0_5 Xx0_6 Xx1_0 Xx1_1 Xx1_2 Xx1_3 Xx1_4 Xc0 Xc1 Xc2;go_wp2_with fail
        first | refine bodyPost_ret (v:=.tuple #[.slice a l.length cap,.bool true]) (by simp [results,Try.results89,go_sem]) rfl ?_ | refine bodyPost_ret (v:=.tuple #[.slice (some ⟨b,off,none⟩) l.length cap,.bool true]) (by simp [results,Try.results89,go_sem]) rfl ?_
        exact HSAME.out hr.out _ _ HB9.out rfl
       ·have n1b:(nm == (bf.length:Int))=false:=by simpa using n1
        have hr:Hid (lo=none):=by show _=_; rw [← HLO.out]; simp [HO1.out,HEX.out,HCE.out,n1]
        clear n1;go_upto_region 32 with fail
        have Xx0_0:=ext_cell _ _ ((ltR R0)) _ x0_0;have Xx0_1:=ext_cell _ _ ((ltR R0)) _ x0_1;have Xx0_2:=ext_cell _ _ ((ltR R0)) _ x0_2;have Xx0_3:=ext_cell _ _ ((ltR R0)) _ x0_3;have Xx0_4:=ext_cell _ _ ((ltR R0)) _ x0_4;have Xx0_5:=ext_cell _ _ ((ltR R0)) _ x0_5;have Xx0_6:=ext_cell _ _ ((ltR R0)) _ x0_6;have Xx1_0:=ext_cell _ _ ((ltR R1)) _ x1_0;have Xx1_1:=ext_cell _ _ ((ltR R1)) _ x1_1;have Xx1_2:=ext_cell _ _ ((ltR R1)) _ x1_2;have Xx1_3:=ext_cell _ _ ((ltR R1)) _ x1_3;have Xx1_4:=ext_cell _ _ ((ltR R1)) _ x1_4;have Xc0:=ext_cell _ _ (hbb) _ c0;have Xc1:=ext_cell _ _ (hbb) _ c1;have Xc2:=ext_cell _ _ (hbb) _ c2;clear x0_0 x0_1 x0_2 x0_3 x0_4 x0_5 x0_6 x1_0 x1_1 x1_2 x1_3 x1_4 c0 c1 c2;refine wp_region_ext W (by kernel_rfl) (by kernel_rfl) (Below.refl _ _) ?_
        repeat (go_big_quiet_step (first | (go_at_call 107; with_reducible exact calls_ext (T.out _))))
        refine wpQuiet_nil ?_;intro _ hw';obtain ⟨n9,rfl⟩:=hw';have HB9:=Lib.hid n9.below;generalize n9.wd=w9 at *;clear Xx0_0 Xx0_1 Xx0_2 Xx0_3 Xx0_4 Xx0_5 Xx0_6 Xx1_0 Xx1_1 Xx1_2 Xx1_3 Xx1_4 Xc0 Xc1 Xc2;go_wp2_with fail
        first | refine bodyPost_ret (v:=.tuple #[.slice a l.length cap,.bool false]) (by simp [results,Try.results89,go_sem]) rfl ?_ | refine bodyPost_ret (v:=.tuple #[.slice (some ⟨b,off,none⟩) l.length cap,.bool false]) (by simp [results,Try.results89,go_sem]) rfl ?_
        exact HNONE.out hr.out _ _ _ HB9.out rfl
     have cqb:(rc == -1)=false:=by simpa using cq
     have hr:Hid (lo=none):=by show _=_; rw [← HLO.out]; simp [cq]
     go_upto_region 32 with fail
     have Xx0_0:=ext_cell _ _ ((ltR R0)) _ x0_0;have Xx0_1:=ext_cell _ _ ((ltR R0)) _ x0_1;have Xx0_2:=ext_cell _ _ ((ltR R0)) _ x0_2;have Xx0_3:=ext_cell _ _ ((ltR R0)) _ x0_3;have Xx0_4:=ext_cell _ _ ((ltR R0)) _ x0_4;have Xx0_5:=ext_cell _ _ ((ltR R0)) _ x0_5;have Xx0_6:=ext_cell _ _ ((ltR R0)) _ x0_6;have Xx1_0:=ext_cell _ _ ((ltR R1)) _ x1_0;have Xx1_1:=ext_cell _ _ ((ltR R1)) _ x1_1;have Xx1_2:=ext_cell _ _ ((ltR R1)) _ x1_2;have Xx1_3:=ext_cell _ _ ((ltR R1)) _ x1_3;have Xx1_4:=ext_cell _ _ ((ltR R1)) _ x1_4;have Xc0:=ext_cell _ _ (hbb) _ c0;have Xc1:=ext_cell _ _ (hbb) _ c1;have Xc2:=ext_cell _ _ (hbb) _ c2;clear x0_0 x0_1 x0_2 x0_3 x0_4 x0_5 x0_6 x1_0 x1_1 x1_2 x1_3 x1_4 c0 c1 c2;refine wp_region_ext W (by kernel_rfl) (by kernel_rfl) (Below.refl _ _) ?_
     repeat (go_big_quiet_step (first | (go_at_call 107; with_reducible exact calls_ext (T.out _))))
     refine wpQuiet_nil ?_;intro _ hw';obtain ⟨n9,rfl⟩:=hw';have HB9:=Lib.hid n9.below;generalize n9.wd=w9 at *;clear Xx0_0 Xx0_1 Xx0_2 Xx0_3 Xx0_4 Xx0_5 Xx0_6 Xx1_0 Xx1_1 Xx1_2 Xx1_3 Xx1_4 Xc0 Xc1 Xc2;go_wp2_with fail
     first | refine bodyPost_ret (v:=.tuple #[.slice a l.length cap,.bool false]) (by simp [results,Try.results89,go_sem]) rfl ?_ | refine bodyPost_ret (v:=.tuple #[.slice (some ⟨b,off,none⟩) l.length cap,.bool false]) (by simp [results,Try.results89,go_sem]) rfl ?_
     exact HNONE.out hr.out _ _ _ HB9.out rfl
   have k5b:(kd == 5)=false:=by simpa using k5
   by_cases k6:kd=6
   ·subst k6
    go_wp2_with fail;refine (TE.out _ HB.out).mono ?_; rintro e w' ⟨rfl,rfl⟩;cases ex with
    | false=>
     by_cases c1:rc=-1
     ·subst c1
      cases o1 with
      | false=>
       have hr:Hid (lo=none):=by show _=_; rw [← HLO.out]; simp [HO1.out]
       go_upto_region 32 with fail
       have Xx0_0:=ext_cell _ _ ((ltR R0)) _ x0_0;have Xx0_1:=ext_cell _ _ ((ltR R0)) _ x0_1;have Xx0_2:=ext_cell _ _ ((ltR R0)) _ x0_2;have Xx0_3:=ext_cell _ _ ((ltR R0)) _ x0_3;have Xx0_4:=ext_cell _ _ ((ltR R0)) _ x0_4;have Xx0_5:=ext_cell _ _ ((ltR R0)) _ x0_5;have Xx0_6:=ext_cell _ _ ((ltR R0)) _ x0_6;have Xx1_0:=ext_cell _ _ ((ltR R1)) _ x1_0;have Xx1_1:=ext_cell _ _ ((ltR R1)) _ x1_1;have Xx1_2:=ext_cell _ _ ((ltR R1)) _ x1_2;have Xx1_3:=ext_cell _ _ ((ltR R1)) _ x1_3;have Xx1_4:=ext_cell _ _ ((ltR R1)) _ x1_4;clear x0_0 x0_1 x0_2 x0_3 x0_4 x0_5 x0_6 x1_0 x1_1 x1_2 x1_3 x1_4;refine wp_region_ext W (by kernel_rfl) (by kernel_rfl) (Below.refl _ _) ?_
       repeat (go_big_quiet_step (first | (go_at_call 107; with_reducible exact calls_ext (T.out _))))
       refine wpQuiet_nil ?_;intro _ hw';obtain ⟨n9,rfl⟩:=hw';have HB9:=Lib.hid n9.below;generalize n9.wd=w9 at *;clear Xx0_0 Xx0_1 Xx0_2 Xx0_3 Xx0_4 Xx0_5 Xx0_6 Xx1_0 Xx1_1 Xx1_2 Xx1_3 Xx1_4;go_wp2_with fail
       first | refine bodyPost_ret (v:=.tuple #[.slice a l.length cap,.bool false]) (by simp [results,Try.results89,go_sem]) rfl ?_ | refine bodyPost_ret (v:=.tuple #[.slice (some ⟨b,off,none⟩) l.length cap,.bool false]) (by simp [results,Try.results89,go_sem]) rfl ?_
       exact HNONE.out hr.out _ _ _ HB9.out rfl
      | true=>
       by_cases n1:nm=0
       ·have n1b:(nm == 0)=true:=by simpa using n1
        have hr:Hid (lo=some l):=by show _=_; rw [← HLO.out]; simp [HO1.out,HEX.out,eq_true n1]
        clear n1;go_upto_region 32 with fail
        have Xx0_0:=ext_cell _ _ ((ltR R0)) _ x0_0;have Xx0_1:=ext_cell _ _ ((ltR R0)) _ x0_1;have Xx0_2:=ext_cell _ _ ((ltR R0)) _ x0_2;have Xx0_3:=ext_cell _ _ ((ltR R0)) _ x0_3;have Xx0_4:=ext_cell _ _ ((ltR R0)) _ x0_4;have Xx0_5:=ext_cell _ _ ((ltR R0)) _ x0_5;have Xx0_6:=ext_cell _ _ ((ltR R0)) _ x0_6;have Xx1_0:=ext_cell _ _ ((ltR R1)) _ x1_0;have Xx1_1:=ext_cell _ _ ((ltR R1)) _ x1_1;have Xx1_2:=ext_cell _ _ ((ltR R1)) _ x1_2;have Xx1_3:=ext_cell _ _ ((ltR R1)) _ x1_3;have Xx1_4:=ext_cell _ _ ((ltR R1)) _ x1_4;clear x0_0 x0_1 x0_2 x0_3 x0_4 x0_5 x0_6 x1_0 x1_1 x1_2 x1_3 x1_4;refine wp_region_ext W (by kernel_rfl) (by kernel_rfl) (Below.refl _ _) ?_
        repeat (go_big_quiet_step (first | (go_at_call 107; with_reducible exact calls_ext (T.out _))))
        refine wpQuiet_nil ?_;intro _ hw';obtain ⟨n9,rfl⟩:=hw';have HB9:=Lib.hid n9.below;generalize n9.wd=w9 at *;clear Xx0_0 Xx0_1 Xx0_2 Xx0_3 Xx0_4 Xx0_5 Xx0_6 Xx1_0 Xx1_1 Xx1_2 Xx1_3 Xx1_4;go_wp2_with fail
        first | refine bodyPost_ret (v:=.tuple #[.slice a l.length cap,.bool true]) (by simp [results,Try.results89,go_sem]) rfl ?_ | refine bodyPost_ret (v:=.tuple #[.slice (some ⟨b,off,none⟩) l.length cap,.bool true]) (by simp [results,Try.results89,go_sem]) rfl ?_
        exact HSAME.out hr.out _ _ HB9.out rfl
       ·have n1b:(nm == 0)=false:=by simpa using n1
        have hr:Hid (lo=none):=by show _=_; rw [← HLO.out]; simp [HO1.out,HEX.out,n1]
        clear n1;go_upto_region 32 with fail
        have Xx0_0:=ext_cell _ _ ((ltR R0)) _ x0_0;have Xx0_1:=ext_cell _ _ ((ltR R0)) _ x0_1;have Xx0_2:=ext_cell _ _ ((ltR R0)) _ x0_2;have Xx0_3:=ext_cell _ _ ((ltR R0)) _ x0_3;have Xx0_4:=ext_cell _ _ ((ltR R0)) _ x0_4;have Xx0_5:=ext_cell _ _ ((ltR R0)) _ x0_5;have Xx0_6:=ext_cell _ _ ((ltR R0)) _ x0_6;have Xx1_0:=ext_cell _ _ ((ltR R1)) _ x1_0;have Xx1_1:=ext_cell _ _ ((ltR R1)) _ x1_1;have Xx1_2:=ext_cell _ _ ((ltR R1)) _ x1_2;have Xx1_3:=ext_cell _ _ ((ltR R1)) _ x1_3;have Xx1_4:=ext_cell _ _ ((ltR R1)) _ x1_4;clear x0_0 x0_1 x0_2 x0_3 x0_4 x0_5 x0_6 x1_0 x1_1 x1_2 x1_3 x1_4;refine wp_region_ext W (by kernel_rfl) (by kernel_rfl) (Below.refl _ _) ?_
        repeat (go_big_quiet_step (first | (go_at_call 107; with_reducible exact calls_ext (T.out _))))
        refine wpQuiet_nil ?_;intro _ hw';obtain ⟨n9,rfl⟩:=hw';have HB9:=Lib.hid n9.below;generalize n9.wd=w9 at *;clear Xx0_0 Xx0_1 Xx0_2 Xx0_3 Xx0_4 Xx0_5 Xx0_6 Xx1_0 Xx1_1 Xx1_2 Xx1_3 Xx1_4;go_wp2_with fail
        first | refine bodyPost_ret (v:=.tuple #[.slice a l.length cap,.bool false]) (by simp [results,Try.results89,go_sem]) rfl ?_ | refine bodyPost_ret (v:=.tuple #[.slice (some ⟨b,off,none⟩) l.length cap,.bool false]) (by simp [results,Try.results89,go_sem]) rfl ?_
        exact HNONE.out hr.out _ _ _ HB9.out rfl
     have c1b:(rc == -1)=false:=by simpa using c1
     have hr:Hid (lo=none):=by show _=_; rw [← HLO.out]; simp [c1]
     go_upto_region 32 with fail
     have Xx0_0:=ext_cell _ _ ((ltR R0)) _ x0_0;have Xx0_1:=ext_cell _ _ ((ltR R0)) _ x0_1;have Xx0_2:=ext_cell _ _ ((ltR R0)) _ x0_2;have Xx0_3:=ext_cell _ _ ((ltR R0)) _ x0_3;have Xx0_4:=ext_cell _ _ ((ltR R0)) _ x0_4;have Xx0_5:=ext_cell _ _ ((ltR R0)) _ x0_5;have Xx0_6:=ext_cell _ _ ((ltR R0)) _ x0_6;have Xx1_0:=ext_cell _ _ ((ltR R1)) _ x1_0;have Xx1_1:=ext_cell _ _ ((ltR R1)) _ x1_1;have Xx1_2:=ext_cell _ _ ((ltR R1)) _ x1_2;have Xx1_3:=ext_cell _ _ ((ltR R1)) _ x1_3;have Xx1_4:=ext_cell _ _ ((ltR R1)) _ x1_4;clear x0_0 x0_1 x0_2 x0_3 x0_4 x0_5 x0_6 x1_0 x1_1 x1_2 x1_3 x1_4;refine wp_region_ext W (by kernel_rfl) (by kernel_rfl) (Below.refl _ _) ?_
     repeat (go_big_quiet_step (first | (go_at_call 107; with_reducible exact calls_ext (T.out _))))
     refine wpQuiet_nil ?_;intro _ hw';obtain ⟨n9,rfl⟩:=hw';have HB9:=Lib.hid n9.below;generalize n9.wd=w9 at *;clear Xx0_0 Xx0_1 Xx0_2 Xx0_3 Xx0_4 Xx0_5 Xx0_6 Xx1_0 Xx1_1 Xx1_2 Xx1_3 Xx1_4;go_wp2_with fail
     first | refine bodyPost_ret (v:=.tuple #[.slice a l.length cap,.bool false]) (by simp [results,Try.results89,go_sem]) rfl ?_ | refine bodyPost_ret (v:=.tuple #[.slice (some ⟨b,off,none⟩) l.length cap,.bool false]) (by simp [results,Try.results89,go_sem]) rfl ?_
     exact HNONE.out hr.out _ _ _ HB9.out rfl
    | true=>
     have hx:=HEX.out;unfold exB at hx;simp only [Bool.and_eq_true,decide_eq_true_eq] at hx;obtain ⟨i,hi⟩:∃i:Nat,ch=(i:Int):=⟨ch.toNat,by omega⟩;subst hi;have hil:i<l.length:=by omega
     have hiI:(i:Int)<(l.length:Int):=by omega
     obtain ⟨⟨cc,bf,cl⟩,hcc⟩:∃c,l.getD i noChan=c:=⟨_,rfl⟩;have HCE:Hid (chE l (i:Int)=⟨cc,bf,cl⟩):=by
      show l.getD (Int.toNat (i:Int)) noChan=_;rw [Int.toNat_natCast,hcc]
     have hmem:(⟨cc,bf,cl⟩:ChanM)∈l:=by
      rw [← hcc,List.getD_eq_getElem?_getD,List.getElem?_eq_getElem hil];exact List.getElem_mem hil
     have HCW:Hid (cc=IntKind.i64.wrap cc):=by
      obtain ⟨us,-,-,-,h4,-⟩:=HV.out;exact h4 _ hmem
     have TS:=Lib.hid fun c u w' (hb:Below w.heap.size w w') hu hcw=>mset_any _ l i hil c u w' (HV.out.below hb) hu hcw HL.out;obtain ⟨b,off,cap',u,hve,hbb,c0,c1,c2,hu,hfu⟩:=(HV.out.below (HB.out)).at2 i hil;simp only [Value.slice.injEq] at hve;obtain ⟨rfl,-,rfl⟩:=hve;rw [hcc] at c0 c2 hu;dsimp only at c0 c2 hu;obtain ⟨ua,uc,rfl,-⟩:=hu.len;have HU:=Lib.hid hu;have HUF:Hid (SlU _ (.slice ua bf.length uc) bf):=⟨HU.out,hfu⟩;clear hfu hx hcc hmem hu;by_cases cq:rc=-1
     ·subst cq
      cases o1 with
      | false=>
       have hr:Hid (lo=none):=by show _=_; rw [← HLO.out]; simp [HO1.out]
       go_upto_region 32 with fail
       have Xx0_0:=ext_cell _ _ ((ltR R0)) _ x0_0;have Xx0_1:=ext_cell _ _ ((ltR R0)) _ x0_1;have Xx0_2:=ext_cell _ _ ((ltR R0)) _ x0_2;have Xx0_3:=ext_cell _ _ ((ltR R0)) _ x0_3;have Xx0_4:=ext_cell _ _ ((ltR R0)) _ x0_4;have Xx0_5:=ext_cell _ _ ((ltR R0)) _ x0_5;have Xx0_6:=ext_cell _ _ ((ltR R0)) _ x0_6;have Xx1_0:=ext_cell _ _ ((ltR R1)) _ x1_0;have Xx1_1:=ext_cell _ _ ((ltR R1)) _ x1_1;have Xx1_2:=ext_cell _ _ ((ltR R1)) _ x1_2;have Xx1_3:=ext_cell _ _ ((ltR R1)) _ x1_3;have Xx1_4:=ext_cell _ _ ((ltR R1)) _ x1_4;have Xc0:=ext_cell _ _ (hbb) _ c0;have Xc1:=ext_cell _ _ (hbb) _ c1;have Xc2:=ext_cell _ _ (hbb) _ c2;clear x0_0 x0_1 x0_2 x0_3 x0_4 x0_5 x0_6 x1_0 x1_1 x1_2 x1_3 x1_4 c0 c1 c2;refine wp_region_ext W (by kernel_rfl) (by kernel_rfl) (Below.refl _ _) ?_
       repeat (go_big_quiet_step (first | (go_at_call 107; with_reducible exact calls_ext (T.out _))))
       refine wpQuiet_nil ?_;intro _ hw';obtain ⟨n9,rfl⟩:=hw';have HB9:=Lib.hid n9.below;generalize n9.wd=w9 at *;clear Xx0_0 Xx0_1 Xx0_2 Xx0_3 Xx0_4 Xx0_5 Xx0_6 Xx1_0 Xx1_1 Xx1_2 Xx1_3 Xx1_4 Xc0 Xc1 Xc2;go_wp2_with fail
       first | refine bodyPost_ret (v:=.tuple #[.slice a l.length cap,.bool false]) (by simp [results,Try.results89,go_sem]) rfl ?_ | refine bodyPost_ret (v:=.tuple #[.slice (some ⟨b,off,none⟩) l.length cap,.bool false]) (by simp [results,Try.results89,go_sem]) rfl ?_
       exact HNONE.out hr.out _ _ _ HB9.out rfl
      | true=>
       by_cases n1:nm=cc
       ·have n1b:(nm == cc)=true:=by simpa using n1
        have hr:Hid (lo=some l):=by show _=_; rw [← HLO.out]; simp [HO1.out,HEX.out,HCE.out,eq_true n1]
        clear n1;go_upto_region 32 with fail
        have Xx0_0:=ext_cell _ _ ((ltR R0)) _ x0_0;have Xx0_1:=ext_cell _ _ ((ltR R0)) _ x0_1;have Xx0_2:=ext_cell _ _ ((ltR R0)) _ x0_2;have Xx0_3:=ext_cell _ _ ((ltR R0)) _ x0_3;have Xx0_4:=ext_cell _ _ ((ltR R0)) _ x0_4;have Xx0_5:=ext_cell _ _ ((ltR R0)) _ x0_5;have Xx0_6:=ext_cell _ _ ((ltR R0)) _ x0_6;have Xx1_0:=ext_cell _ _ ((ltR R1)) _ x1_0;have Xx1_1:=ext_cell _ _ ((ltR R1)) _ x1_1;have Xx1_2:=ext_cell _ _ ((ltR R1)) _ x1_2;have Xx1_3:=ext_cell _ _ ((ltR R1)) _ x1_3;have Xx1_4:=ext_cell _ _ ((ltR R1)) _ x1_4;have Xc0:=ext_cell _ _ (hbb) _ c0;have Xc1:=ext_cell _ _ (hbb) _ c1;have Xc2:=ext_cell _ _ (hbb) _ c2;clear x0_0 x0_1 x0_2 x0_3 x0_4 x0_5 x0_6 x1_0 x1_1 x1_2 x1_3 x1_4 c0 c1 c2;refine wp_region_ext W (by kernel_rfl) (by kernel_rfl) (Below.refl _ _) ?_
        repeat (go_big_quiet_step (first | (go_at_call 107; with_reducible exact calls_ext (T.out _))))
        refine wpQuiet_nil ?_;intro _ hw';obtain ⟨n9,rfl⟩:=hw';have HB9:=Lib.hid n9.below;generalize n9.wd=w9 at *;clear Xx0_0 Xx0_1 Xx0_2 Xx0_3 Xx0_4 Xx0_5 Xx0_6 Xx1_0 Xx1_1 Xx1_2 Xx1_3 Xx1_4 Xc0 Xc1 Xc2;go_wp2_with fail
        first | refine bodyPost_ret (v:=.tuple #[.slice a l.length cap,.bool true]) (by simp [results,Try.results89,go_sem]) rfl ?_ | refine bodyPost_ret (v:=.tuple #[.slice (some ⟨b,off,none⟩) l.length cap,.bool true]) (by simp [results,Try.results89,go_sem]) rfl ?_
        exact HSAME.out hr.out _ _ HB9.out rfl
       ·have n1b:(nm == cc)=false:=by simpa using n1
        have hr:Hid (lo=none):=by show _=_; rw [← HLO.out]; simp [HO1.out,HEX.out,HCE.out,n1]
        clear n1;go_upto_region 32 with fail
        have Xx0_0:=ext_cell _ _ ((ltR R0)) _ x0_0;have Xx0_1:=ext_cell _ _ ((ltR R0)) _ x0_1;have Xx0_2:=ext_cell _ _ ((ltR R0)) _ x0_2;have Xx0_3:=ext_cell _ _ ((ltR R0)) _ x0_3;have Xx0_4:=ext_cell _ _ ((ltR R0)) _ x0_4;have Xx0_5:=ext_cell _ _ ((ltR R0)) _ x0_5;have Xx0_6:=ext_cell _ _ ((ltR R0)) _ x0_6;have Xx1_0:=ext_cell _ _ ((ltR R1)) _ x1_0;have Xx1_1:=ext_cell _ _ ((ltR R1)) _ x1_1;have Xx1_2:=ext_cell _ _ ((ltR R1)) _ x1_2;have Xx1_3:=ext_cell _ _ ((ltR R1)) _ x1_3;have Xx1_4:=ext_cell _ _ ((ltR R1)) _ x1_4;have Xc0:=ext_cell _ _ (hbb) _ c0;have Xc1:=ext_cell _ _ (hbb) _ c1;have Xc2:=ext_cell _ _ (hbb) _ c2;clear x0_0 x0_1 x0_2 x0_3 x0_4 x0_5 x0_6 x1_0 x1_1 x1_2 x1_3 x1_4 c0 c1 c2;refine wp_region_ext W (by kernel_rfl) (by kernel_rfl) (Below.refl _ _) ?_
        repeat (go_big_quiet_step (first | (go_at_call 107; with_reducible exact calls_ext (T.out _))))
        refine wpQuiet_nil ?_;intro _ hw';obtain ⟨n9,rfl⟩:=hw';have HB9:=Lib.hid n9.below;generalize n9.wd=w9 at *;clear Xx0_0 Xx0_1 Xx0_2 Xx0_3 Xx0_4 Xx0_5 Xx0_6 Xx1_0 Xx1_1 Xx1_2 Xx1_3 Xx1_4 Xc0 Xc1 Xc2;go_wp2_with fail
        first | refine bodyPost_ret (v:=.tuple #[.slice a l.length cap,.bool false]) (by simp [results,Try.results89,go_sem]) rfl ?_ | refine bodyPost_ret (v:=.tuple #[.slice (some ⟨b,off,none⟩) l.length cap,.bool false]) (by simp [results,Try.results89,go_sem]) rfl ?_
        exact HNONE.out hr.out _ _ _ HB9.out rfl
     have cqb:(rc == -1)=false:=by simpa using cq
     have hr:Hid (lo=none):=by show _=_; rw [← HLO.out]; simp [cq]
     go_upto_region 32 with fail
     have Xx0_0:=ext_cell _ _ ((ltR R0)) _ x0_0;have Xx0_1:=ext_cell _ _ ((ltR R0)) _ x0_1;have Xx0_2:=ext_cell _ _ ((ltR R0)) _ x0_2;have Xx0_3:=ext_cell _ _ ((ltR R0)) _ x0_3;have Xx0_4:=ext_cell _ _ ((ltR R0)) _ x0_4;have Xx0_5:=ext_cell _ _ ((ltR R0)) _ x0_5;have Xx0_6:=ext_cell _ _ ((ltR R0)) _ x0_6;have Xx1_0:=ext_cell _ _ ((ltR R1)) _ x1_0;have Xx1_1:=ext_cell _ _ ((ltR R1)) _ x1_1;have Xx1_2:=ext_cell _ _ ((ltR R1)) _ x1_2;have Xx1_3:=ext_cell _ _ ((ltR R1)) _ x1_3;have Xx1_4:=ext_cell _ _ ((ltR R1)) _ x1_4;have Xc0:=ext_cell _ _ (hbb) _ c0;have Xc1:=ext_cell _ _ (hbb) _ c1;have Xc2:=ext_cell _ _ (hbb) _ c2;clear x0_0 x0_1 x0_2 x0_3 x0_4 x0_5 x0_6 x1_0 x1_1 x1_2 x1_3 x1_4 c0 c1 c2;refine wp_region_ext W (by kernel_rfl) (by kernel_rfl) (Below.refl _ _) ?_
     repeat (go_big_quiet_step (first | (go_at_call 107; with_reducible exact calls_ext (T.out _))))
     refine wpQuiet_nil ?_;intro _ hw';obtain ⟨n9,rfl⟩:=hw';have HB9:=Lib.hid n9.below;generalize n9.wd=w9 at *;clear Xx0_0 Xx0_1 Xx0_2 Xx0_3 Xx0_4 Xx0_5 Xx0_6 Xx1_0 Xx1_1 Xx1_2 Xx1_3 Xx1_4 Xc0 Xc1 Xc2;go_wp2_with fail
     first | refine bodyPost_ret (v:=.tuple #[.slice a l.length cap,.bool false]) (by simp [results,Try.results89,go_sem]) rfl ?_ | refine bodyPost_ret (v:=.tuple #[.slice (some ⟨b,off,none⟩) l.length cap,.bool false]) (by simp [results,Try.results89,go_sem]) rfl ?_
     exact HNONE.out hr.out _ _ _ HB9.out rfl
   have k6b:(kd == 6)=false:=by simpa using k6
   go_wp2_with fail;refine (TE.out _ HB.out).mono ?_; rintro e w' ⟨rfl,rfl⟩;cases ex with
   | false=>
    have hr:Hid (lo=none):=by show _=_; rw [← HLO.out]; simp [k5,k6]
    go_upto_region 32 with fail
    have Xx0_0:=ext_cell _ _ ((ltR R0)) _ x0_0;have Xx0_1:=ext_cell _ _ ((ltR R0)) _ x0_1;have Xx0_2:=ext_cell _ _ ((ltR R0)) _ x0_2;have Xx0_3:=ext_cell _ _ ((ltR R0)) _ x0_3;have Xx0_4:=ext_cell _ _ ((ltR R0)) _ x0_4;have Xx0_5:=ext_cell _ _ ((ltR R0)) _ x0_5;have Xx0_6:=ext_cell _ _ ((ltR R0)) _ x0_6;have Xx1_0:=ext_cell _ _ ((ltR R1)) _ x1_0;have Xx1_1:=ext_cell _ _ ((ltR R1)) _ x1_1;have Xx1_2:=ext_cell _ _ ((ltR R1)) _ x1_2;have Xx1_3:=ext_cell _ _ ((ltR R1)) _ x1_3;have Xx1_4:=ext_cell _ _ ((ltR R1)) _ x1_4;clear x0_0 x0_1 x0_2 x0_3 x0_4 x0_5 x0_6 x1_0 x1_1 x1_2 x1_3 x1_4;refine wp_region_ext W (by kernel_rfl) (by kernel_rfl) (Below.refl _ _) ?_
    repeat (go_big_quiet_step (first | (go_at_call 107; with_reducible exact calls_ext (T.out _))))
    refine wpQuiet_nil ?_;intro _ hw';obtain ⟨n9,rfl⟩:=hw';have HB9:=Lib.hid n9.below;generalize n9.wd=w9 at *;clear Xx0_0 Xx0_1 Xx0_2 Xx0_3 Xx0_4 Xx0_5 Xx0_6 Xx1_0 Xx1_1 Xx1_2 Xx1_3 Xx1_4;go_wp2_with fail
    first | refine bodyPost_ret (v:=.tuple #[.slice a l.length cap,.bool false]) (by simp [results,Try.results89,go_sem]) rfl ?_ | refine bodyPost_ret (v:=.tuple #[.slice (some ⟨b,off,none⟩) l.length cap,.bool false]) (by simp [results,Try.results89,go_sem]) rfl ?_
    exact HNONE.out hr.out _ _ _ HB9.out rfl
   | true=>
    have hx:=HEX.out;unfold exB at hx;simp only [Bool.and_eq_true,decide_eq_true_eq] at hx;obtain ⟨i,hi⟩:∃i:Nat,ch=(i:Int):=⟨ch.toNat,by omega⟩;subst hi;have hil:i<l.length:=by omega
    have hiI:(i:Int)<(l.length:Int):=by omega
    obtain ⟨⟨cc,bf,cl⟩,hcc⟩:∃c,l.getD i noChan=c:=⟨_,rfl⟩;have HCE:Hid (chE l (i:Int)=⟨cc,bf,cl⟩):=by
     show l.getD (Int.toNat (i:Int)) noChan=_;rw [Int.toNat_natCast,hcc]
    have hmem:(⟨cc,bf,cl⟩:ChanM)∈l:=by
     rw [← hcc,List.getD_eq_getElem?_getD,List.getElem?_eq_getElem hil];exact List.getElem_mem hil
    have HCW:Hid (cc=IntKind.i64.wrap cc):=by
     obtain ⟨us,-,-,-,h4,-⟩:=HV.out;exact h4 _ hmem
    have TS:=Lib.hid fun c u w' (hb:Below w.heap.size w w') hu hcw=>mset_any _ l i hil c u w' (HV.out.below hb) hu hcw HL.out;obtain ⟨b,off,cap',u,hve,hbb,c0,c1,c2,hu,hfu⟩:=(HV.out.below (HB.out)).at2 i hil;simp only [Value.slice.injEq] at hve;obtain ⟨rfl,-,rfl⟩:=hve;rw [hcc] at c0 c2 hu;dsimp only at c0 c2 hu;obtain ⟨ua,uc,rfl,-⟩:=hu.len;have HU:=Lib.hid hu;have HUF:Hid (SlU _ (.slice ua bf.length uc) bf):=⟨HU.out,hfu⟩;clear hfu hx hcc hmem hu;have hr:Hid (lo=none):=by show _=_; rw [← HLO.out]; simp [k5,k6]
    go_upto_region 32 with fail
    have Xx0_0:=ext_cell _ _ ((ltR R0)) _ x0_0;have Xx0_1:=ext_cell _ _ ((ltR R0)) _ x0_1;have Xx0_2:=ext_cell _ _ ((ltR R0)) _ x0_2;have Xx0_3:=ext_cell _ _ ((ltR R0)) _ x0_3;have Xx0_4:=ext_cell _ _ ((ltR R0)) _ x0_4;have Xx0_5:=ext_cell _ _ ((ltR R0)) _ x0_5;have Xx0_6:=ext_cell _ _ ((ltR R0)) _ x0_6;have Xx1_0:=ext_cell _ _ ((ltR R1)) _ x1_0;have Xx1_1:=ext_cell _ _ ((ltR R1)) _ x1_1;have Xx1_2:=ext_cell _ _ ((ltR R1)) _ x1_2;have Xx1_3:=ext_cell _ _ ((ltR R1)) _ x1_3;have Xx1_4:=ext_cell _ _ ((ltR R1)) _ x1_4;have Xc0:=ext_cell _ _ (hbb) _ c0;have Xc1:=ext_cell _ _ (hbb) _ c1;have Xc2:=ext_cell _ _ (hbb) _ c2;clear x0_0 x0_1 x0_2 x0_3 x0_4 x0_5 x0_6 x1_0 x1_1 x1_2 x1_3 x1_4 c0 c1 c2;refine wp_region_ext W (by kernel_rfl) (by kernel_rfl) (Below.refl _ _) ?_
    repeat (go_big_quiet_step (first | (go_at_call 107; with_reducible exact calls_ext (T.out _))))
    refine wpQuiet_nil ?_;intro _ hw';obtain ⟨n9,rfl⟩:=hw';have HB9:=Lib.hid n9.below;generalize n9.wd=w9 at *;clear Xx0_0 Xx0_1 Xx0_2 Xx0_3 Xx0_4 Xx0_5 Xx0_6 Xx1_0 Xx1_1 Xx1_2 Xx1_3 Xx1_4 Xc0 Xc1 Xc2;go_wp2_with fail
    first | refine bodyPost_ret (v:=.tuple #[.slice a l.length cap,.bool false]) (by simp [results,Try.results89,go_sem]) rfl ?_ | refine bodyPost_ret (v:=.tuple #[.slice (some ⟨b,off,none⟩) l.length cap,.bool false]) (by simp [results,Try.results89,go_sem]) rfl ?_
    exact HNONE.out hr.out _ _ _ HB9.out rfl
  have q7b:(rk == 7)=false:=by simpa using q7
  have hr:Hid (lo=none):=by show _=_; rw [← HLO.out]; simp [q1,q2,q5,q6,q3,q4,q7]
  go_wp2;refine bodyPost_ret (v:=.tuple #[.slice none 0 0,.bool false]) (by simp [results,Try.results89,go_sem]) rfl ?_;exact HNONE.out hr.out _ _ _ (Below.refl _ _) rfl
def DoN (o:Option (List ChanM)) (w:World) (e:Ending) (w':World):Prop:=∃(v':Value) (ok:Bool),e=.returned (.tuple #[v',.bool ok])∧((∃l',o=some l'∧ok=true∧SlH w' v' l')∨(o=none∧ok=false∧v'=.slice none 0 0))∧Below w.heap.size w w'
set_option maxRecDepth 100000 in
set_option maxHeartbeats 16000000 in
theorem mApplyN_any (v vo:Value) (l:List ChanM) (op:OpM) (r:ResM) (w:World) (hv:SlH w v l) (hl:l.length≤1000000) (hbf:∀c∈l,c.buf.length≤999999) (h:OpV w vo op) (hok:op.chan=IntKind.i64.wrap op.chan∧op.val=IntKind.u64.wrap op.val):Calls Try.prog 63 #[v,vo,resW r] w fun e w'=>DoN (modE l op r) w e w':=by
 have TA:=Lib.hid fun w' (hb:Below w.heap.size w w')=>mapply_any v vo l op r w' (hv.below hb) hl hbf (h.below hb) hok;obtain ⟨lo,hlo⟩:∃o,modE l op r=o:=⟨_,rfl⟩;rw [hlo] at TA ⊢;clear hlo;obtain ⟨vc,vd,rfl,hc,hd⟩:=h;obtain ⟨kd,md,ch,vl,dl,cs,ds⟩:=op;obtain ⟨rk,rc,rv,rok,nm⟩:=r;dsimp only at *;obtain ⟨a3,cap3,rfl⟩:=hc.len;obtain ⟨a4,cap4,rfl,-⟩:=hd.len;unfold resW at TA ⊢;dsimp only at TA ⊢;obtain ⟨a,cap,hve,-⟩:=hv.len;subst hve;clear hv hl hbf hc hd hok;obtain ⟨W,hW,HB,R0,R1,hz⟩:=two_new w (.cells #[.int .i64 kd,.int .i64 md,.int .i64 ch,.int .u64 vl,.int .i64 dl,.slice a3 cs.length cap3,.slice a4 ds.length cap4] 44) (.cells #[.int .i64 rk,.int .i64 rc,.int .u64 rv,.bool rok,.int .i64 nm] 73);have HW:=Lib.hid hW;clear hW;go_enter Try.func63,Try.ntmps63;go_upto_region 1 with fail
 rw [HW.out];clear HW;obtain ⟨x0_0,x0_1,x0_2,x0_3,x0_4,x0_5,x0_6⟩:=rowc7 R0.out;obtain ⟨x1_0,x1_1,x1_2,x1_3,x1_4⟩:=rowc5 R1.out;go_wp2_with fail;refine (TA.out _ HB.out).mono ?_; rintro e w3 ⟨v3,ok3,rfl,hq3,hb3⟩;have HB3:=Lib.hid (below_then HB.out hb3);have HQ3:=Lib.hid hq3;clear hq3 hb3 x0_0 x0_1 x0_2 x0_3 x0_4 x0_5 x0_6 x1_0 x1_1 x1_2 x1_3 x1_4;cases ok3 with
 | false=>
  go_wp2_with fail;refine bodyPost_ret (v:=.tuple #[.slice none 0 0,.bool false]) (by simp [results,Try.results63,go_sem]) rfl ?_;refine ⟨_,false,rfl,.inr ⟨?_,rfl,rfl⟩,HB3.out⟩;rcases HQ3.out with ⟨l',-,h2,-⟩ | ⟨h1,-⟩
  ·cases h2
  ·exact h1
 | true=>
  go_wp2_with fail;refine bodyPost_ret (v:=.tuple #[v3,.bool true]) (by simp [results,Try.results63,go_sem]) rfl ?_;refine ⟨v3,true,rfl,?_,HB3.out⟩;rcases HQ3.out with ⟨l',h1,-,h2⟩ | ⟨-,h1⟩
  ·exact .inl ⟨l',h1,rfl,h2⟩
  ·cases h1
def atP (P:Nat→Prop) (v:Value):Prop:=∀a n c,v=.slice (some a) n c→n=0∨P a.block
theorem atP.mono {P Q:Nat→Prop} {v:Value} (h:atP P v) (hpq:∀b,P b→Q b):atP Q v:=fun a n c e=>(h a n c e).imp id (hpq _)
theorem atP.off {P:Nat→Prop} {v:Value} {g:Nat} (h:atP P v) (hg:∀b,P b→b≠g):offB g v:=fun a n c e=>(h a n c e).imp id (hg _)
theorem OwnI.isP {P:Nat→Prop} {w:World} {base:Nat} {e:TypeId} {k:IntKind} {v:Value} {l:List Int} (h:OwnI w base e k v l) (hp:∀b,base≤b→P b):atP P v:=by
 intro a n c e2;rcases h.shape with ⟨rfl,-⟩ | ⟨g,cap,rfl,hg,-⟩
 ·simp at e2
 ·simp only [Value.slice.injEq,Option.some.injEq] at e2
  obtain ⟨rfl,-,-⟩:=e2;exact .inr (hp _ hg)
theorem OwnS.isP {P:Nat→Prop} {w:World} {base s:Nat} {e:TypeId} {v:Value} {rows:List (List Value)} (h:OwnS w base e s v rows) (hp:∀b,base≤b→P b):atP P v:=by
 intro a n c e2;rcases h.shape with ⟨rfl,-⟩ | ⟨g,cap,rfl,hg,-⟩
 ·simp at e2
 ·simp only [Value.slice.injEq,Option.some.injEq] at e2
  obtain ⟨rfl,-,-⟩:=e2;exact .inr (hp _ hg)
def SlHX (P:Nat→Prop) (w:World) (v:Value) (l:List ChanM):Prop:=
 ∃us:List Value,us.length=l.length∧SlS w 3 v (chRows l us)∧(∀i,i<l.length→SlU w (us.getD i (.slice none 0 0)) (l.getD i noChan).buf∧atP P (us.getD i (.slice none 0 0)))∧(∀c∈l,c.cap=IntKind.i64.wrap c.cap)∧fineB w v∧atP P v
theorem SlHX.slH {P:Nat→Prop} {w:World} {v:Value} {l:List ChanM} (h:SlHX P w v l):SlH w v l:=by
 obtain ⟨us,h1,h2,h3,h4,h5,-⟩:=h;exact ⟨us,h1,h2,fun i hi=>(h3 i hi).1,h4,h5⟩
theorem SlHX.mono {P Q:Nat→Prop} {w:World} {v:Value} {l:List ChanM} (h:SlHX P w v l) (hpq:∀b,P b→Q b):SlHX Q w v l:=by
 obtain ⟨us,h1,h2,h3,h4,h5,h6⟩:=h;exact ⟨us,h1,h2,fun i hi=>⟨(h3 i hi).1,(h3 i hi).2.mono hpq⟩,h4,h5,h6.mono hpq⟩
theorem fineB.isP {w:World} {v:Value} (h:fineB w v):atP (fun b=>b<w.heap.size) v:=fun a n c e=>(h a n c e).imp id (·.1)
theorem SlH.slHX {w:World} {v:Value} {l:List ChanM} (h:SlH w v l):SlHX (fun b=>b<w.heap.size) w v l:=by
 obtain ⟨us,h1,h2,h3,h4,h5⟩:=h;exact ⟨us,h1,h2,fun i hi=>⟨h3 i hi,(h3 i hi).2.isP⟩,h4,h5,h5.isP⟩
theorem SlHX.below {P:Nat→Prop} {w w2:World} {v:Value} {l:List ChanM} (h:SlHX P w v l) (hb:Below w.heap.size w w2):SlHX P w2 v l:=by
 obtain ⟨us,h1,h2,h3,h4,h5,h6⟩:=h;exact ⟨us,h1,h2.below hb,fun i hi=>⟨(h3 i hi).1.below hb,(h3 i hi).2⟩,h4,h5.below hb,h6⟩
theorem fineB.keptO {w w2:World} {g:Nat} {v:Value} (h:fineB w v) (hg:w.grownBy w2 (some g)) (ho:offB g v):fineB w2 v:=fun a n c e=>by
 rcases h a n c e with h1 | ⟨h1,h2⟩
 ·exact .inl h1
 ·rcases ho a n c e with h3 | h3
  ·exact .inl h3
  ·refine .inr ⟨Nat.lt_of_lt_of_le h1 hg.size,fun cs f=>?_⟩
   rw [hg.block a.block h1 (fun e=>h3 (by simpa using e))];exact h2 cs f
theorem SlHX.off {P:Nat→Prop} {w w2:World} {g:Nat} {v:Value} {l:List ChanM} (h:SlHX P w v l) (hg:w.grownBy w2 (some g)) (hP:∀b,P b→b≠g):SlHX P w2 v l:=by
 obtain ⟨us,h1,h2,h3,h4,h5,h6⟩:=h;refine ⟨us,h1,?_,fun i hi=>⟨⟨(h3 i hi).1.1.grown hg ((h3 i hi).2.off hP),(h3 i hi).1.2.keptO hg ((h3 i hi).2.off hP)⟩,(h3 i hi).2⟩,h4,h5.keptO hg (h6.off hP),h6⟩;obtain ⟨q1,q2,a,cap,rfl,q4,q5⟩:=h2;refine ⟨q1,q2,a,cap,rfl,q4,fun i hi=>?_⟩;obtain ⟨b,off,rfl,hb,hr⟩:=q5 i hi;have hne:b≠g:=by
  rcases h6 _ _ _ rfl with h7 | h7
  ·omega
  ·exact hP _ h7
 exact ⟨b,off,rfl,Nat.lt_of_lt_of_le hb hg.size,fun j u hj=>by
  have hbk:=hg.block b hb (fun e=>hne (by simpa using e));have:=hr j u hj;unfold World.cell? at this ⊢;rw [hbk];exact this⟩
theorem SlHX.drawn {P:Nat→Prop} {w w2:World} {g:Nat} {v:Value} {l:List ChanM} (h:SlHX P w v l) (hg:w.grownBy w2 (some g)) (hC:∃cs f,w.heap[g]?=some (.cells cs 77 f)):SlHX P w2 v l:=by
 have h0:SlHX (fun b=>P b∧b≠g) w v l:=by
  obtain ⟨cs,f,hc⟩:=hC;have hf:∀{v:Value},fineB w v→atP P v→atP (fun b=>P b∧b≠g) v:=fun {v} hf ha a n c e=>by
   rcases hf a n c e with h1 | ⟨-,h1⟩
   ·exact .inl h1
   ·rcases ha a n c e with h2 | h2
    ·exact .inl h2
    ·exact .inr ⟨h2,fun e2=>by rw [e2] at h1; exact h1 cs f hc⟩
  obtain ⟨us,h1,h2,h3,h4,h5,h6⟩:=h;exact ⟨us,h1,h2,fun i hi=>⟨(h3 i hi).1,hf (h3 i hi).1.2 (h3 i hi).2⟩,h4,h5,hf h5 h6⟩
 exact (h0.off hg (fun b hb=>hb.2)).mono fun b hb=>hb.1
theorem OwnS.slHX {P:Nat→Prop} {w:World} {base:Nat} {v:Value} {l:List ChanM} {us:List Value} (h:OwnS w base 63 3 v (chRows l us)) (h1:us.length=l.length) (hl:l.length≤1000000) (h3:∀i,i<l.length→SlU w (us.getD i (.slice none 0 0)) (l.getD i noChan).buf∧atP P (us.getD i (.slice none 0 0))) (h4:∀c∈l,c.cap=IntKind.i64.wrap c.cap) (hp:∀b,base≤b→P b):SlHX P w v l:=
 ⟨us,h1,h.sls (by rw [chRows_length l us h1]; omega),h3,h4,own_fine h.2 (by decide),OwnS.isP h hp⟩
theorem CopyR.slHX {P:Nat→Prop} {l:List ChanM} {w w' W:World} {v:Value} {us:List Value} {B:Nat} (h:CopyR l w w' v us B) (hp:∀b,w.heap.size≤b→P b) (hl:l.length≤1000000) (hbf:∀i,i<l.length→(l.getD i noChan).buf.length≤1000000∧∀x∈(l.getD i noChan).buf,x=IntKind.u64.wrap x) (h4:∀c∈l,c.cap=IntKind.i64.wrap c.cap) (hb:Below w'.heap.size w' W):SlHX P W v l:=
 (h.rows.below hb).slHX h.len hl (fun i hi=>⟨((h.bufs i hi).below hb).slU (by have:=(hbf i hi).1; omega) (hbf i hi).2,OwnI.isP (h.bufs i hi) (fun b hb=>hp b (Nat.le_trans h.lo hb))⟩) h4 hp
theorem valid_any (v:Value) (l:List Int) (i:Nat) (w:World) (hl:SlI w .i64 v l) (hi:i≤20) :
  Calls Try.prog 104 #[v,.int .i64 (i:Int)] w fun e w'=>e=.returned (.int .i64 (drawI l i))∧w=w':=by
 by_cases h:l.length≤i
 ·have HR:=Lib.hid (drawI_out l i h)
  obtain ⟨a,cap,rfl,_⟩:=hl.len;have:=hl.1;clear hl;go_enter Try.func104,Try.ntmps104;go_wp2;go_ret;exact ⟨by rw [HR.out]; rfl,rfl⟩
 ·have hmx:=hl.1
  obtain ⟨b,off,cap,rfl,h4,hlt,hc⟩:=hl.open (by rintro rfl; simp at h);have hcell:=hc i (by omega);have b1:=tmod_bd (l.getD i 0) i;have N1:=Lib.hid (drawI_neg l i);have N2:=Lib.hid (drawI_pos l i);clear hc hl;have hlt:i<l.length:=by omega
  generalize l.getD i 0=x at *;go_enter Try.func104,Try.ntmps104;go_wp2
  ·have hh:x.tmod (↑i+1)<0:=by assumption
   go_ret;exact ⟨ret_i64 (N1.out hh),rfl⟩
  ·have hh:0≤x.tmod (↑i+1):=by assumption
   go_ret;exact ⟨ret_i64 (N2.out hh),rfl⟩
theorem rdraw_any (v:Value) (l:List Int) (i:Nat) (w:World) (hl:SlI w .i64 v l) (hi:i≤20) :
  Calls Try.prog 91 #[v,.int .i64 (i:Int)] w fun e w'=>e=.returned (.int .i64 (drawI l i))∧w=w':=by
 by_cases h:l.length≤i
 ·have HR:=Lib.hid (drawI_out l i h)
  obtain ⟨a,cap,rfl,_⟩:=hl.len;have:=hl.1;clear hl;go_enter Try.func91,Try.ntmps91;go_wp2;go_ret;exact ⟨by rw [HR.out]; rfl,rfl⟩
 ·have hmx:=hl.1
  obtain ⟨b,off,cap,rfl,h4,hlt,hc⟩:=hl.open (by rintro rfl; simp at h);have hcell:=hc i (by omega);have b1:=tmod_bd (l.getD i 0) i;have N1:=Lib.hid (drawI_neg l i);have N2:=Lib.hid (drawI_pos l i);clear hc hl;have hlt:i<l.length:=by omega
  generalize l.getD i 0=x at *;go_enter Try.func91,Try.ntmps91;go_wp2
  ·have hh:x.tmod (↑i+1)<0:=by assumption
   go_ret;exact ⟨ret_i64 (N1.out hh),rfl⟩
  ·have hh:0≤x.tmod (↑i+1):=by assumption
   go_ret;exact ⟨ret_i64 (N2.out hh),rfl⟩
def CodesAt (w:World) (g:Nat) (r:List Int) (val:Int):Prop:=
 ∃v l,∃k:Nat,w.heap[g]?=some (.cells #[v,.int .i64 k,.int .u64 val] 77 (0,0))∧SlI w .u8 v l∧k≤l.length∧r=l.drop k∧(l≠[]→∀a n c,v=.slice a n c→∀b,a=some b→b.block<g)
theorem CodesAt.drew {w:World} {g:Nat} {r:List Int} {val:Int} (h:CodesAt w g r val) (n:Nat):CodesAt (w.drewN n) g r val:=h
theorem CodesAt.lt {w:World} {g:Nat} {r:List Int} {val:Int} (h:CodesAt w g r val):g<w.heap.size:=by
 obtain ⟨v,l,k,hg,_⟩:=h;exact (Array.getElem?_eq_some_iff.1 hg).1
theorem CodesAt.kept {w w':World} {g B:Nat} {r:List Int} {val:Int} (h:CodesAt w g r val) (hB:g<B) (hb:Below B w w'):CodesAt w' g r val:=by
 obtain ⟨v,l,k,hg,⟨m1,m2,a,cap,rfl,hcap,h5⟩,hk,hr,h4⟩:=h;refine ⟨_,l,k,(hb.block g hB).trans hg,⟨m1,m2,a,cap,rfl,hcap,fun t ht=>?_⟩,hk,hr,h4⟩;obtain ⟨b,off,e,hlt,hc⟩:=h5 t ht;have hbg:=h4 (by rintro rfl; simp at ht) _ _ _ rfl _ e;exact ⟨b,off,e,Nat.lt_of_lt_of_le hlt hb.size,(hb.cell (p:=⟨b,off+t,none⟩) (by simp at hbg ⊢; omega)).trans hc⟩
def nxt (r:List Int) (n:Int):Int:=match r with | []=>0 | c :: _=>c % n
theorem nxt_bd (r:List Int) (n:Int) (h:1≤n):0≤nxt r n∧nxt r n<n:=by
 unfold nxt;split
 ·omega
 ·exact ⟨Int.emod_nonneg _ (by omega),Int.emod_lt_of_pos _ (by omega)⟩
theorem left_any (g:Nat) (r:List Int) (val:Int) (w:World) (h:CodesAt w g r val) :
  Calls Try.prog 15 #[.pointer (some ⟨g,0,none⟩)] w fun e w'=>∃n,e=.returned (.bool (!r.isEmpty))∧w.drewN n=w':=by
 obtain ⟨v,l,k,hg,hl,hk,rfl,_⟩:=h;have hmx:=hl.1;obtain ⟨a,cap,rfl,_⟩:=hl.len;have c0:=cell_of_row w g 0 _ _ _ hg;have c1:=cell_of_row w g 1 _ _ _ hg;simp at c0 c1;clear hg hl;have hr:((l.drop k).isEmpty)=decide (l.length≤k):=by
  rw [Bool.eq_iff_iff]; simp
 have HR:=Lib.hid hr;clear hr;go_enter Try.func15,Try.ntmps15;go_wp2;go_quiet (fail);go_wp2;go_ret;exact ⟨nq,ret_bool (by rw [HR.out]; by_cases e:k<l.length <;> simp [e] <;> omega),rfl⟩
theorem codes_step {w:World} {g:Nat} {val:Int} {b off n cap k:Nat} {l:List Int}
  (hg:w.heap[g]?=some (.cells #[.slice (some ⟨b,off,none⟩) n cap,.int .i64 k,.int .u64 val] 77 (0,0)))
  (hl:SlI w .u8 (.slice (some ⟨b,off,none⟩) n cap) l) (hlt:k<l.length) (hbg0:b<g) (m:Nat) :
  (CodesAt (w.setCell ⟨g,1,none⟩ (.int .i64 ((k:Int)+1))) g (l.drop k).tail val)∧
  w.grownBy ((w.setCell ⟨g,1,none⟩ (.int .i64 ((k:Int)+1))).drewN m) (some g)∧
  (w.setCell ⟨g,1,none⟩ (.int .i64 ((k:Int)+1))).cell? ⟨g,0,none⟩=some (.slice (some ⟨b,off,none⟩) n cap)∧
  (w.setCell ⟨g,1,none⟩ (.int .i64 ((k:Int)+1))).cell? ⟨g,1,none⟩=some (.int .i64 ((k:Int)+1))∧
  (w.setCell ⟨g,1,none⟩ (.int .i64 ((k:Int)+1))).cell? ⟨b,off+k,none⟩=some (.int .u8 (l.getD k 0)):=by
 have hbg:b≠g:=by omega
 have hs:=heap_setCell_same w g 1 _ _ (.int .i64 ((k:Int)+1)) hg;have ho:∀j,j≠g→(w.setCell ⟨g,1,none⟩ (.int .i64 ((k:Int)+1))).heap[j]?=w.heap[j]?:=fun j hj=>heap_setCell_other w ⟨g,1,none⟩ j _ hj;have e0:=cell_of_row _ g 0 _ _ _ hs;have e1:=cell_of_row _ g 1 _ _ _ hs;have hcell:∀j,(w.setCell ⟨g,1,none⟩ (.int .i64 ((k:Int)+1))).cell? ⟨b,j,none⟩=w.cell? ⟨b,j,none⟩:=fun j=>World.cell?_of_block (ho b hbg);obtain ⟨m1,m2,a',cap',e,hle,h5⟩:=hl;simp only [Value.slice.injEq] at e;obtain ⟨rfl,rfl,rfl⟩:=e;have hsz:(w.setCell ⟨g,1,none⟩ (.int .i64 ((k:Int)+1))).heap.size=w.heap.size:=by simp
 refine ⟨⟨_,l,k+1,by simpa using hs,⟨m1,m2,_,_,rfl,hle,fun t ht=>?_⟩,hlt,by rw [List.tail_drop],?_⟩,⟨rfl,rfl,rfl,by simp,fun j _ hj=>ho j (fun e=>hj (by rw [e]))⟩,by simpa using e0,by simpa using e1,?_⟩
 ·obtain ⟨b1,o1,e2,h6,h7⟩:=h5 t ht
  simp only [Option.some.injEq,Addr.mk.injEq,and_true] at e2;obtain ⟨rfl,rfl⟩:=e2;exact ⟨_,_,rfl,by rw [hsz]; exact h6,(hcell _).trans h7⟩
 ·intro _ a n c e bb e2
  simp only [Value.slice.injEq] at e;rw [← e.1] at e2;cases e2;exact hbg0
 ·obtain ⟨b1,o1,e2,h6,h7⟩:=h5 k hlt
  simp only [Option.some.injEq,Addr.mk.injEq,and_true] at e2;obtain ⟨rfl,rfl⟩:=e2;exact (hcell _).trans h7
theorem next_any (g:Nat) (r:List Int) (val n:Int) (w:World) (h:CodesAt w g r val) (h1:1≤n) (h2:n≤256) :
  Calls Try.prog 16 #[.pointer (some ⟨g,0,none⟩),.int .i64 n] w fun e w'=>e=.returned (.int .i64 (nxt r n))∧CodesAt w' g r.tail val∧w.grownBy w' (some g):=by
 have h0:=h;obtain ⟨v,l,k,hg,hl,hk,hr,hv⟩:=h;have hmx:=hl.1;by_cases hlt:k<l.length
 ·obtain ⟨b,off,cap,rfl,hcap,hb,hc⟩:=hl.open (by rintro rfl; simp at hlt)
  have c0:=cell_of_row w g 0 _ _ _ hg;have c1:=cell_of_row w g 1 _ _ _ hg;have f1:=frozen_of_row w g 1 _ _ hg;simp at c0 c1;have hu:=hl.2.1 (l.getD k 0) (by simp [List.getD_eq_getElem?_getD,hlt]);have ST:=Lib.hid fun m q=>codes_step (w:=w.drewN m) hg (hl.drew m) hlt (hv (by rintro rfl; simp at hlt) _ _ _ rfl _ rfl) q;have hre:r.isEmpty=false:=by rw [hr]; simp; omega
  have hn:=Lib.hid (show nxt r n=l.getD k 0 % n by rw [hr,List.drop_eq_getElem_cons hlt]; simp [nxt,List.getD_eq_getElem?_getD,hlt]);have L:=Lib.hid fun w'=>left_any g r val w';have H0:=Lib.hid h0;have HR:=Lib.hid hr;have hkx:k≤140737488351232:=by omega
  generalize l.getD k 0=x at *;have hx:0≤x∧x<256:=by rw [hu,IntKind.wrap_u8]; omega
  obtain ⟨hx0,hx1⟩:=hx;have e1:=Int.tmod_eq_emod_of_nonneg (b:=n) hx0;have e2:=Int.emod_nonneg x (show n≠0 by omega);have e3:=Int.emod_lt_of_pos x (show 0<n by omega);have hltI:(k:Int)<l.length:=by omega
  clear hg hl hc hv hr h0 hu;have EX:=Lib.hid e1;clear e1;go_enter Try.func16,Try.ntmps16;go_wp2_with (go_at_call 15; refine (L.out _ H0.out).mono ?_; rintro e w' ⟨m,rfl,rfl⟩);obtain ⟨s1,s5,s2,s3,s4⟩:=ST.out m 0;have SS:=Lib.hid (And.intro s1 s5);clear s1 s5 c0 c1 f1;generalize (w.drewN m).setCell _ _=W1 at *;go_quiet (fail);go_wp2;go_ret;exact ⟨ret_i64 (hn.out.symm),by rw [HR.out]; exact SS.out.1,⟨SS.out.2.os,SS.out.2.tape,SS.out.2.output,SS.out.2.size,SS.out.2.block⟩⟩
 ·have hr0:r=[]:=by rw [hr]; simp; omega
  subst hr0;have L:=Lib.hid fun w'=>left_any g [] val w';have H0:=Lib.hid h0;clear hg hl hv hr h0;go_enter Try.func16,Try.ntmps16;go_wp2_with (go_at_call 15; refine (L.out _ H0.out).mono ?_; rintro e w' ⟨m,rfl,rfl⟩);go_ret;exact ⟨rfl,H0.out,⟨rfl,rfl,rfl,Nat.le_refl _,fun _ _ _=>rfl⟩⟩
theorem new_any (v:Value) (l:List Int) (m:Nat) (w:World) (hl:SlI w .u8 v l) (hm:m≤1000) :
  Calls Try.prog 10 #[v,.int .i64 m] w fun e w'=>e=.returned (.pointer (some ⟨w.heap.size,0,none⟩))∧CodesAt w' w.heap.size (l.take m) 0∧Below w.heap.size w w':=by
 have h0:=hl;obtain ⟨m1,m2,a,cap,rfl,hcap,h5⟩:=hl;by_cases hlt:m<l.length
 ·obtain ⟨b,off,rfl,hb,-⟩:=h5 m hlt
  have hlen:(l.take m).length=m:=by simp; omega
  have hfin:SlI (w.alloc (.cells #[.slice (some ⟨b,off,none⟩) m cap,.int .i64 0,.int .u64 0] 77)) .u8 (.slice (some ⟨b,off,none⟩) m cap) (l.take m):=by
   refine ⟨by omega,fun x hx=>m2 x (List.mem_of_mem_take hx),_,cap,by rw [hlen],by omega,fun t ht=>?_⟩;have ht':t<m:=by simp at ht; omega
   obtain ⟨b',off',e,hb',hc⟩:=h5 t (by omega);simp only [Option.some.injEq,Addr.mk.injEq,and_true] at e;obtain ⟨rfl,rfl⟩:=e;refine ⟨b,off,rfl,by simp; omega,?_⟩;rw [World.cell?_alloc_past _ _ _ hb',hc];simp [List.getD_eq_getElem?_getD,ht']
  have HF:=Lib.hid hfin;clear hfin h5;have hmc:(m:Int)≤cap:=by omega
  have hb':b<w.heap.size:=hb;clear hlen h0 m2;go_enter Try.func10,Try.ntmps10;go_wp2;go_ret;exact ⟨rfl,⟨_,l.take m,0,heap_alloc_new w _,HF.out,Nat.zero_le _,rfl,fun _ a n c e b2 e2=>by
   simp only [Value.slice.injEq] at e;rw [← e.1] at e2;cases e2;exact hb'⟩,(Below.refl _ _).alloc (Nat.le_refl _) _⟩
 ·have e:l.take m=l:=List.take_of_length_le (by omega)
  rw [e];have hfin:SlI (w.alloc (.cells #[.slice a l.length cap,.int .i64 0,.int .u64 0] 77)) .u8 (.slice a l.length cap) l:=h0.below ((Below.refl _ _).alloc (Nat.le_refl _) _);have HF:=Lib.hid hfin;have H5:=Lib.hid h5;clear hfin h5 e h0 m2;go_enter Try.func10,Try.ntmps10;go_wp2;go_ret;refine ⟨rfl,⟨_,l,0,heap_alloc_new w _,HF.out,Nat.zero_le _,rfl,fun hne a n c e b2 e2=>?_⟩,(Below.refl _ _).alloc (Nat.le_refl _) _⟩;simp only [Value.slice.injEq] at e;obtain ⟨b,off,e3,hb,_⟩:=H5.out 0 (List.length_pos_iff.2 hne);rw [← e.1,e3] at e2;cases e2;exact hb
end Go.Proofs.Ytiekicailidhcaa
