import Derived.Test.YtjnlkemdaffgbaaGreatRows
import Derived.Laws.BitsAllLaws
import Derived.LoopTactic
import Derived.Deep.DeepCutAuto
import Derived.Test.YtjnlkemdaffgbaaGreatB01
import Derived.Test.YtjnlkemdaffgbaaGreatB02
set_option linter.unusedVariables false
set_option linter.unusedSimpArgs false
namespace Go.Proofs.YtjnlkemdaffgbaaGreat
open Go.ChangeShapes Go.WideShapes Go.ChangeAt Go.RowKit
set_option maxRecDepth 100000
theorem and63 (x:Int) (h0:0≤x) (h1:x<18446744073709551616):bits BinOp.and IntKind.u64 x 9223372036854775807=x % 9223372036854775808:=by
 rw [u64_and x 9223372036854775807 h0 h1 (by omega) (by omega)];have:=Nat.and_two_pow_sub_one_eq_mod x.toNat 63;rw [show (9223372036854775807:Int).toNat=2 ^ 63 - 1 from rfl,this];omega
theorem and1 (x:Int) (h0:0≤x) (h1:x<18446744073709551616):bits BinOp.and IntKind.u64 x 1=x % 2:=by
 rw [u64_and x 1 h0 h1 (by omega) (by omega)];have:=Nat.and_two_pow_sub_one_eq_mod x.toNat 1;rw [show (1:Int).toNat=2 ^ 1 - 1 from rfl,this];omega
theorem or1 (x:Int) (h0:0≤x) (h1:x<18446744073709551616) (h2:x % 2=0):bits BinOp.or IntKind.u64 x 1=x+1:=by
 rw [u64_or x 1 h0 h1 (by omega) (by omega)];have:=nat_join 1 x.toNat 1 (by omega) (by omega);rw [show (1:Int).toNat=1 from rfl,this];omega
def nextI (a n:Int):Int:=(a+n) % 9223372036854775808
theorem nextI_eq (a n:Int):bits BinOp.and IntKind.u64 (IntKind.u64.wrap (a+IntKind.u64.wrap n)) 9223372036854775807=nextI a n:=by
 unfold nextI;rw [IntKind.wrap_u64,IntKind.wrap_u64,and63 _ (by omega) (by omega)];omega
def diffI (a b:Int):Int:=(a - b+4611686018427387904) % 9223372036854775808 - 4611686018427387904
theorem diffI_hi (a b x:Int) (hx:bits BinOp.and IntKind.u64 (IntKind.u64.wrap (a - b)) 9223372036854775807=x) (h:4611686018427387904≤x) :
  wrap64 (wrap64 (wrap64 x - 4611686018427387904) - 4611686018427387904)=diffI a b:=by
 rw [IntKind.wrap_u64,and63 _ (by omega) (by omega)] at hx;unfold diffI wrap64;omega
theorem diffI_lo (a b x:Int) (hx:bits BinOp.and IntKind.u64 (IntKind.u64.wrap (a - b)) 9223372036854775807=x) (h:¬4611686018427387904≤x) :
  wrap64 x=diffI a b:=by
 rw [IntKind.wrap_u64,and63 _ (by omega) (by omega)] at hx;unfold diffI wrap64;omega
def packI (s:Int) (c:Bool):Int:=(s * 2) % 18446744073709551616+if c then 1 else 0
theorem packI_true (s:Int):bits BinOp.or IntKind.u64 (IntKind.u64.wrap (s * 2)) 1=packI s true:=by
 unfold packI;rw [IntKind.wrap_u64,or1 _ (by omega) (by omega) (by omega)];simp
theorem packI_false (s:Int):IntKind.u64.wrap (s * 2)=packI s false:=by
 unfold packI;rw [IntKind.wrap_u64];simp
def closedB (a:Int):Bool:=decide (a % 2=1)
theorem closedB_eq (a:Int) (h0:0≤a) (h1:a<18446744073709551616):(bits BinOp.and IntKind.u64 a 1 != 0)=closedB a:=by
 unfold closedB;rw [and1 a h0 h1];by_cases h:a % 2=1
 ·simp [h]
 ·have:a % 2=0:=by omega
  simp [this]
def slotI (a n:Int):Int:=if n<1 then 0 else a % 9223372036854775808 % n
theorem slotI_small (a n:Int) (h:n<1):0=slotI a n:=by unfold slotI; rw [if_pos h]
theorem slotI_eq (a n:Int) (h0:0≤a) (h1:a<18446744073709551616) (h:1≤n) :
  wrap64 ((bits BinOp.and IntKind.u64 a 9223372036854775807).tmod n)=slotI a n:=by
 unfold slotI;rw [if_neg (by omega),and63 a h0 h1,Int.tmod_eq_emod_of_nonneg (by omega)];have h2:=Int.emod_nonneg (a % 9223372036854775808) (show n≠0 by omega);have h3:a % 9223372036854775808 % n≤a % 9223372036854775808:=by
  have:=Int.emod_add_mul_ediv (a % 9223372036854775808) n;have h4:0≤n * (a % 9223372036854775808 / n):=Int.mul_nonneg (by omega) (Int.ediv_nonneg (by omega) (by omega));omega
 unfold wrap64;omega
def sizeI (k:Int):Int:=if k<1 then 1 else if k=1 then 2 else if 1073741824<k then 0 else 2 * 2 ^ Nat.log2 (k.toNat - 1)
theorem sizeI_low (k:Int) (h:k<1):sizeI k=1:=by unfold sizeI; rw [if_pos h]
theorem sizeI_one:sizeI 1=2:=by unfold sizeI; rw [if_neg (by omega),if_pos rfl]
theorem sizeI_high (k:Int) (h:1073741824<k):sizeI k=0:=by
 unfold sizeI; rw [if_neg (by omega),if_neg (by omega),if_pos h]
theorem sizeI_of (k:Int) (j:Nat) (h2:2≤k) (h3:k≤1073741824) (h4:(2:Int) ^ j<k) (h5:k≤2 * 2 ^ j):sizeI k=2 * 2 ^ j:=by
 unfold sizeI;rw [if_neg (by omega),if_neg (by omega),if_neg (by omega)];have e:((2 ^ j:Nat):Int)=(2:Int) ^ j:=by simp
 have e1:(k.toNat - 1).log2=j:=by
  rw [Nat.log2_eq_iff (by omega),Nat.pow_succ];omega
 rw [e1]
theorem qnext_any (a n:Int) (w:World) :
  Calls Tryz.prog 99 #[.int .u64 a,.int .i64 n] w fun e w'=>e=.returned (.int .u64 (nextI a n))∧w=w':=by
 go_enter Tryz.func99,Tryz.ntmps99;go_wp2;go_ret;exact ⟨ret_u64 (nextI_eq a n),rfl⟩
theorem rqnext_any (a n:Int) (w:World) :
  Calls Tryz.prog 42 #[.int .u64 a,.int .i64 n] w fun e w'=>e=.returned (.int .u64 (nextI a n))∧w=w':=by
 go_enter Tryz.func42,Tryz.ntmps42;go_wp2;go_ret;exact ⟨ret_u64 (nextI_eq a n),rfl⟩
theorem rdiff_any (a n:Int) (w:World) :
  Calls Tryz.prog 10 #[.int .u64 a,.int .u64 n] w fun e w'=>e=.returned (.int .i64 (diffI a n))∧w=w':=by
 obtain ⟨x,hx⟩:∃x,bits BinOp.and IntKind.u64 (IntKind.u64.wrap (a - n)) 9223372036854775807=x:=⟨_,rfl⟩;by_cases h:4611686018427387904≤x
 ·have E:=diffI_hi a n x hx h
  have E':=Lib.hid E;clear E;have hd:decide (4611686018427387904≤x)=true:=by simpa using h
  clear h;go_enter Tryz.func10,Tryz.ntmps10;go_wp2;go_ret;exact ⟨ret_i64 E'.out,rfl⟩
 ·have E:=diffI_lo a n x hx h
  have E':=Lib.hid E;clear E;have hd:decide (4611686018427387904≤x)=false:=by simpa using h
  clear h;go_enter Tryz.func10,Tryz.ntmps10;go_wp2;go_ret;exact ⟨ret_i64 E'.out,rfl⟩
theorem pack_any (a:Int) (c:Bool) (w:World) :
  Calls Tryz.prog 101 #[.int .u64 a,.bool c] w fun e w'=>e=.returned (.int .u64 (packI a c))∧w=w':=by
 cases c
 ·go_enter Tryz.func101,Tryz.ntmps101
  go_wp2;go_ret;exact ⟨ret_u64 (packI_false a),rfl⟩
 ·go_enter Tryz.func101,Tryz.ntmps101
  go_wp2;go_ret;exact ⟨ret_u64 (packI_true a),rfl⟩
theorem rpack_any (a:Int) (c:Bool) (w:World) :
  Calls Tryz.prog 41 #[.int .u64 a,.bool c] w fun e w'=>e=.returned (.int .u64 (packI a c))∧w=w':=by
 cases c
 ·go_enter Tryz.func41,Tryz.ntmps41
  go_wp2;go_ret;exact ⟨ret_u64 (packI_false a),rfl⟩
 ·go_enter Tryz.func41,Tryz.ntmps41
  go_wp2;go_ret;exact ⟨ret_u64 (packI_true a),rfl⟩
theorem seq_any (a:Int) (w:World) :
  Calls Tryz.prog 60 #[.int .u64 a] w fun e w'=>e=.returned (.int .u64 (a / 2))∧w=w':=by
 go_enter Tryz.func60,Tryz.ntmps60;go_wp2;go_ret;exact ⟨rfl,rfl⟩
theorem closed_any (a:Int) (w:World) (h0:0≤a) (h1:a<18446744073709551616) :
  Calls Tryz.prog 107 #[.int .u64 a] w fun e w'=>e=.returned (.bool (closedB a))∧w=w':=by
 have E':=Lib.hid (closedB_eq a h0 h1);clear h0 h1;go_enter Tryz.func107,Tryz.ntmps107;go_wp2;go_ret;exact ⟨ret_bool E'.out,rfl⟩
theorem slot_any (a n:Int) (w:World) (h0:0≤a) (h1:a<18446744073709551616) (h2:-9223372036854775808≤n) (h3:n≤9223372036854775807) :
  Calls Tryz.prog 118 #[.int .u64 a,.int .i64 n] w fun e w'=>e=.returned (.int .i64 (slotI a n))∧w=w':=by
 by_cases h:n<1
 ·have E':=Lib.hid (slotI_small a n h)
  go_enter Tryz.func118,Tryz.ntmps118;go_wp2;go_ret;exact ⟨ret_i64 E'.out,rfl⟩
 ·have E':=Lib.hid (slotI_eq a n h0 h1 (by omega))
  go_enter Tryz.func118,Tryz.ntmps118;go_wp2;go_ret;exact ⟨ret_i64 E'.out,rfl⟩
theorem rslot_any (a n:Int) (w:World) (h0:0≤a) (h1:a<18446744073709551616) (h2:-9223372036854775808≤n) (h3:n≤9223372036854775807) :
  Calls Tryz.prog 62 #[.int .u64 a,.int .i64 n] w fun e w'=>e=.returned (.int .i64 (slotI a n))∧w=w':=by
 by_cases h:n<1
 ·have E':=Lib.hid (slotI_small a n h)
  go_enter Tryz.func62,Tryz.ntmps62;go_wp2;go_ret;exact ⟨ret_i64 E'.out,rfl⟩
 ·have E':=Lib.hid (slotI_eq a n h0 h1 (by omega))
  go_enter Tryz.func62,Tryz.ntmps62;go_wp2;go_ret;exact ⟨ret_i64 E'.out,rfl⟩
theorem size_any (k:Int) (w:World) (h2:-9223372036854775808≤k) (h3:k≤9223372036854775807) :
  Calls Tryz.prog 94 #[.int .i64 k] w fun e w'=>e=.returned (.int .i64 (sizeI k))∧w=w':=by
 by_cases h:k<1
 ·have E':=Lib.hid (sizeI_low k h)
  go_enter Tryz.func94,Tryz.ntmps94;go_wp2;go_ret;exact ⟨ret_i64 E'.out.symm,rfl⟩
 ·by_cases h1:k=1
  ·subst h1
   go_enter Tryz.func94,Tryz.ntmps94;go_wp2;go_ret;exact ⟨ret_i64 sizeI_one.symm,rfl⟩
  ·by_cases h4:1073741824<k
   ·have E':=Lib.hid (sizeI_high k h4)
    go_enter Tryz.func94,Tryz.ntmps94;go_wp2;go_ret;exact ⟨ret_i64 E'.out.symm,rfl⟩
   ·have g1:2≤k:=by omega
    have g2:k≤1073741824:=by omega
    clear h h1 h4 h2 h3;go_enter Tryz.func94,Tryz.ntmps94;go_wp2;go_loop [3] (fun t=>∃p:Int,∃j:Nat,Hid (p=2 ^ j)∧1≤p∧p<k∧t=.int .i64 (p * 2)) (fun t=>(2147483648 - intOf t).toNat)
    case atStart=>exact ⟨1,0,Lib.hid (by simp),by omega,by omega,rfl⟩
    case round=>
     obtain ⟨p,j,hp,p1,p2,rfl⟩:=hrel;by_cases hlt:p * 2<k
     ·go_wp2
      go_round
      case rel=>exact ⟨p * 2,j+1,Lib.hid (by rw [Int.pow_succ,hp.out]),by omega,by omega,rfl⟩
      case measure=>simp [intOf]; omega
     ·have E':=Lib.hid (sizeI_of k j g1 g2 (by rw [← hp.out]; exact p2) (by rw [← hp.out]; omega))
      go_wp2;go_ret;exact ⟨ret_i64 (by rw [E'.out,hp.out,Int.mul_comm]),rfl⟩
theorem rsize_any (k:Int) (w:World) (h2:-9223372036854775808≤k) (h3:k≤9223372036854775807) :
  Calls Tryz.prog 52 #[.int .i64 k] w fun e w'=>e=.returned (.int .i64 (sizeI k))∧w=w':=by
 by_cases h4:1073741824<k
 ·have E':=Lib.hid (sizeI_high k h4)
  go_enter Tryz.func52,Tryz.ntmps52;go_wp2;go_ret;exact ⟨ret_i64 E'.out.symm,rfl⟩
 ·by_cases h1:k=1
  ·subst h1
   go_enter Tryz.func52,Tryz.ntmps52;go_wp2;go_ret;exact ⟨ret_i64 sizeI_one.symm,rfl⟩
  ·by_cases h:k<1
   ·have E':=Lib.hid (sizeI_low k h)
    go_enter Tryz.func52,Tryz.ntmps52;go_wp2;go_loop [3] (fun t=>t=.int .i64 1) (fun _=>0)
    case atStart=>rfl
    case round=>
     subst hrel;go_wp2;go_ret;exact ⟨ret_i64 E'.out.symm,rfl⟩
   ·have g1:2≤k:=by omega
    have g2:k≤1073741824:=by omega
    have hn:(k == 1)=false:=by simpa using h1
    clear h h1 h4 h2 h3;go_enter Tryz.func52,Tryz.ntmps52;go_wp2;go_loop [3] (fun t=>∃p:Int,∃j:Nat,Hid (p=2 ^ j)∧1≤p∧p≤2 * (k - 1)∧t=.int .i64 p) (fun t=>(2147483648 - intOf t).toNat)
    case atStart=>exact ⟨1,0,Lib.hid (by simp),by omega,by omega,rfl⟩
    case round=>
     obtain ⟨p,j,hp,p1,p2,rfl⟩:=hrel;by_cases hlt:p<k
     ·go_wp2
      go_round
      case rel=>exact ⟨p * 2,j+1,Lib.hid (by rw [Int.pow_succ,hp.out]),by omega,by omega,rfl⟩
      case measure=>simp [intOf]; omega
     ·have E':Hid (sizeI k=p):=Lib.hid (by
       cases j with
       | zero=>have:=hp.out; simp at this; omega
       | succ i=>
        have e:=hp.out;rw [Int.pow_succ] at e;rw [sizeI_of k i g1 g2 (by omega) (by omega),e,Int.mul_comm])
      go_wp2;go_ret;exact ⟨ret_i64 E'.out.symm,rfl⟩
theorem sizeI_16 (x:Int) (h0:0≤x) (h1:x≤16):1≤sizeI x∧sizeI x≤16:=by
 rcases (show x=0∨x=1∨x=2∨x=3∨x=4∨x=5∨x=6∨x=7∨x=8∨x=9∨x=10∨x=11∨x=12∨x=13∨x=14∨x=15∨x=16 by omega) with rfl | rfl | rfl | rfl | rfl | rfl | rfl | rfl | rfl | rfl | rfl | rfl | rfl | rfl | rfl | rfl | rfl <;> decide +kernel
theorem slotI_lt (a n:Int) (h0:0≤a) (hn:1≤n):0≤slotI a n∧slotI a n<n:=by
 unfold slotI;rw [if_neg (by omega)];exact ⟨Int.emod_nonneg _ (by omega),Int.emod_lt_of_pos _ (by omega)⟩
theorem ConfM.good.cap {c:ConfM} (h:c.good) (k:Nat) (hk:k<c.caps.length):0≤c.caps.getD k 0∧c.caps.getD k 0≤16:=by
 rw [List.getD_eq_getElem?_getD,List.getElem?_eq_getElem hk];exact h.caps _ (List.getElem_mem hk)
def ConfM.size (c:ConfM) (k:Nat):Int:=sizeI (c.caps.getD k 0)
theorem ConfM.good.size {c:ConfM} (h:c.good) (k:Nat) (hk:k<c.caps.length):1≤c.size k∧c.size k≤16:=sizeI_16 _ (h.cap k hk).1 (h.cap k hk).2
def ConfM.base (c:ConfM):Nat→Int
 | 0=>0
 | k+1=>c.base k+(5+c.size k * 2)
theorem ConfM.good.base {c:ConfM} (h:c.good) (k:Nat) (hk:k≤c.caps.length):0≤c.base k∧c.base k≤37 * k:=by
 induction k with
 | zero=>exact ⟨Int.le_refl _,Int.le_refl _⟩
 | succ k ih=>
  have h1:=ih (by omega);have h2:=h.size k (by omega);show 0≤c.base k+(5+c.size k * 2)∧c.base k+(5+c.size k * 2)≤_;omega
theorem ConfM.good.base8 {c:ConfM} (h:c.good) (k:Nat) (hk:k≤c.caps.length):0≤c.base k∧c.base k≤296:=by
 have h1:=h.base k hk;have h2:=h.len;omega
def ConfM.slotW (c:ConfM) (k:Nat) (s:Int):Int:=c.base k+5+slotI s (c.size k) * 2
def ConfM.thrW (c:ConfM) (t:Int):Int:=c.base c.caps.length+t * 11
theorem SlI.cellAt {w:World} {k:IntKind} {a:Option Addr} {n cap:Nat} {l:List Int} (h:SlI w k (.slice a n cap) l) (t:Nat) (ht:t<l.length) :
  ∃b off,a=some ⟨b,off,none⟩∧b<w.heap.size∧w.cell? ⟨b,off+t,none⟩=some (.int k (l.getD t 0)):=by
 obtain ⟨_,_,a',cap',e,_,h5⟩:=h;simp only [Value.slice.injEq] at e;obtain ⟨rfl,_,_⟩:=e;exact h5 t ht
theorem slots_any (v:Value) (c:ConfM) (k:Nat) (w:World) (h:ConfV w v c) (hk:k<c.caps.length) (hg:c.good) :
  Calls Tryz.prog 117 #[v,.int .i64 k] w fun e w'=>e=.returned (.int .i64 (c.size k))∧Below w.heap.size w w':=by
 have HV:=Lib.hid h;obtain ⟨vc,vs,rfl,h1,h2⟩:=h;obtain ⟨a,cap,rfl,-⟩:=h1.len;obtain ⟨a2,cap2,rfl,-⟩:=h2.len;have hl:=hg.len;have HB:=Lib.hid (below_new (Below.refl w.heap.size w) (.cells #[.slice a c.caps.length cap,.slice a2 c.starts.length cap2,.int .i64 c.threads] 30));have T:=Lib.hid fun w'=>size_any (c.caps.getD k 0) w' (by have:=hg.cap k hk; omega) (by have:=hg.cap k hk; omega);obtain ⟨b,off,rfl,hb,hcell⟩:=h1.cellAt k hk;have hcell:(w.alloc (.cells #[.slice (some ⟨b,off,none⟩) c.caps.length cap,.slice a2 c.starts.length cap2,.int .i64 c.threads] 30)).cell? ⟨b,off+k,none⟩=some (.int .i64 (c.caps.getD k 0)):=(HB.out.cell (p:=⟨b,off+k,none⟩) hb).trans hcell;have hsz:Hid (c.size k=sizeI (c.caps.getD k 0)):=rfl;clear h1 h2;generalize c.caps.length=n at *;generalize c.caps.getD k 0=x at *;go_enter Tryz.func117,Tryz.ntmps117;go_wp2_with fail;refine (T.out _).mono ?_; rintro e w1 ⟨rfl,rfl⟩;go_wp2;go_ret;exact ⟨ret_i64 hsz.out.symm,HB.out⟩
theorem rsize4_any (v:Value) (c:ConfM) (k:Nat) (w:World) (h:ConfV w v c) (hk:k<c.caps.length) (hg:c.good) :
  Calls Tryz.prog 26 #[v,.int .i64 k] w fun e w'=>e=.returned (.int .i64 (c.size k))∧Below w.heap.size w w':=by
 have HV:=Lib.hid h;obtain ⟨vc,vs,rfl,h1,h2⟩:=h;obtain ⟨a,cap,rfl,-⟩:=h1.len;obtain ⟨a2,cap2,rfl,-⟩:=h2.len;have hl:=hg.len;have HB:=Lib.hid (below_new (Below.refl w.heap.size w) (.cells #[.slice a c.caps.length cap,.slice a2 c.starts.length cap2,.int .i64 c.threads] 30));have T:=Lib.hid fun w'=>rsize_any (c.caps.getD k 0) w' (by have:=hg.cap k hk; omega) (by have:=hg.cap k hk; omega);obtain ⟨b,off,rfl,hb,hcell⟩:=h1.cellAt k hk;have hcell:(w.alloc (.cells #[.slice (some ⟨b,off,none⟩) c.caps.length cap,.slice a2 c.starts.length cap2,.int .i64 c.threads] 30)).cell? ⟨b,off+k,none⟩=some (.int .i64 (c.caps.getD k 0)):=(HB.out.cell (p:=⟨b,off+k,none⟩) hb).trans hcell;have hsz:Hid (c.size k=sizeI (c.caps.getD k 0)):=rfl;clear h1 h2;generalize c.caps.length=n at *;generalize c.caps.getD k 0=x at *;go_enter Tryz.func26,Tryz.ntmps26;go_wp2_with fail;refine (T.out _).mono ?_; rintro e w1 ⟨rfl,rfl⟩;go_wp2;go_ret;exact ⟨ret_i64 hsz.out.symm,HB.out⟩
set_option maxHeartbeats 1000000 in
theorem base_any (v:Value) (c:ConfM) (k:Nat) (w:World) (h:ConfV w v c) (hk:k≤c.caps.length) (hg:c.good) :
  Calls Tryz.prog 97 #[v,.int .i64 k] w fun e w'=>e=.returned (.int .i64 (c.base k))∧Below w.heap.size w w':=by
 have HV:=Lib.hid h;obtain ⟨vc,vs,rfl,h1,h2⟩:=h;obtain ⟨a,cap,rfl,-⟩:=h1.len;obtain ⟨a2,cap2,rfl,-⟩:=h2.len;have hl:=hg.len;have HB:=Lib.hid (below_new (Below.refl w.heap.size w) (.cells #[.slice a c.caps.length cap,.slice a2 c.starts.length cap2,.int .i64 c.threads] 30));have T:=Lib.hid fun j (w':World) h hj=>slots_any (.agg #[.slice a c.caps.length cap,.slice a2 c.starts.length cap2,.int .i64 c.threads]) c j w' h hj hg;have HN:=Lib.hid fun j hj=>hg.base8 j hj;have HZ:=Lib.hid fun j hj=>hg.size j hj;have HK:=Lib.hid hk;have hk8:k≤8:=by omega
 obtain ⟨W,hW⟩:∃W,w.alloc (.cells #[.slice a c.caps.length cap,.slice a2 c.starts.length cap2,.int .i64 c.threads] 30)=W:=⟨_,rfl⟩;rw [hW] at HB;have R0:Hid (W.heap[w.heap.size]?=some (.cells #[.slice a c.caps.length cap,.slice a2 c.starts.length cap2,.int .i64 c.threads] 30 (0,0))):=hW▸heap_alloc_new _ _;have hzW:w.heap.size+1=W.heap.size:=by rw [← hW]; simp
 have HW:=Lib.hid hW;have hcl:(c.caps.length:Int)≤8:=by omega
 clear h1 h2 hg hW;go_enter Tryz.func97,Tryz.ntmps97;go_upto_region 1 with fail
 rw [HW.out];clear HW;obtain ⟨x0,x1,x2⟩:=rowc3 R0.out;go_wp2_with fail;go_loopw [5,12] (fun s i wr=>∃j:Nat,j≤k∧s=.int .i64 (c.base j)∧i=.int .i64 j∧Hid (Below W.heap.size W wr)) (fun _ i _=>9 - (intOf i).toNat)
 case atStart=>exact ⟨0,by omega,rfl,rfl,Below.refl _ _⟩
 case round=>
  obtain ⟨j,hj,rfl,rfl,hb⟩:=hrel;obtain ⟨wo,rfl⟩:∃wo:World,wo=wr:=⟨_,rfl⟩;have SB:=Lib.hid ((hb.out.block w.heap.size (by omega)).trans R0.out);have hn:=HN.out j (by have:=HK.out; omega);clear x0 x1 x2;obtain ⟨x0,x1,x2⟩:=rowc3 SB.out;by_cases hlt:j<k
  ·have hz:=HZ.out j (by have:=HK.out; omega)
   have hjn:=Lib.hid (show j<c.caps.length by have:=HK.out; omega);have HBS:Hid (c.base (j+1)=c.base j+(5+c.size j * 2)):=rfl;go_wp2_with fail;refine (T.out j _ ((HV.out.below HB.out).below hb.out) hjn.out).mono ?_; rintro e w1 ⟨rfl,hb1⟩;have hb2:=Lib.hid (below_then hb.out hb1);clear hb1 hb;go_wp2;go_roundw
   case rel=>exact ⟨j+1,by omega,by (first | (rw [HBS.out]; done) | (rw [HBS.out]; exact congrArg (Value.int .i64) (by omega))),by go_num,hb2⟩
   case measure=>simp [intOf]; omega
  ·obtain rfl:j=k:=by omega
   go_wp2;go_ret;exact ⟨rfl,below_then HB.out hb.out⟩
set_option maxHeartbeats 1000000 in
theorem rtail_any (v:Value) (c:ConfM) (k:Nat) (w:World) (h:ConfV w v c) (hk:k≤c.caps.length) (hg:c.good) :
  Calls Tryz.prog 7 #[v,.int .i64 k] w fun e w'=>e=.returned (.int .i64 (c.base k))∧Below w.heap.size w w':=by
 have HV:=Lib.hid h;obtain ⟨vc,vs,rfl,h1,h2⟩:=h;obtain ⟨a,cap,rfl,-⟩:=h1.len;obtain ⟨a2,cap2,rfl,-⟩:=h2.len;have hl:=hg.len;have HB:=Lib.hid (below_new (Below.refl w.heap.size w) (.cells #[.slice a c.caps.length cap,.slice a2 c.starts.length cap2,.int .i64 c.threads] 30));have T:=Lib.hid fun j (w':World) h hj=>rsize4_any (.agg #[.slice a c.caps.length cap,.slice a2 c.starts.length cap2,.int .i64 c.threads]) c j w' h hj hg;have HN:=Lib.hid fun j hj=>hg.base8 j hj;have HZ:=Lib.hid fun j hj=>hg.size j hj;have HK:=Lib.hid hk;have hk8:k≤8:=by omega
 obtain ⟨W,hW⟩:∃W,w.alloc (.cells #[.slice a c.caps.length cap,.slice a2 c.starts.length cap2,.int .i64 c.threads] 30)=W:=⟨_,rfl⟩;rw [hW] at HB;have R0:Hid (W.heap[w.heap.size]?=some (.cells #[.slice a c.caps.length cap,.slice a2 c.starts.length cap2,.int .i64 c.threads] 30 (0,0))):=hW▸heap_alloc_new _ _;have hzW:w.heap.size+1=W.heap.size:=by rw [← hW]; simp
 have HW:=Lib.hid hW;have hcl:(c.caps.length:Int)≤8:=by omega
 clear h1 h2 hg hW;go_enter Tryz.func7,Tryz.ntmps7;go_upto_region 1 with fail
 rw [HW.out];clear HW;obtain ⟨x0,x1,x2⟩:=rowc3 R0.out;go_wp2_with fail;go_loopw [5,6] (fun s i wr=>∃j:Nat,j≤k∧s=.int .i64 (c.base j)∧i=.int .i64 j∧Hid (Below W.heap.size W wr)) (fun _ i _=>9 - (intOf i).toNat)
 case atStart=>exact ⟨0,by omega,rfl,rfl,Below.refl _ _⟩
 case round=>
  obtain ⟨j,hj,rfl,rfl,hb⟩:=hrel;obtain ⟨wo,rfl⟩:∃wo:World,wo=wr:=⟨_,rfl⟩;have SB:=Lib.hid ((hb.out.block w.heap.size (by omega)).trans R0.out);have hn:=HN.out j (by have:=HK.out; omega);clear x0 x1 x2;obtain ⟨x0,x1,x2⟩:=rowc3 SB.out;by_cases hlt:j<k
  ·have hz:=HZ.out j (by have:=HK.out; omega)
   have hjn:=Lib.hid (show j<c.caps.length by have:=HK.out; omega);have HBS:Hid (c.base (j+1)=c.base j+(5+c.size j * 2)):=rfl;go_wp2_with fail;refine (T.out j _ ((HV.out.below HB.out).below hb.out) hjn.out).mono ?_; rintro e w1 ⟨rfl,hb1⟩;have hb2:=Lib.hid (below_then hb.out hb1);clear hb1 hb;go_wp2;go_roundw
   case rel=>exact ⟨j+1,by omega,by (first | (rw [HBS.out]; done) | (rw [HBS.out]; exact congrArg (Value.int .i64) (by omega))),by go_num,hb2⟩
   case measure=>simp [intOf]; omega
  ·obtain rfl:j=k:=by omega
   go_wp2;go_ret;exact ⟨rfl,below_then HB.out hb.out⟩
theorem slotW_eq (c:ConfM) (k:Nat) (s:Int):c.slotW k s=c.base k+5+slotI s (c.size k) * 2:=rfl
set_option maxHeartbeats 1000000 in
theorem tailW_any (v:Value) (c:ConfM) (k:Nat) (hk:k<c.caps.length) (w:World) (h:ConfV w v c) (hg:c.good) :
  Calls Tryz.prog 65 #[v,.int .i64 k] w fun e w'=>e=.returned (.int .i64 (c.base k+0))∧Below w.heap.size w w':=by
 have HV:=Lib.hid h;obtain ⟨vc,vs,rfl,h1,h2⟩:=h;obtain ⟨a,cap,rfl,-⟩:=h1.len;obtain ⟨a2,cap2,rfl,-⟩:=h2.len;have HB:=Lib.hid (below_new (Below.refl w.heap.size w) (.cells #[.slice a c.caps.length cap,.slice a2 c.starts.length cap2,.int .i64 c.threads] 30));have hl:=hg.len;clear h1 h2;have hn:=hg.base8 k (Nat.le_of_lt hk);go_enter Tryz.func65,Tryz.ntmps65;go_wp2_with fail;refine (base_any _ c k _ (HV.out.below HB.out) (Nat.le_of_lt hk) hg).mono ?_; rintro e w1 ⟨rfl,hb1⟩;have HB1:=Lib.hid (below_then HB.out hb1);clear hb1;go_wp2;go_ret;exact ⟨ret_i64 (by omega),HB1.out⟩
set_option maxHeartbeats 1000000 in
theorem headW_any (v:Value) (c:ConfM) (k:Nat) (hk:k<c.caps.length) (w:World) (h:ConfV w v c) (hg:c.good) :
  Calls Tryz.prog 66 #[v,.int .i64 k] w fun e w'=>e=.returned (.int .i64 (c.base k+1))∧Below w.heap.size w w':=by
 have HV:=Lib.hid h;obtain ⟨vc,vs,rfl,h1,h2⟩:=h;obtain ⟨a,cap,rfl,-⟩:=h1.len;obtain ⟨a2,cap2,rfl,-⟩:=h2.len;have HB:=Lib.hid (below_new (Below.refl w.heap.size w) (.cells #[.slice a c.caps.length cap,.slice a2 c.starts.length cap2,.int .i64 c.threads] 30));have hl:=hg.len;clear h1 h2;have hn:=hg.base8 k (Nat.le_of_lt hk);go_enter Tryz.func66,Tryz.ntmps66;go_wp2_with fail;refine (base_any _ c k _ (HV.out.below HB.out) (Nat.le_of_lt hk) hg).mono ?_; rintro e w1 ⟨rfl,hb1⟩;have HB1:=Lib.hid (below_then HB.out hb1);clear hb1;go_wp2;go_ret;exact ⟨ret_i64 (by omega),HB1.out⟩
set_option maxHeartbeats 1000000 in
theorem rheadW_any (v:Value) (c:ConfM) (k:Nat) (hk:k<c.caps.length) (w:World) (h:ConfV w v c) (hg:c.good) :
  Calls Tryz.prog 8 #[v,.int .i64 k] w fun e w'=>e=.returned (.int .i64 (c.base k+1))∧Below w.heap.size w w':=by
 have HV:=Lib.hid h;obtain ⟨vc,vs,rfl,h1,h2⟩:=h;obtain ⟨a,cap,rfl,-⟩:=h1.len;obtain ⟨a2,cap2,rfl,-⟩:=h2.len;have HB:=Lib.hid (below_new (Below.refl w.heap.size w) (.cells #[.slice a c.caps.length cap,.slice a2 c.starts.length cap2,.int .i64 c.threads] 30));have hl:=hg.len;clear h1 h2;have hn:=hg.base8 k (Nat.le_of_lt hk);go_enter Tryz.func8,Tryz.ntmps8;go_wp2_with fail;refine (rtail_any _ c k _ (HV.out.below HB.out) (Nat.le_of_lt hk) hg).mono ?_; rintro e w1 ⟨rfl,hb1⟩;have HB1:=Lib.hid (below_then HB.out hb1);clear hb1;go_wp2;go_ret;exact ⟨ret_i64 (by omega),HB1.out⟩
set_option maxHeartbeats 1000000 in
theorem rclaimW_any (v:Value) (c:ConfM) (t:Int) (h0:0≤t) (h8:t≤8) (w:World) (h:ConfV w v c) (hg:c.good) :
  Calls Tryz.prog 61 #[v,.int .i64 t] w fun e w'=>e=.returned (.int .i64 (c.thrW t))∧Below w.heap.size w w':=by
 have HV:=Lib.hid h;obtain ⟨vc,vs,rfl,h1,h2⟩:=h;obtain ⟨a,cap,rfl,-⟩:=h1.len;obtain ⟨a2,cap2,rfl,-⟩:=h2.len;have HB:=Lib.hid (below_new (Below.refl w.heap.size w) (.cells #[.slice a c.caps.length cap,.slice a2 c.starts.length cap2,.int .i64 c.threads] 30));have hl:=hg.len;clear h1 h2;have hn:=hg.base8 c.caps.length (Nat.le_refl _);have HE:Hid (c.thrW t=c.base c.caps.length+t * 11):=rfl;have hcl:(c.caps.length:Int)≤8:=by omega
 go_enter Tryz.func61,Tryz.ntmps61;go_wp2_with fail;refine (rtail_any _ c c.caps.length _ (HV.out.below HB.out) (Nat.le_refl _) hg).mono ?_; rintro e w1 ⟨rfl,hb1⟩;have HB1:=Lib.hid (below_then HB.out hb1);clear hb1;go_wp2;go_ret;exact ⟨ret_i64 (by first | (rw [HE.out]; done) | (rw [HE.out]; omega)),HB1.out⟩
theorem ConfM.good.thr8 {c:ConfM} (h:c.good) (t:Int) (h0:0≤t) (h8:t≤8):0≤c.thrW t∧c.thrW t≤384:=by
 have h1:=h.base8 c.caps.length (Nat.le_refl _);show 0≤c.base c.caps.length+t * 11∧c.base c.caps.length+t * 11≤384;omega
set_option maxHeartbeats 1000000 in
theorem rwords_any (v:Value) (c:ConfM) (w:World) (h:ConfV w v c) (hg:c.good) :
  Calls Tryz.prog 40 #[v] w fun e w'=>e=.returned (.int .i64 (c.thrW c.threads))∧Below w.heap.size w w':=by
 have HV:=Lib.hid h;obtain ⟨vc,vs,rfl,h1,h2⟩:=h;obtain ⟨a,cap,rfl,-⟩:=h1.len;obtain ⟨a2,cap2,rfl,-⟩:=h2.len;have HB:=Lib.hid (below_new (Below.refl w.heap.size w) (.cells #[.slice a c.caps.length cap,.slice a2 c.starts.length cap2,.int .i64 c.threads] 30));have hl:=hg.len;clear h1 h2;have hn:=hg.thr8 c.threads (by have:=hg.thr; omega) hg.thr.2;go_enter Tryz.func40,Tryz.ntmps40;go_wp2_with fail;refine (rclaimW_any _ c c.threads (by have:=hg.thr; omega) hg.thr.2 _ (HV.out.below HB.out) hg).mono ?_; rintro e w1 ⟨rfl,hb1⟩;have HB1:=Lib.hid (below_then HB.out hb1);clear hb1;go_wp2;go_ret;exact ⟨rfl,HB1.out⟩
set_option maxHeartbeats 1000000 in
theorem slotBase_any (v:Value) (c:ConfM) (k:Nat) (s:Int) (hk:k<c.caps.length) (hs0:0≤s) (hs1:s<18446744073709551616) (w:World) (h:ConfV w v c) (hg:c.good) :
  Calls Tryz.prog 116 #[v,.int .i64 k,.int .u64 s] w fun e w'=>e=.returned (.int .i64 (c.slotW k s))∧Below w.heap.size w w':=by
 have HV:=Lib.hid h;obtain ⟨vc,vs,rfl,h1,h2⟩:=h;obtain ⟨a,cap,rfl,-⟩:=h1.len;obtain ⟨a2,cap2,rfl,-⟩:=h2.len;have HB:=Lib.hid (below_new (Below.refl w.heap.size w) (.cells #[.slice a c.caps.length cap,.slice a2 c.starts.length cap2,.int .i64 c.threads] 30));have hl:=hg.len;clear h1 h2;have hn:=hg.base8 k (Nat.le_of_lt hk);have hz:=hg.size k hk;have hq:=slotI_lt s (c.size k) hs0 hz.1;have HE:Hid (c.slotW k s=c.base k+5+slotI s (c.size k) * 2):=rfl;have S:=Lib.hid fun w' h=>slots_any (.agg #[.slice a c.caps.length cap,.slice a2 c.starts.length cap2,.int .i64 c.threads]) c k w' h hk hg;have SL:=Lib.hid fun w'=>slot_any s (c.size k) w' hs0 hs1 (by omega) (by omega);have BA:=Lib.hid fun w' h=>base_any (.agg #[.slice a c.caps.length cap,.slice a2 c.starts.length cap2,.int .i64 c.threads]) c k w' h (Nat.le_of_lt hk) hg;obtain ⟨W,hW⟩:∃W,w.alloc (.cells #[.slice a c.caps.length cap,.slice a2 c.starts.length cap2,.int .i64 c.threads] 30)=W:=⟨_,rfl⟩;rw [hW] at HB;have R0:Hid (W.heap[w.heap.size]?=some (.cells #[.slice a c.caps.length cap,.slice a2 c.starts.length cap2,.int .i64 c.threads] 30 (0,0))):=hW▸heap_alloc_new _ _;have hzW:w.heap.size<W.heap.size:=by rw [← hW]; simp
 have HW:=Lib.hid hW;clear hW;generalize slotI s (c.size k)=q at *;clear hs0 hs1 hk hg;go_enter Tryz.func116,Tryz.ntmps116;go_upto_region 1 with fail
 rw [HW.out];clear HW;obtain ⟨x0,x1,x2⟩:=rowc3 R0.out;go_wp2_with fail;refine (S.out _ (HV.out.below HB.out)).mono ?_; rintro e w1 ⟨rfl,hb1⟩;have HB1:=Lib.hid (below_then HB.out hb1);have R1:=Lib.hid ((hb1.block w.heap.size (by omega)).trans R0.out);clear hb1 x0 x1 x2;obtain ⟨x0,x1,x2⟩:=rowc3 R1.out;go_wp2_with fail;refine (SL.out _).mono ?_; rintro e w2 ⟨rfl,rfl⟩;go_wp2_with fail;refine (BA.out _ (HV.out.below HB1.out)).mono ?_; rintro e w1 ⟨rfl,hb1⟩;have HB2:=Lib.hid (below_then HB1.out hb1);clear hb1;go_wp2;go_ret;exact ⟨ret_i64 (by first | (rw [HE.out]; done) | (rw [HE.out]; omega)),HB2.out⟩
theorem ConfM.good.slot8 {c:ConfM} (h:c.good) (k:Nat) (s:Int) (hk:k<c.caps.length) (hs0:0≤s):0≤c.slotW k s∧c.slotW k s≤400:=by
 have h1:=h.base8 k (Nat.le_of_lt hk);have h2:=h.size k hk;have h3:=slotI_lt s (c.size k) hs0 h2.1;show 0≤c.base k+5+slotI s (c.size k) * 2∧c.base k+5+slotI s (c.size k) * 2≤400;omega
set_option maxHeartbeats 1000000 in
theorem slotSeqW_any (v:Value) (c:ConfM) (k:Nat) (s:Int) (hk:k<c.caps.length) (hs0:0≤s) (hs1:s<18446744073709551616) (w:World) (h:ConfV w v c) (hg:c.good) :
  Calls Tryz.prog 95 #[v,.int .i64 k,.int .u64 s] w fun e w'=>e=.returned (.int .i64 (c.slotW k s))∧Below w.heap.size w w':=by
 have HV:=Lib.hid h;obtain ⟨vc,vs,rfl,h1,h2⟩:=h;obtain ⟨a,cap,rfl,-⟩:=h1.len;obtain ⟨a2,cap2,rfl,-⟩:=h2.len;have HB:=Lib.hid (below_new (Below.refl w.heap.size w) (.cells #[.slice a c.caps.length cap,.slice a2 c.starts.length cap2,.int .i64 c.threads] 30));have hl:=hg.len;clear h1 h2;have hn:=hg.slot8 k s hk hs0;go_enter Tryz.func95,Tryz.ntmps95;go_wp2_with fail;refine (slotBase_any _ c k s hk hs0 hs1 _ (HV.out.below HB.out) hg).mono ?_; rintro e w1 ⟨rfl,hb1⟩;have HB1:=Lib.hid (below_then HB.out hb1);clear hb1;go_wp2;go_ret;exact ⟨ret_i64 (by omega),HB1.out⟩
set_option maxHeartbeats 1000000 in
theorem slotValueW_any (v:Value) (c:ConfM) (k:Nat) (s:Int) (hk:k<c.caps.length) (hs0:0≤s) (hs1:s<18446744073709551616) (w:World) (h:ConfV w v c) (hg:c.good) :
  Calls Tryz.prog 96 #[v,.int .i64 k,.int .u64 s] w fun e w'=>e=.returned (.int .i64 (c.slotW k s+1))∧Below w.heap.size w w':=by
 have HV:=Lib.hid h;obtain ⟨vc,vs,rfl,h1,h2⟩:=h;obtain ⟨a,cap,rfl,-⟩:=h1.len;obtain ⟨a2,cap2,rfl,-⟩:=h2.len;have HB:=Lib.hid (below_new (Below.refl w.heap.size w) (.cells #[.slice a c.caps.length cap,.slice a2 c.starts.length cap2,.int .i64 c.threads] 30));have hl:=hg.len;clear h1 h2;have hn:=hg.slot8 k s hk hs0;go_enter Tryz.func96,Tryz.ntmps96;go_wp2_with fail;refine (slotBase_any _ c k s hk hs0 hs1 _ (HV.out.below HB.out) hg).mono ?_; rintro e w1 ⟨rfl,hb1⟩;have HB1:=Lib.hid (below_then HB.out hb1);clear hb1;go_wp2;go_ret;exact ⟨ret_i64 (by omega),HB1.out⟩
set_option maxHeartbeats 1000000 in
theorem rslotSeqW_any (v:Value) (c:ConfM) (k:Nat) (s:Int) (hk:k<c.caps.length) (hs0:0≤s) (hs1:s<18446744073709551616) (w:World) (h:ConfV w v c) (hg:c.good) :
  Calls Tryz.prog 43 #[v,.int .i64 k,.int .u64 s] w fun e w'=>e=.returned (.int .i64 (c.slotW k s))∧Below w.heap.size w w':=by
 have HV:=Lib.hid h;obtain ⟨vc,vs,rfl,h1,h2⟩:=h;obtain ⟨a,cap,rfl,-⟩:=h1.len;obtain ⟨a2,cap2,rfl,-⟩:=h2.len;have HB:=Lib.hid (below_new (Below.refl w.heap.size w) (.cells #[.slice a c.caps.length cap,.slice a2 c.starts.length cap2,.int .i64 c.threads] 30));have hl:=hg.len;clear h1 h2;have hn:=hg.base8 k (Nat.le_of_lt hk);have hz:=hg.size k hk;have hq:=slotI_lt s (c.size k) hs0 hz.1;have HE:Hid (c.slotW k s=c.base k+5+slotI s (c.size k) * 2):=rfl;have S:=Lib.hid fun w' h=>rsize4_any (.agg #[.slice a c.caps.length cap,.slice a2 c.starts.length cap2,.int .i64 c.threads]) c k w' h hk hg;have SL:=Lib.hid fun w'=>rslot_any s (c.size k) w' hs0 hs1 (by omega) (by omega);have BA:=Lib.hid fun w' h=>rtail_any (.agg #[.slice a c.caps.length cap,.slice a2 c.starts.length cap2,.int .i64 c.threads]) c k w' h (Nat.le_of_lt hk) hg;obtain ⟨W,hW⟩:∃W,w.alloc (.cells #[.slice a c.caps.length cap,.slice a2 c.starts.length cap2,.int .i64 c.threads] 30)=W:=⟨_,rfl⟩;rw [hW] at HB;have R0:Hid (W.heap[w.heap.size]?=some (.cells #[.slice a c.caps.length cap,.slice a2 c.starts.length cap2,.int .i64 c.threads] 30 (0,0))):=hW▸heap_alloc_new _ _;have hzW:w.heap.size<W.heap.size:=by rw [← hW]; simp
 have HW:=Lib.hid hW;clear hW;generalize hqq:slotI s (c.size k)=q at *;clear hs0 hs1 hk hg hqq;go_enter Tryz.func43,Tryz.ntmps43;go_upto_region 1 with fail
 rw [HW.out];clear HW;obtain ⟨x0,x1,x2⟩:=rowc3 R0.out;have X0:=ext_cell _ 0 hzW _ x0;have X1:=ext_cell _ 1 hzW _ x1;have X2:=ext_cell _ 2 hzW _ x2;have CX0:=Lib.hid X0;clear x0 x1 x2;refine wp_region_ext W (by kernel_rfl) (by kernel_rfl) (Below.refl _ _) ?_
 repeat (go_big_quiet_step (first
  | (go_at_call 7; with_reducible exact calls_ext (BA.out _ (HV.out.below (HB.out.trans (Below.mono (Ext.below _) (Nat.le_of_lt hzW))))))
  | (go_at_call 26; with_reducible exact calls_ext (S.out _ (HV.out.below (HB.out.trans (Below.mono (Ext.below _) (Nat.le_of_lt hzW))))))
  | (go_at_call 62; with_reducible exact calls_ext ((SL.out _).mono fun _ _ h=>⟨h.1,h.2▸Below.refl _ _⟩))))
 refine wpQuiet_nil ?_;intro _ hw';obtain ⟨w2,rfl⟩:=hw';have HB2:=Lib.hid (HB.out.trans (w2.below.mono (Nat.le_of_lt hzW)));generalize w2.wd=w3 at *;go_wp2;go_ret;exact ⟨ret_i64 (by first | (rw [HE.out]; done) | (rw [HE.out]; omega)),HB2.out⟩
set_option maxHeartbeats 1000000 in
theorem rslotValueW_any (v:Value) (c:ConfM) (k:Nat) (s:Int) (hk:k<c.caps.length) (hs0:0≤s) (hs1:s<18446744073709551616) (w:World) (h:ConfV w v c) (hg:c.good) :
  Calls Tryz.prog 82 #[v,.int .i64 k,.int .u64 s] w fun e w'=>e=.returned (.int .i64 (c.slotW k s+1))∧Below w.heap.size w w':=by
 have HV:=Lib.hid h;obtain ⟨vc,vs,rfl,h1,h2⟩:=h;obtain ⟨a,cap,rfl,-⟩:=h1.len;obtain ⟨a2,cap2,rfl,-⟩:=h2.len;have HB:=Lib.hid (below_new (Below.refl w.heap.size w) (.cells #[.slice a c.caps.length cap,.slice a2 c.starts.length cap2,.int .i64 c.threads] 30));have hl:=hg.len;clear h1 h2;have hn:=hg.slot8 k s hk hs0;go_enter Tryz.func82,Tryz.ntmps82;go_wp2_with fail;refine (rslotSeqW_any _ c k s hk hs0 hs1 _ (HV.out.below HB.out) hg).mono ?_; rintro e w1 ⟨rfl,hb1⟩;have HB1:=Lib.hid (below_then HB.out hb1);clear hb1;go_wp2;go_ret;exact ⟨ret_i64 (by omega),HB1.out⟩
def restI (a b:Int):Int:=(a - b) % 9223372036854775808
def accZ:AccM:=⟨0,0,0,0,0⟩
def pushNE (c:ConfM) (k:Nat) (m:MachM):AccM:=
 if m.pl=1∨m.pl=3 then ⟨1,c.base k,0,0,0⟩ else if m.pl=2 then ⟨1,c.base k+1,0,0,0⟩ else if m.pl=4 then ⟨1,c.slotW k (m.t / 2),0,0,0⟩
 else if m.pl=5 then ⟨3,c.base k,m.t,packI (nextI (m.t / 2) 1) false,0⟩ else if m.pl=6 then ⟨6,c.slotW k (m.t / 2)+1,0,m.val,0⟩ else ⟨2,c.slotW k (m.t / 2),0,nextI (m.t / 2) 1,0⟩
def popNE (c:ConfM) (k:Nat) (m:MachM):AccM:=
 if m.pl=1∨m.pl=3 then ⟨1,c.base k+1,0,0,0⟩ else if m.pl=2 then ⟨1,c.base k,0,0,0⟩ else if m.pl=4 then ⟨1,c.slotW k m.h,0,0,0⟩
 else if m.pl=5 then ⟨3,c.base k+1,m.h,nextI m.h 1,0⟩ else if m.pl=6 then ⟨5,c.slotW k m.h+1,0,0,0⟩ else ⟨2,c.slotW k m.h,0,nextI m.h (c.size k),0⟩
def shutNE (c:ConfM) (k:Nat) (m:MachM):AccM:=if m.pl=1 then ⟨1,c.base k,0,0,0⟩ else ⟨3,c.base k,m.t,packI (m.t / 2) true,0⟩
def countNE (c:ConfM) (k:Nat) (m:MachM):AccM:=if m.pl=2 then ⟨1,c.base k+1,0,0,0⟩ else ⟨1,c.base k,0,0,0⟩
def rgNE (c:ConfM) (m:MachM):AccM:=
 if m.pl=0 then accZ else if m.what=3 then pushNE c m.chan.toNat m else if m.what=4 then popNE c m.chan.toNat m else if m.what=5 then shutNE c m.chan.toNat m else countNE c m.chan.toNat m
def pushRE (kc:Int) (m:MachM) (b:AnsM):MachM:=
 if m.pl=1 then (if closedB b.val=true then { m with t:=b.val,pl:=0,ok:=4,ov:=0 } else { m with t:=b.val,pl:=2 })
 else if m.pl=2 then (if restI (m.t / 2) b.val=kc then { m with pl:=3 } else if kc<restI (m.t / 2) b.val then { m with pl:=1 } else { m with pl:=4 })
 else if m.pl=3 then (if b.val=m.t then { m with pl:=0,ok:=2,ov:=0 } else if closedB b.val=true then { m with t:=b.val,pl:=0,ok:=4,ov:=0 } else { m with t:=b.val,pl:=2 })
 else if m.pl=4 then (if b.val=m.t / 2 then { m with pl:=5 } else { m with pl:=1 })
 else if m.pl=5 then (if b.ok=true then { m with pl:=6 } else { m with pl:=1 })
 else if m.pl=6 then { m with pl:=7 } else { m with pl:=0,ok:=1,ov:=0 }
def popRE (kc:Int) (m:MachM) (b:AnsM):MachM:=
 if m.pl=1 then { m with h:=b.val,pl:=2 }
 else if m.pl=2 then (if restI (b.val / 2) m.h=0 then { m with t:=b.val,pl:=3 } else if kc<restI (b.val / 2) m.h then { m with t:=b.val,pl:=1 } else { m with t:=b.val,pl:=4 })
 else if m.pl=3 then (if ¬b.val=m.h then { m with h:=b.val,pl:=2 } else if closedB m.t=true then { m with pl:=0,ok:=5,ov:=0 } else { m with pl:=0,ok:=3,ov:=0 })
 else if m.pl=4 then (if b.val=nextI m.h 1 then { m with pl:=5 } else { m with pl:=1 })
 else if m.pl=5 then (if b.ok=true then { m with pl:=6 } else { m with pl:=1 })
 else if m.pl=6 then { m with val:=b.val,pl:=7 } else { m with pl:=0,ok:=6,ov:=m.val }
def shutRE (m:MachM) (b:AnsM):MachM:=
 if m.pl=1 then (if closedB b.val=true then { m with t:=b.val,pl:=0,ok:=4,ov:=0 } else { m with t:=b.val,pl:=2 })
 else if b.ok=true then { m with pl:=0,ok:=1,ov:=0 } else { m with pl:=1 }
def countRE (m:MachM) (b:AnsM):MachM:=
 if m.pl=1 then { m with t:=b.val,pl:=2 } else if m.pl=2 then { m with h:=b.val,pl:=3 }
 else if b.val=m.t then { m with pl:=0,ok:=9,ov:=restI (m.t / 2) m.h } else { m with t:=b.val,pl:=2 }
def rgRE (c:ConfM) (m:MachM) (b:AnsM):MachM:=
 if m.pl=0 then m else if m.what=3 then pushRE (c.caps.getD m.chan.toNat 0) m b else if m.what=4 then popRE (c.caps.getD m.chan.toNat 0) m b else if m.what=5 then shutRE m b else countRE m b
def U64 (x:Int):Prop:=0≤x∧x<18446744073709551616
theorem U64.wrap {x:Int} (h:U64 x):x=IntKind.u64.wrap x:=by rw [IntKind.wrap_u64]; have:=h.1; have:=h.2; omega
theorem U64.of {x:Int} (h:x=IntKind.u64.wrap x):U64 x:=by rw [IntKind.wrap_u64] at h; unfold U64; omega
structure rgK (c:ConfM) (m:MachM):Prop where
 what:m.what=3∨m.what=4∨m.what=5∨m.what=6
 pl:0≤m.pl∧m.pl≤7∧(m.what=5→m.pl≤2)∧(m.what=6→m.pl≤3)
 chan:∃k:Nat,k<c.caps.length∧m.chan=k
 val:U64 m.val
 t:U64 m.t
 h:U64 m.h
structure Goes (m:MachM) (b:AnsM) (r:MachM) (hi:Int):Prop where
 what:r.what=m.what
 chan:r.chan=m.chan
 thr:r.thr=m.thr
 pl:0≤r.pl∧r.pl≤hi
 val:r.val=m.val∨r.val=b.val
 t:r.t=m.t∨r.t=b.val
 h:r.h=m.h∨r.h=b.val
theorem Goes.mk' (m:MachM) (b:AnsM) (hi p v t h o u:Int) (hp:0≤p∧p≤hi) (hv:v=m.val∨v=b.val) (ht:t=m.t∨t=b.val) (hh:h=m.h∨h=b.val):Goes m b ⟨m.what,p,m.chan,m.thr,m.idx,m.kind,v,t,h,o,u⟩ hi:=⟨rfl,rfl,rfl,hp,hv,ht,hh⟩
theorem pushRE_goes (kc:Int) (m:MachM) (b:AnsM):Goes m b (pushRE kc m b) 7:=by
 unfold pushRE
 repeat' split
 all_goals exact Goes.mk' m b 7 _ _ _ _ _ _ (by omega) (by first | exact .inl rfl | exact .inr rfl) (by first | exact .inl rfl | exact .inr rfl) (by first | exact .inl rfl | exact .inr rfl)
theorem popRE_goes (kc:Int) (m:MachM) (b:AnsM):Goes m b (popRE kc m b) 7:=by
 unfold popRE
 repeat' split
 all_goals exact Goes.mk' m b 7 _ _ _ _ _ _ (by omega) (by first | exact .inl rfl | exact .inr rfl) (by first | exact .inl rfl | exact .inr rfl) (by first | exact .inl rfl | exact .inr rfl)
theorem shutRE_goes (m:MachM) (b:AnsM):Goes m b (shutRE m b) 2:=by
 unfold shutRE
 repeat' split
 all_goals exact Goes.mk' m b 2 _ _ _ _ _ _ (by omega) (by first | exact .inl rfl | exact .inr rfl) (by first | exact .inl rfl | exact .inr rfl) (by first | exact .inl rfl | exact .inr rfl)
theorem countRE_goes (m:MachM) (b:AnsM):Goes m b (countRE m b) 3:=by
 unfold countRE
 repeat' split
 all_goals exact Goes.mk' m b 3 _ _ _ _ _ _ (by omega) (by first | exact .inl rfl | exact .inr rfl) (by first | exact .inl rfl | exact .inr rfl) (by first | exact .inl rfl | exact .inr rfl)
theorem rgRE_goes (c:ConfM) (m:MachM) (b:AnsM) (h:0≤m.pl∧m.pl≤7∧(m.what=5→m.pl≤2)∧(m.what=6→m.pl≤3)):∃hi,Goes m b (rgRE c m b) hi∧hi≤7∧(m.what=5→hi≤2)∧((m.what=6∧¬m.what=5)→hi≤3):=by
 unfold rgRE;split
 ·exact ⟨m.pl,⟨rfl,rfl,rfl,⟨by omega,by omega⟩,.inl rfl,.inl rfl,.inl rfl⟩,by omega,by omega,by omega⟩
 ·split
  ·exact ⟨7,pushRE_goes _ _ _,by omega,by omega,by omega⟩
  ·split
   ·exact ⟨7,popRE_goes _ _ _,by omega,by omega,by omega⟩
   ·split
    ·exact ⟨2,shutRE_goes _ _,by omega,by omega,by omega⟩
    ·exact ⟨3,countRE_goes _ _,by omega,by omega,by omega⟩
theorem rgRE_what (c:ConfM) (m:MachM) (b:AnsM):(rgRE c m b).what=m.what:=by
 unfold rgRE;split
 ·rfl
 ·split
  ·exact (pushRE_goes _ _ _).what
  ·split
   ·exact (popRE_goes _ _ _).what
   ·split
    ·exact (shutRE_goes _ _).what
    ·exact (countRE_goes _ _).what
theorem rgK_RE {c:ConfM} {m:MachM} {b:AnsM} (h:rgK c m) (hb:U64 b.val):rgK c (rgRE c m b):=by
 obtain ⟨hi,g,h7,h5,h6⟩:=rgRE_goes c m b h.pl;have hw:=h.what;have hg:=g.pl;have cases2:∀{x a b:Int},U64 a→U64 b→(x=a∨x=b)→U64 x:=fun ha hb h=>by rcases h with rfl | rfl <;> assumption
 refine ⟨by rw [g.what]; exact hw,⟨hg.1,by omega,by rw [g.what]; intro e; have:=h5 e; omega,by rw [g.what]; intro e; have:=h6 ⟨e,by omega⟩; omega⟩,by rw [g.chan]; exact h.chan,cases2 h.val hb g.val,cases2 h.t hb g.t,cases2 h.h hb g.h⟩
theorem U64.zero:U64 0:=⟨by omega,by omega⟩
theorem rgK_new (c:ConfM) (what:Int) (k:Nat) (th v:Int) (hw:what=3∨what=4∨what=5∨what=6) (hk:k<c.caps.length) (hv:U64 v):rgK c ⟨what,1,k,th,v % 4,v % 8,v,0,0,0,0⟩:=
 ⟨hw,⟨by show (0:Int)≤1; omega,by show (1:Int)≤7; omega,fun _=>by show (1:Int)≤2; omega,fun _=>by show (1:Int)≤3; omega⟩,⟨k,hk,rfl⟩,hv,U64.zero,U64.zero⟩
theorem applyE_val {m:MemM} (h:m.fits) (a:AccM):U64 (applyE m a).2.1.val:=by
 have hz:U64 0:=⟨by omega,by omega⟩;have hw:∀i,U64 (m.words.getD i 0):=fun i=>by
  by_cases hi:i<m.words.length
  ·rw [List.getD_eq_getElem?_getD,List.getElem?_eq_getElem hi]; exact U64.of (h.wf _ (List.getElem_mem hi))
  ·rw [List.getD_eq_getElem?_getD,List.getElem?_eq_none (by omega)]; exact hz
 have hl:∀l:List Int,l.length≤100000→U64 (l.length:Int):=fun l hl=>⟨by omega,by omega⟩;unfold applyE listE wordE
 repeat' split
 all_goals first | exact hz | exact hw _ | exact hl _ (nextL_length _ _ _ (h.each _))
def capB (x:Int):Bool:=decide (0≤x) && decide (x≤16)
def startB (x:Int):Bool:=decide (x<9223372036854775808)
def checkC (c:ConfM):Int:=
 if 8<c.caps.length then 3 else if c.starts.length≠c.caps.length then 5 else if c.caps.all capB=false then 2 else if c.starts.all startB=false then 2 else
 if c.threads<1∨8<c.threads then 2 else 0
theorem checkC_good {c:ConfM} (h:c.good):checkC c=0:=by
 have h1:=h.len;have h2:=h.thr;have h3:c.caps.all capB=true:=List.all_eq_true.2 fun x hx=>by have:=h.caps x hx; simp [capB,this]
 have h4:c.starts.all startB=true:=List.all_eq_true.2 fun x hx=>by have:=h.starts x hx; simp [startB,this]
 unfold checkC;rw [if_neg (by omega),if_neg (by simp [h.same]),if_neg (by simp [h3]),if_neg (by simp [h4]),if_neg (by omega)]
theorem good_of_check {c:ConfM} (h:checkC c=0) (hs:∀x∈c.starts,0≤x):c.good:=by
 unfold checkC at h;split at h
 ·omega
 split at h
 ·omega
 split at h
 ·omega
 split at h
 ·omega
 split at h
 ·omega
 rename_i h1 h2 h3 h4 h5;simp only [Bool.not_eq_false] at h3 h4;refine ⟨by omega,by simpa using h2,fun x hx=>?_,fun x hx=>?_,by omega⟩
 ·have:=List.all_eq_true.1 h3 x hx
  simpa [capB] using this
 ·have:=List.all_eq_true.1 h4 x hx
  simp [startB] at this;exact ⟨hs x hx,this⟩
theorem checkC_many {c:ConfM} (h:8<c.caps.length):checkC c=3:=by unfold checkC; rw [if_pos h]
theorem checkC_shape {c:ConfM} (h:¬8<c.caps.length) (h2:c.starts.length≠c.caps.length):checkC c=5:=by unfold checkC; rw [if_neg h,if_pos h2]
theorem all_bad {l:List Int} {p:Int→Bool} (j:Nat) (h:j<l.length) (hb:p (l.getD j 0)=false):l.all p=false:=by
 rw [List.all_eq_false];rw [List.getD_eq_getElem?_getD,List.getElem?_eq_getElem h] at hb;exact ⟨_,List.getElem_mem h,by simpa using hb⟩
theorem all_next {l:List Int} {p:Int→Bool} (j:Nat) (h:j<l.length) (ha:(l.take j).all p=true) (hb:p (l.getD j 0)=true):(l.take (j+1)).all p=true:=by
 rw [List.take_add_one,List.getElem?_eq_getElem h,List.all_append,ha];rw [List.getD_eq_getElem?_getD,List.getElem?_eq_getElem h] at hb;simpa using hb
theorem checkC_caps {c:ConfM} (h:¬8<c.caps.length) (h2:c.starts.length=c.caps.length) (h3:c.caps.all capB=false):checkC c=2:=by
 unfold checkC; rw [if_neg h,if_neg (by simp [h2]),if_pos h3]
theorem checkC_starts {c:ConfM} (h:¬8<c.caps.length) (h2:c.starts.length=c.caps.length) (h4:c.starts.all startB=false):checkC c=2:=by
 unfold checkC; rw [if_neg h,if_neg (by simp [h2])]; simp only [h4,if_true]; split <;> rfl
theorem checkC_thr {c:ConfM} (h:¬8<c.caps.length) (h2:c.starts.length=c.caps.length) (h3:c.caps.all capB=true) (h4:c.starts.all startB=true):checkC c=if c.threads<1∨8<c.threads then 2 else 0:=by
 unfold checkC; rw [if_neg h,if_neg (by simp [h2]),if_neg (by simp [h3]),if_neg (by simp [h4])]
set_option maxHeartbeats 2000000 in
theorem checkC_any (v:Value) (c:ConfM) (w:World) (h:ConfV w v c) :
  Calls Tryz.prog 93 #[v] w fun e w'=>e=.returned (.int .i64 (checkC c))∧Below w.heap.size w w':=by
 obtain ⟨vc,vs,rfl,h1,h2⟩:=h;have hn:=h1.1;have hm:=h2.1;obtain ⟨a,cap,rfl,-⟩:=h1.len;obtain ⟨a2,cap2,rfl,-⟩:=h2.len;obtain ⟨W,hW⟩:∃W,w.alloc (.cells #[.slice a c.caps.length cap,.slice a2 c.starts.length cap2,.int .i64 c.threads] 30)=W:=⟨_,rfl⟩;have HB:Hid (Below w.heap.size w W):=hW▸below_new (Below.refl w.heap.size w) _;have R0:Hid (W.heap[w.heap.size]?=some (.cells #[.slice a c.caps.length cap,.slice a2 c.starts.length cap2,.int .i64 c.threads] 30 (0,0))):=hW▸heap_alloc_new _ _;have S1:=Lib.hid (h1.below HB.out);have S2:=Lib.hid (h2.below HB.out);have HW:=Lib.hid hW;clear h1 h2 hW;have CM:=Lib.hid (checkC_many (c:=c));have CS:=Lib.hid (checkC_shape (c:=c));have CC:=Lib.hid (checkC_caps (c:=c));have CT:=Lib.hid (checkC_starts (c:=c));have CZ:=Lib.hid (checkC_thr (c:=c));generalize hcn:c.caps.length=n at *;generalize hcm:c.starts.length=m at *;have HN:=Lib.hid hcn;have HM:=Lib.hid hcm;clear hcn hcm;generalize c.threads=thr at *;go_enter Tryz.func93,Tryz.ntmps93;go_upto_region 1 with fail
 rw [HW.out];clear HW;obtain ⟨x0,x1,x2⟩:=rowc3 R0.out;by_cases h8:8<n
 ·go_wp2
  go_ret;exact ⟨ret_i64 (CM.out h8).symm,HB.out⟩
 by_cases hs:m=n
 case neg=>
  have hsb:((m:Int) != (n:Int))=true:=by simp; omega
  have HS:=Lib.hid hs;clear hs;go_wp2;go_ret;exact ⟨ret_i64 (CS.out h8 HS.out).symm,HB.out⟩
 case pos=>
 subst hs;go_wp2_with fail;go_loop [21] (fun i=>∃j:Nat,j≤m∧i=.int .i64 j∧Hid ((c.caps.take j).all capB=true)) (fun i=>9 - (intOf i).toNat)
 case atStart=>exact ⟨0,by omega,rfl,(by simp:(c.caps.take 0).all capB=true)⟩
 case round=>
  obtain ⟨j,hj,rfl,hall⟩:=hrel;by_cases hlt:j<m
  ·obtain ⟨b,off,rfl,hb,hc⟩:=S1.out.cellAt j (by rw [HN.out]; exact hlt)
   have BD:=Lib.hid fun h=>all_bad (l:=c.caps) (p:=capB) j (by rw [HN.out]; exact hlt) h;have NX:=Lib.hid fun h=>all_next (l:=c.caps) (p:=capB) j (by rw [HN.out]; exact hlt) hall.out h;generalize c.caps.getD j 0=x at *;by_cases h0:0≤x∧x≤16
   ·obtain ⟨h0,h1⟩:=h0
    have hx:=Lib.hid (NX.out (by simp [capB,h0,h1]));clear BD NX;go_wp2;go_round
    case rel=>exact ⟨j+1,by omega,by go_num,hx⟩
    case measure=>simp [intOf]; omega
   ·have hx:=Lib.hid (CC.out h8 (by trivial) (BD.out (by simp [capB]; omega)))
    clear BD NX;by_cases hx0:x<0
    ·go_wp2
     go_ret;exact ⟨ret_i64 hx.out.symm,HB.out⟩
    ·have hx1:16<x:=by omega
     clear h0;go_wp2;go_ret;exact ⟨ret_i64 hx.out.symm,HB.out⟩
  ·obtain rfl:j=m:=by omega
   have HA:Hid (c.caps.all capB=true):=by
    have:=hall.out;rw [List.take_of_length_le (by rw [HN.out]; exact Nat.le_refl _)] at this;exact this
   clear hall;go_wp2_with fail;go_loop [35] (fun i=>∃t:Nat,t≤j∧i=.int .i64 t∧Hid ((c.starts.take t).all startB=true)) (fun i=>9 - (intOf i).toNat)
   case atStart=>exact ⟨0,by omega,rfl,(by simp:(c.starts.take 0).all startB=true)⟩
   case round=>
    obtain ⟨t,ht,rfl,hall⟩:=hrel;by_cases htl:t<j
    ·obtain ⟨b,off,rfl,hb,hc⟩:=S2.out.cellAt t (by rw [HM.out]; exact htl)
     have BD:=Lib.hid fun h=>all_bad (l:=c.starts) (p:=startB) t (by rw [HM.out]; exact htl) h;have NX:=Lib.hid fun h=>all_next (l:=c.starts) (p:=startB) t (by rw [HM.out]; exact htl) hall.out h;generalize c.starts.getD t 0=x at *;by_cases h0:x<9223372036854775808
     ·have hx:=Lib.hid (NX.out (by simp [startB,h0]))
      clear BD NX;have hxd:decide (9223372036854775808≤x)=false:=decide_eq_false (by omega);clear h0;go_wp2;go_round
      case rel=>exact ⟨t+1,by omega,by go_num,hx⟩
      case measure=>simp [intOf]; omega
     ·have hx:=Lib.hid (CT.out h8 (by trivial) (BD.out (by simp [startB]; omega)))
      clear BD NX;have hxd:decide (9223372036854775808≤x)=true:=decide_eq_true (by omega);clear h0;go_wp2;go_ret;exact ⟨ret_i64 hx.out.symm,HB.out⟩
    ·obtain rfl:t=j:=by omega
     have HA2:Hid (c.starts.all startB=true):=by
      have:=hall.out;rw [List.take_of_length_le (by rw [HM.out]; exact Nat.le_refl _)] at this;exact this
     have HZ:=Lib.hid (CZ.out h8 (by trivial) HA.out HA2.out);clear hall HA HA2;by_cases h1:thr<1
     ·go_wp2
      go_ret;exact ⟨ret_i64 (by rw [HZ.out,if_pos (.inl h1)]),HB.out⟩
     ·by_cases h9:8<thr
      ·go_wp2
       go_ret;exact ⟨ret_i64 (by rw [HZ.out,if_pos (.inr h9)]),HB.out⟩
      ·go_wp2
       go_ret;exact ⟨ret_i64 (by rw [HZ.out,if_neg (by omega)]),HB.out⟩
set_option maxHeartbeats 2000000 in
theorem rcheckC_any (v:Value) (c:ConfM) (w:World) (h:ConfV w v c) :
  Calls Tryz.prog 39 #[v] w fun e w'=>e=.returned (.int .i64 (checkC c))∧Below w.heap.size w w':=by
 obtain ⟨vc,vs,rfl,h1,h2⟩:=h;have hn:=h1.1;have hm:=h2.1;obtain ⟨a,cap,rfl,-⟩:=h1.len;obtain ⟨a2,cap2,rfl,-⟩:=h2.len;obtain ⟨W,hW⟩:∃W,w.alloc (.cells #[.slice a c.caps.length cap,.slice a2 c.starts.length cap2,.int .i64 c.threads] 30)=W:=⟨_,rfl⟩;have HB:Hid (Below w.heap.size w W):=hW▸below_new (Below.refl w.heap.size w) _;have R0:Hid (W.heap[w.heap.size]?=some (.cells #[.slice a c.caps.length cap,.slice a2 c.starts.length cap2,.int .i64 c.threads] 30 (0,0))):=hW▸heap_alloc_new _ _;have S1:=Lib.hid (h1.below HB.out);have S2:=Lib.hid (h2.below HB.out);have HW:=Lib.hid hW;clear h1 h2 hW;have CM:=Lib.hid (checkC_many (c:=c));have CS:=Lib.hid (checkC_shape (c:=c));have CC:=Lib.hid (checkC_caps (c:=c));have CT:=Lib.hid (checkC_starts (c:=c));have CZ:=Lib.hid (checkC_thr (c:=c));generalize hcn:c.caps.length=n at *;generalize hcm:c.starts.length=m at *;have HN:=Lib.hid hcn;have HM:=Lib.hid hcm;clear hcn hcm;generalize c.threads=thr at *;go_enter Tryz.func39,Tryz.ntmps39;go_upto_region 1 with fail
 rw [HW.out];clear HW;obtain ⟨x0,x1,x2⟩:=rowc3 R0.out;by_cases h8:8<n
 ·go_wp2
  go_ret;exact ⟨ret_i64 (CM.out h8).symm,HB.out⟩
 by_cases hs:m=n
 case neg=>
  have hsb:((m:Int) != (n:Int))=true:=by simp; omega
  have HS:=Lib.hid hs;clear hs;go_wp2;go_ret;exact ⟨ret_i64 (CS.out h8 HS.out).symm,HB.out⟩
 case pos=>
 subst hs;go_wp2_with fail;go_loop [3] (fun i=>∃j:Nat,j≤m∧i=.int .i64 j∧Hid ((c.caps.take j).all capB=true)) (fun i=>9 - (intOf i).toNat)
 case atStart=>exact ⟨0,by omega,rfl,(by simp:(c.caps.take 0).all capB=true)⟩
 case round=>
  obtain ⟨j,hj,rfl,hall⟩:=hrel;by_cases hlt:j<m
  ·obtain ⟨b,off,rfl,hb,hc⟩:=S1.out.cellAt j (by rw [HN.out]; exact hlt)
   have BD:=Lib.hid fun h=>all_bad (l:=c.caps) (p:=capB) j (by rw [HN.out]; exact hlt) h;have NX:=Lib.hid fun h=>all_next (l:=c.caps) (p:=capB) j (by rw [HN.out]; exact hlt) hall.out h;generalize c.caps.getD j 0=x at *;by_cases h0:0≤x∧x≤16
   ·obtain ⟨h0,h1⟩:=h0
    have hx:=Lib.hid (NX.out (by simp [capB,h0,h1]));clear BD NX;go_wp2;go_round
    case rel=>exact ⟨j+1,by omega,by go_num,hx⟩
    case measure=>simp [intOf]; omega
   ·have hx:=Lib.hid (CC.out h8 (by trivial) (BD.out (by simp [capB]; omega)))
    clear BD NX;by_cases hx0:x<0
    ·go_wp2
     go_ret;exact ⟨ret_i64 hx.out.symm,HB.out⟩
    ·have hx1:16<x:=by omega
     clear h0;go_wp2;go_ret;exact ⟨ret_i64 hx.out.symm,HB.out⟩
  ·obtain rfl:j=m:=by omega
   have HA:Hid (c.caps.all capB=true):=by
    have:=hall.out;rw [List.take_of_length_le (by rw [HN.out]; exact Nat.le_refl _)] at this;exact this
   clear hall;go_wp2_with fail;go_loop [4] (fun i=>∃t:Nat,t≤j∧i=.int .i64 t∧Hid ((c.starts.take t).all startB=true)) (fun i=>9 - (intOf i).toNat)
   case atStart=>exact ⟨0,by omega,rfl,(by simp:(c.starts.take 0).all startB=true)⟩
   case round=>
    obtain ⟨t,ht,rfl,hall⟩:=hrel;by_cases htl:t<j
    ·obtain ⟨b,off,rfl,hb,hc⟩:=S2.out.cellAt t (by rw [HM.out]; exact htl)
     have BD:=Lib.hid fun h=>all_bad (l:=c.starts) (p:=startB) t (by rw [HM.out]; exact htl) h;have NX:=Lib.hid fun h=>all_next (l:=c.starts) (p:=startB) t (by rw [HM.out]; exact htl) hall.out h;generalize c.starts.getD t 0=x at *;by_cases h0:x<9223372036854775808
     ·have hx:=Lib.hid (NX.out (by simp [startB,h0]))
      clear BD NX;have hxd:decide (9223372036854775808≤x)=false:=decide_eq_false (by omega);clear h0;go_wp2;go_round
      case rel=>exact ⟨t+1,by omega,by go_num,hx⟩
      case measure=>simp [intOf]; omega
     ·have hx:=Lib.hid (CT.out h8 (by trivial) (BD.out (by simp [startB]; omega)))
      clear BD NX;have hxd:decide (9223372036854775808≤x)=true:=decide_eq_true (by omega);clear h0;go_wp2;go_ret;exact ⟨ret_i64 hx.out.symm,HB.out⟩
    ·obtain rfl:t=j:=by omega
     have HA2:Hid (c.starts.all startB=true):=by
      have:=hall.out;rw [List.take_of_length_le (by rw [HM.out]; exact Nat.le_refl _)] at this;exact this
     have HZ:=Lib.hid (CZ.out h8 (by trivial) HA.out HA2.out);clear hall HA HA2;by_cases h1:thr<1
     ·go_wp2
      go_ret;exact ⟨ret_i64 (by rw [HZ.out,if_pos (.inl h1)]),HB.out⟩
     ·by_cases h9:8<thr
      ·go_wp2
       go_ret;exact ⟨ret_i64 (by rw [HZ.out,if_pos (.inr h9)]),HB.out⟩
      ·go_wp2
       go_ret;exact ⟨ret_i64 (by rw [HZ.out,if_neg (by omega)]),HB.out⟩
theorem results_cell_tmp {fn:Func} {P:Program} {p u:Tmp} {t1:TypeId} (h:fn.results=#[.cell p t1,.tmp u]) (tmps:Array Value) (w:World) (g1:Nat) (u1:TypeId) (c1:Array Value) (f1:Nat × Nat) (d1:TypeDesc)
  (hp:tmps.getD p undef=.pointer (some ⟨g1,0,none⟩)) (hg1:w.heap[g1]?=some (.cells c1 u1 f1))
  (hu1:P.underlying t1=some d1) (hd1:(match d1 with | .struct _ | .array _ _=>true | _=>false)=true) (hi1:(P.info? t1).map (·.size)=some c1.size) (x:Value) (hx:tmps.getD u undef=x) :
  (results fn tmps).run P w=.ok (.tuple #[.agg c1,x]) w:=by
 have hp':tmps[p]?.getD undef=.pointer (some ⟨g1,0,none⟩):=by simpa using hp
 have hx':tmps[u]?.getD undef=x:=by simpa using hx
 simp [results,h,hp',hx',asAddr,run_loadVar_row w g1 u1 t1 c1 f1 d1 hg1 hu1 hd1 hi1]
def zeroMem5:Array Value:=#[.slice none 0 0,.slice none 0 0,.int .i64 0]
def ConfM.st (c:ConfM) (k:Nat):Int:=c.starts.getD k 0
def slotsE (c:ConfM) (k:Nat) (ws:List Int):Nat→List Int
 | 0=>ws
 | j+1=>(slotsE c k ws j).set (c.slotW k (nextI (c.st k) j)).toNat (nextI (c.st k) j)
def headE (c:ConfM) (k:Nat) (ws:List Int):List Int:=(ws.set (c.base k).toNat (packI (c.st k) false)).set (c.base k+1).toNat (c.st k)
def chansE (c:ConfM):Nat→List Int
 | 0=>List.replicate (c.thrW c.threads).toNat 0
 | k+1=>slotsE c k (headE c k (chansE c k)) (c.size k).toNat
def newE (c:ConfM):MemM:=if checkC c=0 then ⟨chansE c c.caps.length,List.replicate (2 * c.caps.length) [],0⟩ else ⟨[],[],0⟩
theorem slotsE_len (c:ConfM) (k:Nat) (ws:List Int) (j:Nat):(slotsE c k ws j).length=ws.length:=by
 induction j with
 | zero=>rfl
 | succ j ih=>show (List.set _ _ _).length=_; rw [List.length_set,ih]
theorem headE_len (c:ConfM) (k:Nat) (ws:List Int):(headE c k ws).length=ws.length:=by simp [headE]
theorem chansE_len (c:ConfM) (k:Nat):(chansE c k).length=(c.thrW c.threads).toNat:=by
 induction k with
 | zero=>exact List.length_replicate
 | succ k ih=>show (slotsE _ _ _ _).length=_; rw [slotsE_len,headE_len,ih]
def Wf (l:List Int):Prop:=∀x∈l,x=IntKind.u64.wrap x
theorem Wf.set {l:List Int} (h:Wf l) (i:Nat) (x:Int) (hx:x=IntKind.u64.wrap x):Wf (l.set i x):=by
 intro y hy;rcases List.mem_or_eq_of_mem_set hy with hy | rfl
 ·exact h y hy
 ·exact hx
theorem next_wf (a n:Int):nextI a n=IntKind.u64.wrap (nextI a n):=by rw [IntKind.wrap_u64]; unfold nextI; omega
theorem next_lt (a n:Int):0≤nextI a n∧nextI a n<9223372036854775808:=by unfold nextI; omega
theorem ConfM.good.st {c:ConfM} (h:c.good) (k:Nat) (hk:k<c.caps.length):0≤c.st k∧c.st k<9223372036854775808:=by
 have hk2:k<c.starts.length:=by rw [h.same]; exact hk
 show 0≤c.starts.getD k 0∧c.starts.getD k 0<9223372036854775808;rw [List.getD_eq_getElem?_getD,List.getElem?_eq_getElem hk2];exact h.starts _ (List.getElem_mem hk2)
theorem slotsE_wf (c:ConfM) (k:Nat) {ws:List Int} (h:Wf ws) (j:Nat):Wf (slotsE c k ws j):=by
 induction j with
 | zero=>exact h
 | succ j ih=>exact Wf.set ih _ _ (next_wf _ _)
theorem headE_wf {c:ConfM} {k:Nat} (hs:0≤c.st k∧c.st k<9223372036854775808) {ws:List Int} (h:Wf ws):Wf (headE c k ws):=by
 refine Wf.set (Wf.set h _ _ ?_) _ _ ?_
 ·rw [IntKind.wrap_u64]; unfold packI; simp <;> omega
 ·rw [IntKind.wrap_u64]; omega
theorem chansE_wf {c:ConfM} (hg:c.good) (k:Nat) (hk:k≤c.caps.length):Wf (chansE c k):=by
 induction k with
 | zero=>intro x hx; rw [(List.mem_replicate.1 hx).2]; decide
 | succ k ih=>exact slotsE_wf _ _ (headE_wf (hg.st k (by omega)) (ih (by omega))) _
theorem ConfM.good.mono {c:ConfM} (h:c.good) (k:Nat) (hk:k<c.caps.length):c.base k+(5+c.size k * 2)≤c.base c.caps.length:=by
 have key:∀d,k+1+d≤c.caps.length→c.base (k+1)≤c.base (k+1+d):=by
  intro d;induction d with
  | zero=>intro _; exact Int.le_refl _
  | succ d ih=>
   intro hd;have h1:=ih (by omega);have h2:=h.size (k+1+d) (by omega);have e:c.base (k+1+(d+1))=c.base (k+1+d)+(5+c.size (k+1+d) * 2):=rfl;omega
 have h1:=key (c.caps.length - (k+1)) (by omega);rw [show k+1+(c.caps.length - (k+1))=c.caps.length by omega] at h1;exact h1
theorem ConfM.good.slot_in {c:ConfM} (h:c.good) (k:Nat) (s:Int) (hk:k<c.caps.length) (hs:0≤s):0≤c.slotW k s∧c.slotW k s+1<c.thrW c.threads:=by
 have h1:=h.mono k hk;have h2:=h.base8 k (Nat.le_of_lt hk);have h3:=h.size k hk;have h4:=slotI_lt s (c.size k) hs h3.1;have h5:=h.thr;show 0≤c.base k+5+slotI s (c.size k) * 2∧c.base k+5+slotI s (c.size k) * 2+1<c.base c.caps.length+c.threads * 11;omega
theorem ConfM.good.base_in {c:ConfM} (h:c.good) (k:Nat) (hk:k<c.caps.length):0≤c.base k∧c.base k+1<c.thrW c.threads:=by
 have h1:=h.mono k hk;have h2:=h.base8 k (Nat.le_of_lt hk);have h3:=h.size k hk;have h5:=h.thr;show 0≤c.base k∧c.base k+1<c.base c.caps.length+c.threads * 11;omega
theorem Tryz.info_lists:(Tryz.prog.info? 27).map (fun i=>(i.zero,i.size,i.bytes))=some (some (.slice none 0 0),1,24):=by kernel_rfl
theorem nils_read {w:World} {base n:Nat} {v:Value} (h:w.ownsRow base 27 1 v n (List.replicate n (.slice none 0 0))) (hn:n≤1000000):SlL w v (List.replicate n (.slice none 0 0)) (List.replicate n []):=by
 have hl:(List.replicate n ([]:List Int)).length=n:=List.length_replicate;refine row_read (by rw [hl]; exact h) (fun t ht=>?_) (by rw [hl]; omega);rw [hl] at ht;rw [show (List.replicate n (Value.slice none 0 0)).getD t (.slice none 0 0)=.slice none 0 0 by simp [List.getD_eq_getElem?_getD,ht],show (List.replicate n ([]:List Int)).getD t []=[] by simp [List.getD_eq_getElem?_getD,ht]];exact SlI.nil _ _
structure NewI (w0 wr:World) (X t:Nat) (ws:List Int):Prop where
 row:OwnI wr X 42 .u64 (.slice (some ⟨X,0,none⟩) t t) ws
 len:ws.length=t
 below:Below X w0 wr
theorem NewI.next {w0 wr w2:World} {X t:Nat} {ws:List Int} (h:NewI w0 wr X t ws) (hb:Below wr.heap.size wr w2):NewI w0 w2 X t ws:=by
 have hX:X≤wr.heap.size:=by
  rcases h.row.shape with ⟨h1,_⟩ | ⟨g,cap,h1,_,h2,_⟩
  ·simp at h1
  ·simp only [Value.slice.injEq,Option.some.injEq,Addr.mk.injEq] at h1; omega
 exact ⟨h.row.below hb,h.len,h.below.trans (hb.mono hX)⟩
theorem NewI.set {w0 wr:World} {X t:Nat} {ws:List Int} (h:NewI w0 wr X t ws) (i:Nat) (x:Int):NewI w0 (wr.setCell ⟨X,i,none⟩ (.int .u64 x)) X t (ws.set i x):=
 ⟨h.row.store i x h.len.symm,by rw [List.length_set]; exact h.len,h.below.setCell (p:=⟨X,i,none⟩) (Nat.le_refl _) _⟩
end Go.Proofs.YtjnlkemdaffgbaaGreat
