/-
  What place's Within, At and Addr answer, at the landed code, whatever lies in memory.
  What the calls of package table do: found, Find, Holder, Len, isLocal, isPage, join, part; maps.Clone.
  What the calls of package table do: join, part.
  Spans that lie where a slice says; two lists of spans that are alike.
  A row of spans that grows.
-/
import Derived.Test.YtndhbnhobhkmaaaGreatDoorPlFloat
import Derived.RegionTactic
import Derived.ChangeAlike
set_option maxRecDepth 20000
set_option maxHeartbeats 4000000
namespace Go.Proofs.YtndhbnhobhkmaaaGreatDoor.Pt
open Go.RowKit
def K(w0 w:World):Prop:=Fr (fun _=>False) w0 w
theorem pw{x:Int}(h: -9223372036854775808≤x∧x≤9223372036854775807):IntKind.i64.wrap x=x:=by rw[IntKind.wrap_i64];omega
section
variable{w0 w:World}
theorem gm(a n:Int)(ha:I64 a)(_hn:I64 n)(k:K w0 w):Calls Tryz.prog 156 #[.int .i64 a,.int .i64 n] w fun e w'=>e=.returned (.bool (decide (InW a n)))∧K w0 w':=by
 have HK:=hid k;clear k;by_cases h0:0≤n
 ·by_cases h1:131072≤a
  ·have hm:Hid (decide (InW a n)=decide (n≤3276800 - a)):=decide_eq_decide.2 (by omega);generalize decide (InW a n)=r at *;go_enter Tryz.func156,Tryz.ntmps156;go_wp2;go_ret;exact⟨by rw[hm.out];rfl,HK.out⟩
  ·have hm:Hid (decide (InW a n)=false):=decide_eq_false (p:=InW a n) (by omega);generalize decide (InW a n)=r at *;clear ha;go_enter Tryz.func156,Tryz.ntmps156;go_wp2;go_ret;exact⟨by rw[hm.out];rfl,HK.out⟩
 ·have hm:Hid (decide (InW a n)=false):=decide_eq_false (p:=InW a n) (by omega);generalize decide (InW a n)=r at *;clear ha;go_enter Tryz.func156,Tryz.ntmps156;go_wp2;go_ret;exact⟨by rw[hm.out];rfl,HK.out⟩
theorem b_in(a:Int)(ha:I64 a)(k:K w0 w):Calls Tryz.prog 210 #[.int .i64 a] w fun e w'=>e=.returned (.bool (decide (Win a)))∧K w0 w':=by
 have H1:=hid (gm a 1 ha (by decide) k);have hm:Hid (decide (Win a)=decide (InW a 1)):=decide_eq_decide.2 (by omega);rw[hm.out];clear ha k hm;generalize decide (InW a 1)=r at *;go_enter Tryz.func210,Tryz.ntmps210;go_wp2_with fail;refine H1.out.mono ?_;rintro e w' ⟨rfl,hk⟩;have HK:=hid hk;clear hk;go_wp2;go_ret;exact⟨rfl,HK.out⟩
theorem l_at{a:Int}(h:Win a)(k:K w0 w):Calls Tryz.prog 157 #[.int .i64 a] w fun e w'=>e=.returned (.tuple #[.complex .f64 (fb (a / 512)) (fb (a % 512)),.int .i64 0])∧K w0 w':=by
 have H1:=hid (b_in a (by omega) k);rw[decide_eq_true h] at H1;have t1:Int.tdiv a 512=a / 512:=Int.tdiv_eq_ediv_of_nonneg (by omega);have t2:Int.tmod a 512=a % 512:=Int.tmod_eq_emod_of_nonneg (by omega);have t3:=pw (x:=a / 512) (by omega);have t4:=pw (x:=a % 512) (by omega);clear h k;generalize a / 512=p at *;generalize a % 512=q at *;show Calls Tryz.prog 157 #[.int .i64 a] w fun e w'=>e=.returned (.tuple #[.complex .f64 (floatOfInt .f64 p) (floatOfInt .f64 q),.int .i64 0])∧K w0 w'
 go_enter Tryz.func157,Tryz.ntmps157;go_wp2_with fail;refine H1.out.mono ?_;rintro e w1 ⟨rfl,hk⟩;have HK1:=hid hk;clear hk;go_wp2;go_ret2;exact⟨by simp,HK1.out⟩
theorem bS(x:Nat)(q:Int)(hq:floatToIntVal .f64 x .i64=some q)(w:World):(convert 121 3 (.float .f64 x)).run Tryz.prog w=.ok (.int .i64 q) w:=
 run_convert_float_int w _ _ .f64 .i64 x q (by rw[Tryz.underlying121];rfl) Tryz.underlying3 hq
theorem gG(x y:Nat):(whB x 256 6400&&whB y 0 512)=(((FloatKind.f64.format.order x 4643211215818981376==some .gt||FloatKind.f64.format.order x 4643211215818981376==some .eq)&&(FloatKind.f64.format.order x 4663758889118859264==some .lt)&&(match floatToIntVal .f64 x .i64 with|some q=>FloatKind.f64.format.order (floatOfInt .f64 q) x==some .eq |none=>false))&&((FloatKind.f64.format.order y 0==some .gt||FloatKind.f64.format.order y 0==some .eq)&&(FloatKind.f64.format.order y 4647714815446351872==some .lt)&&(match floatToIntVal .f64 y .i64 with|some q=>FloatKind.f64.format.order (floatOfInt .f64 q) y==some .eq |none=>false))):=by
 unfold whB geB ltB;rw[←xL,←pX,←xK,bN];rfl
theorem iu{x:Nat}(h1:(FloatKind.f64.format.order x 4643211215818981376==some .gt||FloatKind.f64.format.order x 4643211215818981376==some .eq)=true)(h2:(FloatKind.f64.format.order x 4663758889118859264==some .lt)=true):∃q:Int,floatToIntVal .f64 x .i64=some q∧256≤q∧q<6400:=jT x 256 6400 (by decide) (by decide) (by decide) (by decide) (by unfold geB;rw[←xL];exact h1) (by unfold ltB;rw[←pX];exact h2)
theorem eI{y:Nat}(h1:(FloatKind.f64.format.order y 0==some .gt||FloatKind.f64.format.order y 0==some .eq)=true)(h2:(FloatKind.f64.format.order y 4647714815446351872==some .lt)=true):∃q:Int,floatToIntVal .f64 y .i64=some q∧0≤q∧q<512:=jT y 0 512 (by decide) (by decide) (by decide) (by decide) (by unfold geB;rw[bN];exact h1) (by unfold ltB;rw[←xK];exact h2)
theorem iW{x y:Nat}(g1:(FloatKind.f64.format.order x 4643211215818981376==some .gt||FloatKind.f64.format.order x 4643211215818981376==some .eq)=false)(k:K w0 w):Calls Tryz.prog 250 #[.complex .f64 x y] w fun e w'=>e=.returned (.tuple #[.int .i64 0,.int .i64 4])∧K w0 w':=by
 have HK:=hid k;clear k;go_enter Tryz.func250,Tryz.ntmps250;go_wp2;go_ret2;exact⟨by simp,HK.out⟩
theorem iV{x y:Nat}(g1:(FloatKind.f64.format.order x 4643211215818981376==some .gt||FloatKind.f64.format.order x 4643211215818981376==some .eq)=true)(l1:(FloatKind.f64.format.order x 4663758889118859264==some .lt)=false)(k:K w0 w):Calls Tryz.prog 250 #[.complex .f64 x y] w fun e w'=>e=.returned (.tuple #[.int .i64 0,.int .i64 4])∧K w0 w':=by
 have HK:=hid k;clear k;go_enter Tryz.func250,Tryz.ntmps250;go_wp2;go_ret2;exact⟨by simp,HK.out⟩
theorem iU{x y:Nat}(g1:(FloatKind.f64.format.order x 4643211215818981376==some .gt||FloatKind.f64.format.order x 4643211215818981376==some .eq)=true)(l1:(FloatKind.f64.format.order x 4663758889118859264==some .lt)=true)(g2:(FloatKind.f64.format.order y 0==some .gt||FloatKind.f64.format.order y 0==some .eq)=false)(k:K w0 w):Calls Tryz.prog 250 #[.complex .f64 x y] w fun e w'=>e=.returned (.tuple #[.int .i64 0,.int .i64 4])∧K w0 w':=by
 have HK:=hid k;clear k;go_enter Tryz.func250,Tryz.ntmps250;go_wp2;go_ret2;exact⟨by simp,HK.out⟩
theorem iS{x y:Nat}(g1:(FloatKind.f64.format.order x 4643211215818981376==some .gt||FloatKind.f64.format.order x 4643211215818981376==some .eq)=true)(l1:(FloatKind.f64.format.order x 4663758889118859264==some .lt)=true)(g2:(FloatKind.f64.format.order y 0==some .gt||FloatKind.f64.format.order y 0==some .eq)=true)(l2:(FloatKind.f64.format.order y 4647714815446351872==some .lt)=false)(k:K w0 w):Calls Tryz.prog 250 #[.complex .f64 x y] w fun e w'=>e=.returned (.tuple #[.int .i64 0,.int .i64 4])∧K w0 w':=by
 have HK:=hid k;clear k;go_enter Tryz.func250,Tryz.ntmps250;go_wp2;go_ret2;exact⟨by simp,HK.out⟩
theorem kP{x y:Nat}(g1:(FloatKind.f64.format.order x 4643211215818981376==some .gt||FloatKind.f64.format.order x 4643211215818981376==some .eq)=true)(l1:(FloatKind.f64.format.order x 4663758889118859264==some .lt)=true)(g2:(FloatKind.f64.format.order y 0==some .gt||FloatKind.f64.format.order y 0==some .eq)=true)(l2:(FloatKind.f64.format.order y 4647714815446351872==some .lt)=true)(p q:Int)(v1:∀w,(convert 121 3 (.float .f64 x)).run Tryz.prog w=.ok (.int .i64 p) w)(v2:∀w,(convert 121 3 (.float .f64 y)).run Tryz.prog w=.ok (.int .i64 q) w)(b1:256≤p)(b2:p<6400)(b3:0≤q)(b4:q<512)(e1:(FloatKind.f64.format.order (floatOfInt .f64 p) x==some .eq)=true)(e2:(FloatKind.f64.format.order (floatOfInt .f64 q) y==some .eq)=true)(k:K w0 w):Calls Tryz.prog 250 #[.complex .f64 x y] w fun e w'=>e=.returned (.tuple #[.int .i64 (p * 512+q),.int .i64 0])∧K w0 w':=by
 have H1:Hid (Calls Tryz.prog 157 #[.int .i64 (p * 512+q)] w fun e w'=>e=.returned (.tuple #[.complex .f64 (floatOfInt .f64 p) (floatOfInt .f64 q),.int .i64 0])∧K w0 w'):=by
  have:=l_at (a:=p * 512+q) (by omega) k;rw[show(p * 512+q) / 512=p by omega,show(p * 512+q) % 512=q by omega] at this;exact this
 clear k;go_enter Tryz.func250,Tryz.ntmps250;go_wp2_with fail;refine H1.out.mono ?_;rintro e w1 ⟨rfl,hk⟩;have HK:=hid hk;clear hk;go_wp2;go_ret2;exact⟨by simp,HK.out⟩
theorem kR{x y:Nat}(g1:(FloatKind.f64.format.order x 4643211215818981376==some .gt||FloatKind.f64.format.order x 4643211215818981376==some .eq)=true)(l1:(FloatKind.f64.format.order x 4663758889118859264==some .lt)=true)(g2:(FloatKind.f64.format.order y 0==some .gt||FloatKind.f64.format.order y 0==some .eq)=true)(l2:(FloatKind.f64.format.order y 4647714815446351872==some .lt)=true)(p q:Int)(v1:∀w,(convert 121 3 (.float .f64 x)).run Tryz.prog w=.ok (.int .i64 p) w)(v2:∀w,(convert 121 3 (.float .f64 y)).run Tryz.prog w=.ok (.int .i64 q) w)(b1:256≤p)(b2:p<6400)(b3:0≤q)(b4:q<512)(e1:(FloatKind.f64.format.order (floatOfInt .f64 p) x==some .eq)=false)(k:K w0 w):Calls Tryz.prog 250 #[.complex .f64 x y] w fun e w'=>e=.returned (.tuple #[.int .i64 0,.int .i64 4])∧K w0 w':=by
 have H1:Hid (Calls Tryz.prog 157 #[.int .i64 (p * 512+q)] w fun e w'=>e=.returned (.tuple #[.complex .f64 (floatOfInt .f64 p) (floatOfInt .f64 q),.int .i64 0])∧K w0 w'):=by
  have:=l_at (a:=p * 512+q) (by omega) k;rw[show(p * 512+q) / 512=p by omega,show(p * 512+q) % 512=q by omega] at this;exact this
 clear k;go_enter Tryz.func250,Tryz.ntmps250;go_wp2_with fail;refine H1.out.mono ?_;rintro e w1 ⟨rfl,hk⟩;have HK:=hid hk;clear hk;go_wp2;go_ret2;exact⟨by simp,HK.out⟩
theorem kQ{x y:Nat}(g1:(FloatKind.f64.format.order x 4643211215818981376==some .gt||FloatKind.f64.format.order x 4643211215818981376==some .eq)=true)(l1:(FloatKind.f64.format.order x 4663758889118859264==some .lt)=true)(g2:(FloatKind.f64.format.order y 0==some .gt||FloatKind.f64.format.order y 0==some .eq)=true)(l2:(FloatKind.f64.format.order y 4647714815446351872==some .lt)=true)(p q:Int)(v1:∀w,(convert 121 3 (.float .f64 x)).run Tryz.prog w=.ok (.int .i64 p) w)(v2:∀w,(convert 121 3 (.float .f64 y)).run Tryz.prog w=.ok (.int .i64 q) w)(b1:256≤p)(b2:p<6400)(b3:0≤q)(b4:q<512)(e1:(FloatKind.f64.format.order (floatOfInt .f64 p) x==some .eq)=true)(e2:(FloatKind.f64.format.order (floatOfInt .f64 q) y==some .eq)=false)(k:K w0 w):Calls Tryz.prog 250 #[.complex .f64 x y] w fun e w'=>e=.returned (.tuple #[.int .i64 0,.int .i64 4])∧K w0 w':=by
 have H1:Hid (Calls Tryz.prog 157 #[.int .i64 (p * 512+q)] w fun e w'=>e=.returned (.tuple #[.complex .f64 (floatOfInt .f64 p) (floatOfInt .f64 q),.int .i64 0])∧K w0 w'):=by
  have:=l_at (a:=p * 512+q) (by omega) k;rw[show(p * 512+q) / 512=p by omega,show(p * 512+q) % 512=q by omega] at this;exact this
 clear k;go_enter Tryz.func250,Tryz.ntmps250;go_wp2_with fail;refine H1.out.mono ?_;rintro e w1 ⟨rfl,hk⟩;have HK:=hid hk;clear hk;go_wp2;go_ret2;exact⟨by simp,HK.out⟩
theorem lY{x y:Nat}(h:(whB x 256 6400&&whB y 0 512)=false)(k:K w0 w):Calls Tryz.prog 250 #[.complex .f64 x y] w fun e w'=>e=.returned (.tuple #[.int .i64 0,.int .i64 4])∧K w0 w':=by
 cases g1:(FloatKind.f64.format.order x 4643211215818981376==some .gt||FloatKind.f64.format.order x 4643211215818981376==some .eq) with
 |false=>exact iW g1 k
 |true=>
 cases l1:(FloatKind.f64.format.order x 4663758889118859264==some .lt) with
 |false=>exact iV g1 l1 k
 |true=>
 cases g2:(FloatKind.f64.format.order y 0==some .gt||FloatKind.f64.format.order y 0==some .eq) with
 |false=>exact iU g1 l1 g2 k
 |true=>
 cases l2:(FloatKind.f64.format.order y 4647714815446351872==some .lt) with
 |false=>exact iS g1 l1 g2 l2 k
 |true=>
 obtain⟨p,hp,b1,b2⟩:=iu g1 l1;obtain⟨q,hq,b3,b4⟩:=eI g2 l2;cases e1:(FloatKind.f64.format.order (floatOfInt .f64 p) x==some .eq) with
 |false=>exact kR g1 l1 g2 l2 p q (bS x p hp) (bS y q hq) b1 b2 b3 b4 e1 k
 |true=>
 cases e2:(FloatKind.f64.format.order (floatOfInt .f64 q) y==some .eq) with
 |false=>exact kQ g1 l1 g2 l2 p q (bS x p hp) (bS y q hq) b1 b2 b3 b4 e1 e2 k
 |true=>
  exfalso;rw[gG,hp,hq] at h;simp only[g1,l1,g2,l2,e1,e2] at h;exact absurd h (by decide)
theorem zk{x y:Nat}{p q:Int}(h:(whB x 256 6400&&whB y 0 512)=true)(hp:floatToIntVal .f64 x .i64=some p)(hq:floatToIntVal .f64 y .i64=some q)(k:K w0 w):Calls Tryz.prog 250 #[.complex .f64 x y] w fun e w'=>e=.returned (.tuple #[.int .i64 (p * 512+q),.int .i64 0])∧K w0 w':=by
 rw[gG,hp,hq] at h;simp only[Bool.and_eq_true] at h;obtain⟨⟨⟨g1,l1⟩,e1⟩,⟨g2,l2⟩,e2⟩:=h;obtain⟨p',hp',b1,b2⟩:=iu g1 l1;obtain⟨q',hq',b3,b4⟩:=eI g2 l2;obtain rfl:p=p':=Option.some.inj (hp.symm.trans hp');obtain rfl:q=q':=Option.some.inj (hq.symm.trans hq');exact kP g1 l1 g2 l2 p q (bS x p hp) (bS y q hq) b1 b2 b3 b4 e1 e2 k
theorem rW(s:Bool)(r:Nat)(h0:4845873199050653696≤r)(h1:r≤9218868437227405312):whB (Ieee.double.word s r) 256 6400=false:=by
 obtain⟨t0,m0,i0,K0,e0,a0,b0,c0⟩:=(Is.fb 256 (by decide)).scale;obtain⟨t1,m1,i1,K1,e1,a1,b1,c1⟩:=(Is.fb 6400 (by decide)).scale;have i0':=Is.fb 256 (by decide);have i1':=Is.fb 6400 (by decide);have key:((Ieee.double.read (Ieee.double.word s r)).order (Ieee.double.read (fb 256))==some .gt||(Ieee.double.read (Ieee.double.word s r)).order (Ieee.double.read (fb 256))==some .eq)=false∨((Ieee.double.read (Ieee.double.word s r)).order (Ieee.double.read (fb 6400))==some .lt)=false:=by
  by_cases hr:r<9218868437227405312
  ·rw[gX s r (by omega) hr];have hK:(0:Int)≤ -1074+((r / 4503599627370496 - 1:Nat):Int)+((0:Nat):Int):=by omega
   rw[bk hK i0',bk hK i1'];simp only[Option.some_beq_some];rw[iM];obtain⟨k,hk⟩:∃k,(-1074+((r / 4503599627370496 - 1:Nat):Int)+((0:Nat):Int)).toNat=k:=⟨_,rfl⟩;rw[hk];have hp:=Nat.two_pow_pos k;have:4503599627370496≤(4503599627370496+r % 4503599627370496) * 2 ^ k:=Nat.le_trans (Nat.le_add_right _ _) (Nat.le_mul_of_pos_right _ hp);cases s
   ·right;unfold Ieee.signed;rw[if_neg (by decide),Nat.shiftLeft_eq];generalize (4503599627370496+r % 4503599627370496) * 2 ^ k=v at *;apply Bool.eq_false_iff.2;intro h;have:=Int.compare_eq_lt.1 (eq_of_beq h);simp at this;omega
   ·left;unfold Ieee.signed;rw[if_pos rfl,Nat.shiftLeft_eq];generalize (4503599627370496+r % 4503599627370496) * 2 ^ k=v at *;simp;omega
  ·obtain rfl:r=9218868437227405312:=by omega
   rw[oT,e0,e1];cases s
   ·right;rfl
   ·left;rfl
 unfold whB geB ltB;show(((Ieee.double.read (Ieee.double.word s r)).order (Ieee.double.read (fb 256))==some .gt||(Ieee.double.read (Ieee.double.word s r)).order (Ieee.double.read (fb 256))==some .eq)&&((Ieee.double.read (Ieee.double.word s r)).order (Ieee.double.read (fb 6400))==some .lt)&&_)=false;rcases key with k|k<;>rw[k]<;>simp
theorem wh_of{x:Nat}{n L T:Int}(h:Wh x n)(hn:n.natAbs<9007199254740992)(hL:L.natAbs<9007199254740992)(hT:T.natAbs<9007199254740992):whB x L T=decide (L≤n∧n<T):=by
 unfold whB geB ltB;rw[h.order (Wh.of L hL),h.order (Wh.of T hT),h.int (by omega) (by omega)];simp only[(Wh.of n hn).order h,Option.some_beq_some];rw[iM];have e1:(compare n n==Ordering.eq)=true:=by rw[cmp_eq];simp
 rw[e1,Bool.and_true];by_cases c:n<T
 ·rw[show(compare n T==Ordering.lt)=true by rw[Int.compare_eq_lt.2 c];rfl];simp[c]
 ·rw[show(compare n T==Ordering.lt)=false by apply Bool.eq_false_iff.2;intro h;exact c (Int.compare_eq_lt.1 (eq_of_beq h))];simp[c]
theorem win_fb(v:Int):(whB (fb v) 256 6400&&whB 0 0 512)=decide (256≤v∧v≤6399):=by
 have h0:whB 0 0 512=true:=by
  rw[←bN,wh_of (Wh.of 0 (by decide)) (by decide) (by decide) (by decide)];rfl
 rw[h0,Bool.and_true];by_cases h:v.natAbs<9007199254740992
 ·rw[wh_of (Wh.of v h) h (by decide) (by decide)];exact decide_eq_decide.2 (by omega)
 ·obtain⟨r,e,r1,r2⟩:=eF (decide (v<0)) v.natAbs (by omega);rw[xJ,e,rW _ _ r1 r2]
  symm
  rw[decide_eq_false_iff_not];omega
end
end Go.Proofs.YtndhbnhobhkmaaaGreatDoor.Pt
namespace Go.Proofs.YtndhbnhobhkmaaaGreatDoor
open Go.RowKit
section
variable{w w0:World}{t:Nat}{Z:Nat→Prop}{T:Tb}{m m1 m2:Option Nat}{f:Int→Option Int}{cnt:Nat}
theorem sd(o:Og w m f cnt){k:Int}(hk:I64 k):Calls Tryz.prog 198 #[.map m,.int .i64 k] w fun e w'=>e=.returned (.int .i64 ((f k).getD (-1)))∧w'=w:=by
 have hl:=o.fM hk;clear o hk;cases hf:f k with
 |none=>
  rw[hf] at hl;simp only[Option.getD_none,Option.isSome_none] at hl;clear hf;go_enter Tryz.func198,Tryz.ntmps198;go_wp2;go_ret;exact⟨by simp,rfl⟩
 |some y=>
  rw[hf] at hl;simp only[Option.getD_some,Option.isSome_some] at hl;clear hf;go_enter Tryz.func198,Tryz.ntmps198;go_wp2;go_ret;exact⟨by simp,rfl⟩
theorem sf(c:Tw w t m1 m2)(o:Og w m1 f cnt){k:Int}(hk:I64 k):Calls Tryz.prog 142 #[.pointer (some ⟨t,0,none⟩),.int .i64 k] w fun e w'=>e=.returned (.int .i64 ((f k).getD (-1)))∧w'=w:=by
 have c0:=c.c0;have H1:=hid (sd o hk);clear o hk c;generalize (f k).getD (-1)=y at *;go_enter Tryz.func142,Tryz.ntmps142;go_wp2_with fail;refine H1.out.mono ?_;rintro e w1 ⟨rfl,hw⟩;obtain rfl:=hw.symm;go_wp2;go_ret;exact⟨by simp,rfl⟩
theorem vH(c:Tw w t m1 m2)(o:Og w m2 f cnt){k:Int}(hk:I64 k):Calls Tryz.prog 203 #[.pointer (some ⟨t,0,none⟩),.int .i64 k] w fun e w'=>e=.returned (.int .i64 ((f k).getD (-1)))∧w'=w:=by
 have c1:=c.c1;have H1:=hid (sd o hk);clear o hk c;generalize (f k).getD (-1)=y at *;go_enter Tryz.func203,Tryz.ntmps203;go_wp2_with fail;refine H1.out.mono ?_;rintro e w1 ⟨rfl,hw⟩;obtain rfl:=hw.symm;go_wp2;go_ret;exact⟨by simp,rfl⟩
theorem ox(p:Int)(w:World):Calls Tryz.prog 202 #[.int .i64 p] w fun e w'=>e=.returned (.bool (decide (POk p)))∧w'=w:=by
 by_cases h0:0≤p
 ·by_cases h1:p≤1048576
  ·have hm:Hid (decide (POk p)=true):=decide_eq_true (p:=POk p) ⟨h0,h1⟩;generalize decide (POk p)=r at *;go_enter Tryz.func202,Tryz.ntmps202;go_wp2;go_ret;exact⟨by rw[hm.out];rfl,rfl⟩
  ·have hm:Hid (decide (POk p)=false):=decide_eq_false (p:=POk p) fun h=>h1 h.2
   generalize decide (POk p)=r at *;go_enter Tryz.func202,Tryz.ntmps202;go_wp2;go_ret;exact⟨by rw[hm.out];rfl,rfl⟩
 ·have hm:Hid (decide (POk p)=false):=decide_eq_false (p:=POk p) fun h=>h0 h.1
  generalize decide (POk p)=r at *;go_enter Tryz.func202,Tryz.ntmps202;go_wp2;go_ret;exact⟨by rw[hm.out];rfl,rfl⟩
theorem rZ{v:Int}(k:Pt.K w0 w):Calls Tryz.prog 247 #[.int .i64 v] w fun e w'=>e=.returned (.bool (decide (VOk v)))∧Pt.K w0 w':=by
 have hb:=Pt.win_fb v;by_cases h:VOk v
 ·rw[decide_eq_true h] at hb;have H1:Hid (Calls Tryz.prog 250 #[.complex .f64 (floatOfInt .f64 v) 0] w fun e w'=>e=.returned (.tuple #[.int .i64 (v * 512+0),.int .i64 0])∧Pt.K w0 w'):=Pt.zk hb (iI v (by omega)) (by rw[←bN];exact iI 0 (by decide)) k;have hm:Hid (decide (VOk v)=true):=decide_eq_true h;generalize decide (VOk v)=r at *;clear hb h k;go_enter Tryz.func247,Tryz.ntmps247;go_wp2_with fail;refine H1.out.mono ?_;rintro e w1 ⟨rfl,hk⟩;have HK:=hid hk;clear hk H1;go_wp2;go_ret;exact⟨by rw[hm.out];rfl,HK.out⟩
 ·rw[decide_eq_false h] at hb;have H1:Hid (Calls Tryz.prog 250 #[.complex .f64 (floatOfInt .f64 v) 0] w fun e w'=>e=.returned (.tuple #[.int .i64 0,.int .i64 4])∧Pt.K w0 w'):=Pt.lY hb k;have hm:Hid (decide (VOk v)=false):=decide_eq_false h;generalize decide (VOk v)=r at *;clear hb h k;go_enter Tryz.func247,Tryz.ntmps247;go_wp2_with fail;refine H1.out.mono ?_;rintro e w1 ⟨rfl,hk⟩;have HK:=hid hk;clear hk H1;go_wp2;go_ret;exact⟨by rw[hm.out];rfl,HK.out⟩
end
section
variable{w w0:World}{t:Nat}{Z:Nat→Prop}{T:Tb}{m m1 m2:Option Nat}{f:Int→Option Int}{cnt:Nat}
theorem Tn.out{T':Tb}{w':World}{B1 B2 n1 n2 k1 k2:Nat}{f1 f2:Int→Option Int}(h:Tn t T w Z (some B1) (some B2))(c:Tw w' t (some B1) (some B2))(o1:Oi w' B1 n1 f1 k1)(o2:Oi w' B2 n2 f2 k2)(e1:∀x,f1 x=fF T' x)(e2:∀x,f2 x=fH T' x)(l1:k1=T'.length)(l2:k2=T'.length)(fr:Fr Z w w'):∃Z',Tm t T' w' Z'∧Gw w w' Z Z':=
 ⟨Z,⟨some B1,some B2,c,.inr ⟨B1,rfl,(o1.same e1).count l1⟩,.inr ⟨B2,rfl,(o2.same e2).count l2⟩,by simp,h.zt,h.z1,h.z2,h.ne,fun i hi=>Nat.lt_of_lt_of_le (h.lt i hi) fr.size⟩,Gw.same h.lt fr⟩
theorem Tn.both(h:Tn t T w Z m1 m2)(hne:T≠[]):∃B1 B2,m1=some B1∧m2=some B2∧Oi w B1 T.length (fF T) T.length∧Oi w B2 T.length (fH T) T.length:=by
 have hl:T.length≠0:=fun e=>hne (List.eq_nil_of_length_eq_zero e)
 rcases h.o1 with⟨_,_,e⟩|⟨B1,e1,o1⟩
 ·exact(hl e).elim
 rcases h.o2 with⟨_,_,e⟩|⟨B2,e2,o2⟩
 ·exact(hl e).elim
 exact⟨B1,B2,e1,e2,o1,o2⟩
theorem Ak{v:Int}(h:¬tbF T v<0):(fF T v).isSome=true:=by unfold fF;rw[if_neg h];rfl
theorem vV{p:Int}(h:¬tbH T p<0):(fH T p).isSome=true:=by unfold fH;rw[if_neg h];rfl
theorem AM{v:Int}(h:tbF T v<0):(fF T v).isSome=false:=by unfold fF;rw[if_pos h];rfl
theorem wJ{p:Int}(h:tbH T p<0):(fH T p).isSome=false:=by unfold fH;rw[if_pos h];rfl
theorem yK(h:Tm t T w Z)(ok:TbOk T){v:Int}(hv:¬tbF T v<0):Calls Tryz.prog 204 #[.pointer (some ⟨t,0,none⟩),.int .i64 v,.int .i64 (tbF T v)] w fun e w'=>e=.returned (.tuple #[])∧∃Z',Tm t (tbU T v) w' Z'∧Gw w w' Z Z':=by
 obtain⟨m1,m2,h⟩:=h;have hm:=ok.aP hv;have hne:T≠[]:=fun e=>by subst e;simp at hm
 obtain⟨B1,B2,rfl,rfl,o1,o2⟩:=h.both hne;obtain⟨zB1,n1⟩:=h.z1 _ rfl;obtain⟨zB2,n2⟩:=h.z2 _ rfl;have hn:B1≠B2:=fun e=>h.ne _ rfl (by rw[e])
 have ha:=ok.at_ _ hm;simp only at ha;have hw1:(Lit.int .i64 v).wf=true:=aB (by omega) (by omega);have hw2:(Lit.int .i64 (tbF T v)).wf=true:=aB (by omega) (by omega);obtain⟨w1,r1,p1,f1⟩:=o1.drop hw1 0;obtain⟨w2,r2,p2,f2⟩:=(o2.carry f1 fun e=>hn e.symm).drop hw2 0;have c1:=h.c.carry f1 fun e=>n1 e.symm
 have c2:=c1.carry f2 fun e=>n2 e.symm
 have q1:=p1.carry f2 hn;have fr:Fr Z w w2:=Fr.trans' (f1.mono fun i _ e=>e▸zB1) f2 fun i _ e=>e▸zB2
 have hh:¬tbH T (tbF T v)<0:=by rw[aV ok hm];omega
 rw[Ak hv,if_pos rfl] at q1;rw[vV hh,if_pos rfl] at p2;have hl:=oD ok hv;have HR:=hid (h.out c2 q1 p2 (fun x=>(fF_rem ok (ok.vG v) x).symm) (fun x=>(fH_rem ok (ok.vG v) hv x).symm) (by omega) (by omega) fr);have c0:=h.c.c0;have c1':=c1.c1;clear h o1 o2 ok hm ha hw1 hw2 p1 p2 f1 f2 c1 c2 q1 fr hh hl hv hne zB1 zB2;generalize tbF T v=p at *;go_enter Tryz.func204,Tryz.ntmps204;go_wp2;go_end0;exact⟨rfl,HR.out⟩
theorem yL(h:Tm t T w Z)(ok:TbOk T){v p:Int}(hv:VOk v)(hp:POk p)(h1:tbF T v<0)(h2:tbH T p<0):Calls Tryz.prog 205 #[.pointer (some ⟨t,0,none⟩),.int .i64 v,.int .i64 p] w fun e w'=>e=.returned (.tuple #[])∧∃Z',Tm t (tbI T v p) w' Z'∧Gw w w' Z Z':=by
 obtain⟨m1,m2,h⟩:=h;have ok2:=ok.ins hv hp h1 h2;have hw1:(Lit.int .i64 v).wf=true:=aB (by omega) (by omega);have hw2:(Lit.int .i64 p).wf=true:=aB (by omega) (by omega);have hq:=fun w m=>run_eql_map_nil_sl (P:=Tryz.prog) w 197 _ _ m Tryz.underlying197
 have hlen:=Tb.few ok;rcases h.o1 with⟨rfl,e1,e2⟩|⟨B1,rfl,o1⟩
 ·obtain rfl:m2=none:=h.nn.1 rfl;have eT:T=[]:=List.eq_nil_of_length_eq_zero e2;subst eT;have htl:=h.c.lt;have L1:=h.c.carry (S:=fun _=>False) (((Fr.refl _ w).alloc (.map #[] 0)).alloc (.map #[] 0)) id;have L2:=(L1.set0 (some w.heap.size)).set1 (some (w.heap.size+1));have fs:Fr (fun i=>i=t) ((w.alloc (.map #[] 0)).alloc (.map #[] 0)) ((((w.alloc (.map #[] 0)).alloc (.map #[] 0)).setCell ⟨t,0,none⟩ (.map (some w.heap.size))).setCell ⟨t,1,none⟩ (.map (some (w.heap.size+1)))):=Fr.setCell (S:=fun i=>i=t) (Fr.setCell (S:=fun i=>i=t) (Fr.refl _ _) (p:=⟨t,0,none⟩) rfl _) (p:=⟨t,1,none⟩) rfl _;have O1:=((Oi.new w).carry (S:=fun _=>False) ((Fr.refl _ _).alloc (.map #[] 0)) id).carry fs (show w.heap.size≠t by omega);have O2:=(Oi.new (w.alloc (.map #[] 0))).carry fs (by simp;omega);rw[show(w.alloc (.map #[] 0)).heap.size=w.heap.size+1 by simp] at O2;obtain⟨w3,r3,P1,F1⟩:=O1.store (by decide) hw1 hw2;have L3:=L2.carry F1 (show t≠w.heap.size by omega);obtain⟨w4,r4,P2,F2⟩:=(O2.carry F1 (by omega)).store (by decide) hw2 hw1;have L4:=L3.carry F2 (by omega);have Q1:=P1.carry F2 (by omega);have F4:Fr Z w w4:=Fr.trans' (Fr.trans' (Fr.setCell (Fr.setCell (((Fr.refl _ _).alloc _).alloc _) (p:=⟨t,0,none⟩) h.zt _) (p:=⟨t,1,none⟩) h.zt _) F1 fun i hi e=>by omega) F2 fun i hi e=>by omega
  have hs4:w.heap.size+1<w4.heap.size:=P2.lt;have HR:Hid (∃Z',Tm t (tbI [] v p) w4 Z'∧Gw w w4 Z Z'):=by
   have hlt:∀i,(Z i∨i=w.heap.size∨i=w.heap.size+1)→i<w4.heap.size:=fun i e=>by
    rcases e with e|e|e
    ·exact Nat.lt_of_lt_of_le (h.lt i e) F4.size
    ·omega
    ·omega
   refine⟨fun i=>Z i∨i=w.heap.size∨i=w.heap.size+1,⟨some w.heap.size,some (w.heap.size+1),L4,.inr ⟨_,rfl,(Q1.same fun z=> ?_).count rfl⟩,.inr ⟨_,rfl,(P2.same fun z=> ?_).count rfl⟩,by simp,.inl h.zt,fun B e=> ?_,fun B e=> ?_,fun B e=> ?_,hlt⟩,fun i e=>.inl e,fun i e=> ?_,hlt,F4⟩
   ·rw[zE ok ok2 h1];rfl
   ·rw[zD ok ok2 h2];rfl
   ·cases e;exact⟨.inr (.inl rfl),by omega⟩
   ·cases e;exact⟨.inr (.inr rfl),by omega⟩
   ·cases e;simp
   ·rcases e with e|e|e
    ·exact .inl e
    ·exact .inr (by omega)
    ·exact .inr (by omega)
  have c0:=h.c.c0;have a0:=L1.c0;have a1:=L1.c1;have fa:=L1.fz;have a1':=(L1.set0 (some w.heap.size)).c1;have fa':=(L1.set0 (some w.heap.size)).fz;have b0:=L2.c0;have b1:=L3.c1;have hmm:= @run_makeMap Tryz.prog;clear htl;clear h L1 L2 L3 L4 O1 O2 P1 P2 Q1 F1 F2 F4 fs hs4 ok ok2 hv hp h1 h2 hw1 hw2 e1 e2 hlen;go_enter Tryz.func205,Tryz.ntmps205;go_wp2;go_end0;exact⟨rfl,HR.out⟩
 ·obtain⟨B2,rfl⟩:∃B2,m2=some B2:=by
   cases m2 with
   |none=>exact absurd (h.nn.2 rfl) (by simp)
   |some B2=>exact⟨B2,rfl⟩
  rcases h.o2 with⟨e,_⟩|⟨B2',e,o2⟩
  ·cases e
  obtain rfl:B2=B2':=Option.some.inj e;obtain⟨zB1,n1⟩:=h.z1 _ rfl;obtain⟨zB2,n2⟩:=h.z2 _ rfl;have hn:B1≠B2:=fun e=>h.ne _ rfl (by rw[e])
  obtain⟨w1,r1,p1,f1⟩:=o1.store (by unfold maxLen;omega) hw1 hw2;obtain⟨w2,r2,p2,f2⟩:=(o2.carry f1 fun e=>hn e.symm).store (by unfold maxLen;omega) hw2 hw1;have c1:=h.c.carry f1 fun e=>n1 e.symm
  have c2:=c1.carry f2 fun e=>n2 e.symm
  have q1:=p1.carry f2 hn;have fr:Fr Z w w2:=Fr.trans' (f1.mono fun i _ e=>e▸zB1) f2 fun i _ e=>e▸zB2
  rw[AM h1,if_neg (by simp)] at q1;rw[wJ h2,if_neg (by simp)] at p2;have hl:=mU (v:=v) (p:=p) T;have HR:=hid (h.out c2 q1 p2 (fun x=>(zE ok ok2 h1 x).symm) (fun x=>(zD ok ok2 h2 x).symm) (by omega) (by omega) fr);have c0:=h.c.c0;have c1':=c1.c1;clear h o1 o2 ok ok2 hv hp h1 h2 hw1 hw2 p1 p2 f1 f2 c1 c2 q1 fr hl zB1 zB2 hlen;go_enter Tryz.func205,Tryz.ntmps205;go_wp2;go_end0;exact⟨rfl,HR.out⟩
end
def SpAt(w:World)(ad:Option Addr)(ss:List (Int×Int×Bool)):Prop:=∀i (h:i<ss.length),∃b off,ad=some ⟨b,off,none⟩∧b<w.heap.size∧w.cell? ⟨b,off+i * 3,none⟩=some (.int .i64 (ss[i]).1)∧w.cell? ⟨b,off+i * 3+1,none⟩=some (.int .i64 (ss[i]).2.1)∧w.cell? ⟨b,off+i * 3+2,none⟩=some (.bool (ss[i]).2.2)
theorem SpAt.carry{S:Nat→Prop}{w w':World}{ad:Option Addr}{ss:List (Int×Int×Bool)}(h:SpAt w ad ss)(f:Fr S w w')(hs:∀b off,ad=some ⟨b,off,none⟩→0<ss.length→¬S b):SpAt w' ad ss:=fun i hi=>by
 obtain⟨b,off,e,hb,h1,h2,h3⟩:=h i hi;have hf:=f.block b hb (hs b off e (by omega));exact⟨b,off,e,by have:=f.size;omega,(World.cell?_of_block hf).trans h1,(World.cell?_of_block hf).trans h2,(World.cell?_of_block hf).trans h3⟩
theorem SpAt.fr{w w':World}{ad:Option Addr}{ss:List (Int×Int×Bool)}(h:SpAt w ad ss)(f:Fr (fun _=>False) w w'):SpAt w' ad ss:=h.carry f fun _ _ _ _=>id
theorem SpAt.nil(w:World)(ad:Option Addr):SpAt w ad []:=fun i h=>by simp at h
def Sv(ad:Option Addr)(ss:List (Int×Int×Bool))(w:World)(Z:Nat→Prop):Prop:=SpAt w ad ss∧(∀b off,ad=some ⟨b,off,none⟩→0<ss.length→Z b)∧∀i,Z i→i<w.heap.size
theorem Sv.good(ad:Option Addr)(ss:List (Int×Int×Bool)):Good (Sv ad ss):=
 ⟨fun h f hs=>⟨h.1.carry f fun b off e h0=>hs b (h.2.1 b off e h0),h.2.1,fun i hi=>Nat.lt_of_lt_of_le (h.2.2 i hi) f.size⟩,fun h h1 h2=>⟨h.1,fun b off e h0=>h1 b (h.2.1 b off e h0),h2⟩⟩
theorem Sv.new{w:World}{ad:Option Addr}{ss:List (Int×Int×Bool)}(h:SpAt w ad ss):Sv ad ss w (fun b=>(∃off,ad=some ⟨b,off,none⟩)∧0<ss.length):=
 ⟨h,fun b off e h0=>⟨⟨off,e⟩,h0⟩,fun i ⟨⟨off,e⟩,h0⟩=>by
  obtain⟨b,off',e1,e2,_⟩:=h 0 h0;rw[e] at e1;simp only[Option.some.injEq,Addr.mk.injEq] at e1;omega⟩
theorem aa.sps{W w:World}{ts:List (World→(Nat→Prop)→Prop)}(h:aa W w ts)(j:Nat){ad:Option Addr}{ss:List (Int×Int×Bool)}(hj:ts[j]? =some (Sv ad ss)):SpAt w ad ss:=by
 obtain⟨U,h1,_⟩:=h.get j hj;exact h1.1
theorem aa.lP{W w w':World}{ts:List (World→(Nat→Prop)→Prop)}(h:aa W w ts){ad:Option Addr}{ss:List (Int×Int×Bool)}(hs:SpAt w' ad ss)(hb:∀b off,ad=some ⟨b,off,none⟩→0<ss.length→w.heap.size≤b)(f:Fr (fun _=>False) w w'):aa W w' (ts++[Sv ad ss]):=
 h.more (Sv.good _ _) (Sv.new hs) f fun i ⟨⟨off,e⟩,h0⟩=>⟨hb i off e h0,(Sv.new hs).2.2 i ⟨⟨off,e⟩,h0⟩⟩
theorem pj{w w':World}{base:Nat}{v:Value}{S:Nat→Prop}{e:TypeId}{size n:Nat}{xs:List Value}(h:w.ownsRow base e size v n xs)(f:Fr S w w')(hs:∀x,v.ownBlock=some x→¬S x):w'.ownsRow base e size v n xs:=by
 obtain⟨h1,h2⟩:=h;refine⟨h1,?_⟩;rcases h2 with h2|⟨g,cap,cur,rfl,hb,hc,rest⟩
 ·exact .inl h2
 ·exact .inr ⟨g,cap,cur,rfl,hb,by rw[f.block g (Array.getElem?_eq_some_iff.1 hc).1 (hs g rfl)];exact hc,rest⟩
def qk(x:Sq):List Value:=[.int .i64 x.1,.int .i64 x.2.1,.bool x.2.2]
def qc(L:List Sq):List Value:=L.flatMap qk
theorem gY(x:Sq)(L:List Sq):qc (x::L)=.int .i64 x.1:: .int .i64 x.2.1:: .bool x.2.2::qc L:=rfl
theorem cZ(l m:List Sq):qc (l++m)=qc l++qc m:=by simp[qc]
theorem ly(L:List Sq):∀u∈qc L,u.oneCell'=true:=by
 intro u hu;simp only[qc,List.mem_flatMap,qk] at hu;obtain⟨x,_,hx⟩:=hu;simp at hx;rcases hx with rfl|rfl|rfl<;>rfl
theorem sU:∀(L:List Sq) (k:Nat) (h:k<L.length),(qc L)[k * 3]? =some (.int .i64 L[k].1)∧(qc L)[k * 3+1]? =some (.int .i64 L[k].2.1)∧(qc L)[k * 3+2]? =some (.bool L[k].2.2)
 |x::L,0,_=>by simp[gY]
 |x::L,k+1,h=>by
  have:=sU L k (by simpa using h);rw[gY];simpa [Nat.add_mul,Nat.add_right_comm _ 3] using this
theorem lq:∃i,Tryz.prog.info? 132=some i∧i.zero=some (.agg #[.int .i64 0,.int .i64 0,.bool false])∧i.size=3∧i.bytes=24:=by
 have h:(Tryz.prog.info? 132).map (fun i=>(i.zero,i.size,i.bytes))=some (some (.agg #[.int .i64 0,.int .i64 0,.bool false]),3,24):=by kernel_rfl
 cases hq:Tryz.prog.info? 132 with
 |none=>rw[hq] at h;cases h
 |some i=>
  rw[hq] at h;simp only[Option.map_some,Option.some.injEq,Prod.mk.injEq] at h;exact⟨i,rfl,h.1,h.2.1,h.2.2⟩
structure Gr3(w wr:World)(y:Value)(L:List Sq):Prop where
 row:wr.ownsRow w.heap.size 132 3 y L.length (qc L)
 fr:Fr (fun k=>w.heap.size≤k) w wr
section
variable{w wr:World}{y:Value}{L:List Sq}
theorem Gr3.start(w:World):Gr3 w w (.slice none 0 0) []:=⟨⟨rfl,.inl ⟨rfl,rfl⟩⟩,Fr.refl _ _⟩
theorem Gr3.le(h:Gr3 w wr y L):w.heap.size≤wr.heap.size:=h.fr.size
theorem Gr3.kept{w':World}(h:Gr3 w wr y L)(f:Fr (fun _=>False) wr w'):Gr3 w w' y L:=⟨pj h.row f fun _ _=>id,Fr.trans' h.fr f fun _ _ e=>e.elim⟩
theorem Gr3.form(h:Gr3 w wr y L):∃ad cap,y=.slice ad L.length cap:=by
 rcases h.row.2 with⟨e1,e2⟩|⟨g,cap,cur,e1,_⟩
 ·exact⟨none,0,by rw[e2];exact e1⟩
 ·exact⟨_,cap,e1⟩
theorem Gr3.vU{ad:Option Addr}{n cap:Nat}(h:Gr3 w wr (.slice ad n cap) L):SpAt wr ad L∧∀b off,ad=some ⟨b,off,none⟩→0<L.length→w.heap.size≤b:=by
 refine⟨fun i hi=> ?_,fun b off e h0=> ?_⟩
 ·rcases h.row.2 with⟨e1,e2⟩|⟨g,cap',cur,e1,hb,hc,_⟩
  ·omega
  ·simp only[Value.slice.injEq] at e1;obtain⟨rfl,_,_⟩:=e1;obtain⟨a0,a1,a2⟩:=sU L i hi;have hcell:∀j u,(qc L)[j]? =some u→wr.cell? ⟨g,j,none⟩=some u:=fun j u hu=>by
    have:=h.row.cells (g:=g) rfl j u hu
    rwa [add_plain,Nat.zero_add] at this
   refine⟨g,0,rfl,(Array.getElem?_eq_some_iff.1 hc).1,?_,?_,?_⟩
   ·rw[Nat.zero_add];exact hcell _ _ a0
   ·rw[Nat.zero_add];exact hcell _ _ a1
   ·rw[Nat.zero_add];exact hcell _ _ a2
 ·have:=h.row.lt b (by rw[e];rfl);exact this.1
end
theorem push3{w wr:World}{ops:Array Oper}{rest:List Oper}{o:Oper}{a:Act}{Q:Exit→Act→World→Prop}{y:Value}{L:List Sq}{x:Sq}(hgd:o.guard=none)(s t:Operand)
  (ho:o.op=.call { callee:=.builtin .append,args:=#[s,t],argTypes:=#[109,109] })
  (hG:Gr3 w wr y L)(hs:a.eval s=y)(ht:a.eval t=.slice (some ⟨wr.heap.size,0,none⟩) 1 1)(hl:L.length<100000)
  (h:∀w' y',Gr3 w w' y' (L++[x])→wpList Tryz.prog ops Q rest (a.put o.dst y') w'):wpList Tryz.prog ops Q (o::rest) a (wr.alloc (.cells #[.int .i64 x.1,.int .i64 x.2.1,.bool x.2.2] 132)):=by
 obtain⟨i0,hi,hz0,hz1,hz2⟩:=lq;have hbase:=hG.le;refine aE hgd s t 109 ho w.heap.size 132 i0 _ 3 24 Tryz.underlying109 hi hz0 hz1 hz2 rfl (by decide) y L.length (qc L) hs (hG.row.alloc _) ⟨wr.heap.size,0,none⟩ 1 1 (by decide) (qc [x]) ht rfl ?_ (ly [x]) (by unfold maxLen;omega) (by omega) (by simp;omega) ?_
 ·intro j u hj;rw[add_plain,Nat.zero_add];have e:qc [x]=[.int .i64 x.1,.int .i64 x.2.1,.bool x.2.2]:=rfl;rw[e] at hj;simp only[World.cell?,heap_alloc_new];simpa using hj
 ·intro g cap w' hown hg _;refine h w' _ ⟨?_,?_⟩
  ·rw[cZ,List.length_append];exact hown
  ·exact(hG.fr.alloc _).grown hg fun k e=>.inl (hG.row.lt k e).1
theorem yW{w wr:World}{ops:Array Oper}{rest:List Oper}{o:Oper}{a:Act}{Q:Exit→Act→World→Prop}{y:Value}{L:List Sq}{x:Sq}(hgd:o.guard=none)(s t:Operand)
  (ho:o.op=.call { callee:=.builtin .append,args:=#[s,t],argTypes:=#[109,109] })
  (hG:Gr3 w wr y L)(hs:a.eval s=y)(ht:a.eval t=.slice (some ⟨wr.heap.size,0,none⟩) 1 1)(hl:L.length<100000)
  (h:∀w' y',Gr3 w w' y' (L++[x])→Fr (fun k=>y.ownBlock=some k) wr w'→wpList Tryz.prog ops Q rest (a.put o.dst y') w'):wpList Tryz.prog ops Q (o::rest) a (wr.alloc (.cells #[.int .i64 x.1,.int .i64 x.2.1,.bool x.2.2] 132)):=by
 obtain⟨i0,hi,hz0,hz1,hz2⟩:=lq;have hbase:=hG.le;refine aE hgd s t 109 ho w.heap.size 132 i0 _ 3 24 Tryz.underlying109 hi hz0 hz1 hz2 rfl (by decide) y L.length (qc L) hs (hG.row.alloc _) ⟨wr.heap.size,0,none⟩ 1 1 (by decide) (qc [x]) ht rfl ?_ (ly [x]) (by unfold maxLen;omega) (by omega) (by simp;omega) ?_
 ·intro j u hj;rw[add_plain,Nat.zero_add];have e:qc [x]=[.int .i64 x.1,.int .i64 x.2.1,.bool x.2.2]:=rfl;rw[e] at hj;simp only[World.cell?,heap_alloc_new];simpa using hj
 ·intro g cap w' hown hg _;refine h w' _ ⟨?_,?_⟩ ?_
  ·rw[cZ,List.length_append];exact hown
  ·exact(hG.fr.alloc _).grown hg fun k e=>.inl (hG.row.lt k e).1
  ·exact((Fr.refl _ wr).alloc _).grown hg fun k e=>.inl e
end Go.Proofs.YtndhbnhobhkmaaaGreatDoor
