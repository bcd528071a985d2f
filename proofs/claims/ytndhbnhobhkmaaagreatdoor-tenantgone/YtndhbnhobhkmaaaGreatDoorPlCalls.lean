/-
  What the calls of package place answer, at the landed code.
-/
import Derived.Test.YtndhbnhobhkmaaaGreatDoorPlFloat
set_option maxRecDepth 20000
set_option maxHeartbeats 4000000
namespace Go.Proofs.YtndhbnhobhkmaaaGreatDoor
open Go.RowKit
theorem pw{x:Int}(h: -9223372036854775808≤x∧x≤9223372036854775807):IntKind.i64.wrap x=x:=by rw[IntKind.wrap_i64];omega
section
variable{w0 w:World}
theorem ot(k b:Int)(h:K w0 w):Calls Tryz.prog 194 #[.int .i64 k,.int .i64 b] w fun e w'=>e=.returned (.bool (decide (0≤k∧k<b)))∧K w0 w':=by
 have HK:=hid h;by_cases h0:0≤k
 ·by_cases h1:k<b
  ·have hm:Hid (decide (0≤k∧k<b)=true):=decide_eq_true (p:=0≤k∧k<b) ⟨h0,h1⟩;generalize decide (0≤k∧k<b)=r at *;go_enter Tryz.func194,Tryz.ntmps194;go_wp2;go_ret;exact⟨by rw[hm.out];rfl,HK.out⟩
  ·have hm:Hid (decide (0≤k∧k<b)=false):=decide_eq_false (p:=0≤k∧k<b) fun h=>h1 h.2
   generalize decide (0≤k∧k<b)=r at *;go_enter Tryz.func194,Tryz.ntmps194;go_wp2;go_ret;exact⟨by rw[hm.out];rfl,HK.out⟩
 ·have hm:Hid (decide (0≤k∧k<b)=false):=decide_eq_false (p:=0≤k∧k<b) fun h=>h0 h.1
  generalize decide (0≤k∧k<b)=r at *;go_enter Tryz.func194,Tryz.ntmps194;go_wp2;go_ret;exact⟨by rw[hm.out];rfl,HK.out⟩
theorem gk(a n:Int)(ha:I64 a)(_hn:I64 n)(k:K w0 w):Calls Tryz.prog 156 #[.int .i64 a,.int .i64 n] w fun e w'=>e=.returned (.bool (decide (InW a n)))∧K w0 w':=by
 have HK:=hid k;clear k;by_cases h0:0≤n
 ·by_cases h1:131072≤a
  ·have hm:Hid (decide (InW a n)=decide (n≤3276800 - a)):=decide_eq_decide.2 (by omega);generalize decide (InW a n)=r at *;go_enter Tryz.func156,Tryz.ntmps156;go_wp2;go_ret;exact⟨by rw[hm.out];rfl,HK.out⟩
  ·have hm:Hid (decide (InW a n)=false):=decide_eq_false (p:=InW a n) (by omega);generalize decide (InW a n)=r at *;clear ha;go_enter Tryz.func156,Tryz.ntmps156;go_wp2;go_ret;exact⟨by rw[hm.out];rfl,HK.out⟩
 ·have hm:Hid (decide (InW a n)=false):=decide_eq_false (p:=InW a n) (by omega);generalize decide (InW a n)=r at *;clear ha;go_enter Tryz.func156,Tryz.ntmps156;go_wp2;go_ret;exact⟨by rw[hm.out];rfl,HK.out⟩
theorem b_in(a:Int)(ha:I64 a)(k:K w0 w):Calls Tryz.prog 210 #[.int .i64 a] w fun e w'=>e=.returned (.bool (decide (Win a)))∧K w0 w':=by
 have H1:=hid (gk a 1 ha (by decide) k);have hm:Hid (decide (Win a)=decide (InW a 1)):=decide_eq_decide.2 (by omega);rw[hm.out];clear ha k hm;generalize decide (InW a 1)=r at *;go_enter Tryz.func210,Tryz.ntmps210;go_wp2_with fail;refine H1.out.mono ?_;rintro e w' ⟨rfl,hk⟩;have HK:=hid hk;clear hk;go_wp2;go_ret;exact⟨rfl,HK.out⟩
theorem nB(c:Int):0≤aI c∧aI c≤16:=by
 unfold aI;repeat' split
 all_goals omega
theorem oq(c:Int)(k:K w0 w):Calls Tryz.prog 195 #[.int .i64 c] w fun e w'=>e=.returned (.int .i64 (sbI c))∧K w0 w':=by
 have H1:=hid (Bk c k);have hs:=nB c;unfold sbI;clear k;generalize aI c=p at *;go_enter Tryz.func195,Tryz.ntmps195;go_wp2_with fail;refine H1.out.mono ?_;rintro e w' ⟨rfl,hk⟩;have HK:=hid hk;clear hk;go_wp2;go_ret;exact⟨by go_num,HK.out⟩
theorem vn(c:Int)(k:K w0 w):Calls Tryz.prog 238 #[.int .i64 c] w fun e w'=>e=.returned (.int .i64 (nuI c))∧K w0 w':=by
 have H1:=hid (Bj c k);unfold nuI;clear k;generalize perI c=p at *;have e2:∀ts t w,(Builtin.max_ ts t #[.int .i64 p,.int .i64 1]).run Tryz.prog w=.ok (.int .i64 (if p<1 then 1 else p)) w:=by
  intro ts t w;rw[run_max_int2]
 generalize (if p<1 then 1 else p)=r at *;go_enter Tryz.func238,Tryz.ntmps238;go_wp2_with fail;refine H1.out.mono ?_;rintro e w' ⟨rfl,hk⟩;have HK:=hid hk;clear hk;go_wp2;go_ret;exact⟨rfl,HK.out⟩
theorem tU(c:Int)(_hc:I64 c)(k:K w0 w):Calls Tryz.prog 137 #[.int .i64 c] w fun e w'=>e=.returned (.int .i64 (slI c))∧K w0 w':=by
 have H1:=hid (ot c 24 k);by_cases h:0≤c∧c<24
 ·rw[decide_eq_true h] at H1;have H2:Hid (∀w,K w0 w→Calls Tryz.prog 195 #[.int .i64 c] w fun e w'=>e=.returned (.int .i64 (sbI c))∧K w0 w'):=fun w k=>oq c k
  obtain⟨f1,_,_,_,_,f6⟩:=bf h.1 (by omega);have hr:Hid (slI c=131072 / sbI c):=show slI c=131072 / sbI c by
   have:∀a:Fin 24,slI (a.val:Int)=131072 / sbI (a.val:Int):=by decide+kernel
   exact kinds (P:=fun c=>slI c=131072 / sbI c) this h.1 (by omega)
  rw[hr.out];have hd:Int.tdiv 131072 (sbI c)=131072 / sbI c:=Int.tdiv_eq_ediv_of_nonneg (by omega);have h0:0≤131072 / sbI c:=Int.ediv_nonneg (by omega) (by omega);have h1:131072 / sbI c≤131072:=Int.ediv_le_self _ (by omega);clear hr f6 k h;generalize sbI c=b at *;generalize 131072 / b=r at *;have hw:=pw (x:=r) (by omega);go_enter Tryz.func137,Tryz.ntmps137;go_wp2_with fail;refine H1.out.mono ?_;rintro e w1 ⟨rfl,hk⟩;have HK:=hid hk;clear hk;go_wp2_with fail;refine(H2.out _ HK.out).mono ?_;rintro e w2 ⟨rfl,hk⟩;have HK2:=hid hk;clear hk HK;go_wp2;go_ret;exact⟨by simp,HK2.out⟩
 ·rw[decide_eq_false h] at H1;rw[oV (by omega)];clear h k;go_enter Tryz.func137,Tryz.ntmps137;go_wp2_with fail;refine H1.out.mono ?_;rintro e w1 ⟨rfl,hk⟩;have HK:=hid hk;clear hk;go_wp2;go_ret;exact⟨rfl,HK.out⟩
theorem l_of(c s n:Int)(hc:I64 c)(_hs:I64 s)(_hn:I64 n)(k:K w0 w):Calls Tryz.prog 220 #[.int .i64 c,.int .i64 s,.int .i64 n] w fun e w'=>e=.returned (.tuple #[.int .i64 (ofA c s n),.int .i64 (ofE c s n)])∧K w0 w':=by
 have H1:=hid (tU c hc k);have H2:Hid (∀w,K w0 w→Calls Tryz.prog 194 #[.int .i64 s,.int .i64 (slI c)] w fun e w'=>e=.returned (.bool (decide (0≤s∧s<slI c)))∧K w0 w'):=fun w k=>ot s _ k
 have H3:Hid (∀w,K w0 w→Calls Tryz.prog 238 #[.int .i64 c] w fun e w'=>e=.returned (.int .i64 (nuI c))∧K w0 w'):=fun w k=>vn c k
 have H4:Hid (∀w,K w0 w→Calls Tryz.prog 194 #[.int .i64 n,.int .i64 (nuI c)] w fun e w'=>e=.returned (.bool (decide (0≤n∧n<nuI c)))∧K w0 w'):=fun w k=>ot n _ k
 by_cases h1:0≤s∧s<slI c
 ·rw[decide_eq_true h1] at H2;by_cases h2:0≤n∧n<nuI c
  ·rw[decide_eq_true h2] at H4;have ht:PlT c s n:=⟨h1.1,h1.2,h2.1,h2.2⟩;have e1:Hid (ofA c s n=adI c s n):=if_pos ht;have e2:Hid (ofE c s n=0):=if_pos ht;rw[e1.out,e2.out];have H5:Hid (∀w,K w0 w→Calls Tryz.prog 195 #[.int .i64 c] w fun e w'=>e=.returned (.int .i64 (sbI c))∧K w0 w'):=fun w k=>oq c k
   have H6:Hid (∀w,K w0 w→Calls Tryz.prog 82 #[.int .i64 c] w fun e w'=>e=.returned (.int .i64 (ah c))∧K w0 w'):=fun w k=>pT c k
   obtain⟨c0,c1⟩:=ht.kind;have hl:=ht.lies;have hf:=bf c0 c1;have ha:adI c s n=131072+c * 131072+s * sbI c+n * ah c:=by unfold adI;omega
   have m1:=pw (x:=c * 131072) (by omega);have m2:=pw (x:=s * sbI c) (by omega);have m3:=pw (x:=n * ah c) (by omega);have m4:=pw (x:=131072+c * 131072) (by omega);have m5:=pw (x:=131072+c * 131072+s * sbI c) (by omega);have m6:=pw (x:=131072+c * 131072+s * sbI c+n * ah c) (by omega);rw[ha];clear e1 e2 ha hc k h1 h2 ht c0 c1 hl hf;generalize slI c=sl at *;generalize nuI c=nu at *;generalize sbI c=sb at *;generalize ah c=u at *;go_enter Tryz.func220,Tryz.ntmps220;go_wp2_with fail;refine H1.out.mono ?_;rintro e w1 ⟨rfl,hk⟩;have HK1:=hid hk;clear hk;go_wp2_with fail;refine(H2.out _ HK1.out).mono ?_;rintro e w2 ⟨rfl,hk⟩;have HK2:=hid hk;clear hk HK1;go_wp2_with fail;refine(H3.out _ HK2.out).mono ?_;rintro e w3 ⟨rfl,hk⟩;have HK3:=hid hk;clear hk HK2;go_wp2_with fail;refine(H4.out _ HK3.out).mono ?_;rintro e w4 ⟨rfl,hk⟩;have HK4:=hid hk;clear hk HK3;go_wp2_with fail;refine(H5.out _ HK4.out).mono ?_;rintro e w5 ⟨rfl,hk⟩;have HK5:=hid hk;clear hk HK4;go_wp2_with fail;refine(H6.out _ HK5.out).mono ?_;rintro e w6 ⟨rfl,hk⟩;have HK6:=hid hk;clear hk HK5;go_wp2;go_ret2;exact⟨by simp,HK6.out⟩
  ·rw[decide_eq_false h2] at H4;have ht:¬PlT c s n:=fun h=>h2 ⟨h.2.2.1,h.2.2.2⟩
   have e1:Hid (ofA c s n=0):=if_neg ht;have e2:Hid (ofE c s n=12):=if_neg ht;rw[e1.out,e2.out];clear e1 e2 hc k h1 h2 ht;generalize slI c=sl at *;generalize nuI c=nu at *;go_enter Tryz.func220,Tryz.ntmps220;go_wp2_with fail;refine H1.out.mono ?_;rintro e w1 ⟨rfl,hk⟩;have HK1:=hid hk;clear hk;go_wp2_with fail;refine(H2.out _ HK1.out).mono ?_;rintro e w2 ⟨rfl,hk⟩;have HK2:=hid hk;clear hk HK1;go_wp2_with fail;refine(H3.out _ HK2.out).mono ?_;rintro e w3 ⟨rfl,hk⟩;have HK3:=hid hk;clear hk HK2;go_wp2_with fail;refine(H4.out _ HK3.out).mono ?_;rintro e w4 ⟨rfl,hk⟩;have HK4:=hid hk;clear hk HK3;go_wp2;go_ret2;exact⟨by simp,HK4.out⟩
 ·rw[decide_eq_false h1] at H2;have ht:¬PlT c s n:=fun h=>h1 ⟨h.1,h.2.1⟩
  have e1:Hid (ofA c s n=0):=if_neg ht;have e2:Hid (ofE c s n=12):=if_neg ht;rw[e1.out,e2.out];clear e1 e2 hc k h1 ht H3 H4;generalize slI c=sl at *;go_enter Tryz.func220,Tryz.ntmps220;go_wp2_with fail;refine H1.out.mono ?_;rintro e w1 ⟨rfl,hk⟩;have HK1:=hid hk;clear hk;go_wp2_with fail;refine(H2.out _ HK1.out).mono ?_;rintro e w2 ⟨rfl,hk⟩;have HK2:=hid hk;clear hk HK1;go_wp2;go_ret2;exact⟨by simp,HK2.out⟩
theorem l_at{a:Int}(h:Win a)(k:K w0 w):Calls Tryz.prog 157 #[.int .i64 a] w fun e w'=>e=.returned (.tuple #[.complex .f64 (fb (a / 512)) (fb (a % 512)),.int .i64 0])∧K w0 w':=by
 have H1:=hid (b_in a (by omega) k);rw[decide_eq_true h] at H1;have t1:Int.tdiv a 512=a / 512:=Int.tdiv_eq_ediv_of_nonneg (by omega);have t2:Int.tmod a 512=a % 512:=Int.tmod_eq_emod_of_nonneg (by omega);have t3:=pw (x:=a / 512) (by omega);have t4:=pw (x:=a % 512) (by omega);clear h k;generalize a / 512=p at *;generalize a % 512=q at *;show Calls Tryz.prog 157 #[.int .i64 a] w fun e w'=>e=.returned (.tuple #[.complex .f64 (floatOfInt .f64 p) (floatOfInt .f64 q),.int .i64 0])∧K w0 w'
 go_enter Tryz.func157,Tryz.ntmps157;go_wp2_with fail;refine H1.out.mono ?_;rintro e w1 ⟨rfl,hk⟩;have HK1:=hid hk;clear hk;go_wp2;go_ret2;exact⟨by simp,HK1.out⟩
theorem uO{a c s n E:Int}(h:eY a c s n E):(∃k y z,k=a / 131072 - 1∧y=a % 131072 / sbI k∧z=a % 131072 % sbI k / ah k∧((PlT k y z∧adI k y z=a∧c=k∧s=y∧n=z∧E=0)∨(¬(PlT k y z∧adI k y z=a)∧c=0∧s=0∧n=0∧E=4))):=by
 refine⟨_,_,_,rfl,rfl,rfl,?_⟩;obtain⟨k,hk⟩:∃k,k=a / 131072 - 1:=⟨_,rfl⟩;rw[←hk];by_cases ht:PlT k (a % 131072 / sbI k) (a % 131072 % sbI k / ah k)∧adI k (a % 131072 / sbI k) (a % 131072 % sbI k / ah k)=a
 ·left;obtain⟨e1,e2,e3,e4⟩:=h.one (.inl ⟨rfl,ht.1,ht.2⟩);exact⟨ht.1,ht.2,e1,e2,e3,e4⟩
 ·right;refine⟨ht,?_⟩;rcases h with⟨h1,h2,h3⟩|⟨h1,⟨h2,h3,h4⟩,_⟩
  ·exfalso;apply ht;have hr:=h2.tA h3;obtain rfl:c=k:=by omega
   have hl:=h2.lies;have hf:=bf h2.kind.1 h2.kind.2;have hm:a % 131072=s * sbI c+n * ah c:=by
    have:adI c s n=a:=h3;unfold adI at this;omega
   have q1:a % 131072 / sbI c=s:=by
    rw[hm,Int.add_comm,Int.add_mul_ediv_right _ _ (by omega),Int.ediv_eq_zero_of_lt hl.2.1 (by omega)];omega
   have q2:a % 131072 % sbI c=n * ah c:=by
    rw[hm,Int.add_comm,Int.add_mul_emod_self_right,Int.emod_eq_of_lt hl.2.1 (by omega)]
   have q3:a % 131072 % sbI c / ah c=n:=by
    rw[q2,Int.mul_ediv_cancel _ (by omega)]
   rw[q1,q3];exact⟨h2,h3⟩
  ·exact⟨h2,h3,h4,h1⟩
theorem res4{fn:Func}{t u v x:Tmp}(h:fn.results=#[.tmp t,.tmp u,.tmp v,.tmp x])(tmps:Array Value)(P:Program)(w:World):
  (results fn tmps).run P w=.ok (.tuple #[tmps.getD t undef,tmps.getD u undef,tmps.getD v undef,tmps.getD x undef]) w:=by
 simp[results,h]
theorem xJ{a:Int}(hw:¬Win a)(ha:I64 a)(k:K w0 w):Calls Tryz.prog 178 #[.int .i64 a] w fun e w'=>e=.returned (.tuple #[.int .i64 0,.int .i64 0,.int .i64 0,.int .i64 4])∧K w0 w':=by
 have H1:=hid (b_in a ha k);rw[decide_eq_false hw] at H1;clear hw ha k;go_enter Tryz.func178,Tryz.ntmps178;go_wp2_with fail;refine H1.out.mono ?_;rintro e w1 ⟨rfl,hk⟩;have HK1:=hid hk;clear hk;go_wp2
 (try simp only[Exit.inBlock,Exit.then]);refine bodyPost_ret (res4 rfl _ _ _) rfl ?_
 exact⟨by simp,HK1.out⟩
theorem BM{a k y z:Int}{x f:Int}(hw:Win a)(hk:k=a / 131072 - 1)(hy:y=a % 131072 / sbI k)(hz:z=a % 131072 % sbI k / ah k)(hx:x=ofA k y z)(hf:f=ofE k y z)(q:K w0 w):Calls Tryz.prog 178 #[.int .i64 a] w fun e w'=>e=.returned (.tuple (if f=0∧x=a then#[.int .i64 k,.int .i64 y,.int .i64 z,.int .i64 0] else#[.int .i64 0,.int .i64 0,.int .i64 0,.int .i64 4]))∧K w0 w':=by
 have H1:=hid (b_in a (by omega) q);rw[decide_eq_true hw] at H1;have hfx:=bf (c:=k) (by omega) (by omega);have r0:0≤a % 131072∧a % 131072<131072:=by omega
 have d1:Int.tdiv (a - 131072) 131072=k:=by rw[Int.tdiv_eq_ediv_of_nonneg (by omega)];omega
 have d2:Int.tmod a 131072=a % 131072:=Int.tmod_eq_emod_of_nonneg (by omega);have g1:=pw (x:=a - 131072) (by omega);have g2:=pw (x:=k) (by omega);have y0:0≤y:=by rw[hy];exact Int.ediv_nonneg (by omega) (by omega)
 have y1:y≤131072:=by rw[hy];have:=Int.ediv_le_self (a:=a % 131072) (sbI k) (by omega);omega
 have m0:0≤a % 131072 % sbI k:=Int.emod_nonneg _ (by omega);have m1:a % 131072 % sbI k<sbI k:=Int.emod_lt_of_pos _ (by omega);have z0:0≤z:=by rw[hz];exact Int.ediv_nonneg m0 (by omega)
 have z1:z≤131072:=by rw[hz];have:=Int.ediv_le_self (a:=a % 131072 % sbI k) (ah k) m0;omega
 have d3:Int.tdiv (a % 131072) (sbI k)=y:=by rw[Int.tdiv_eq_ediv_of_nonneg (by omega),hy]
 have d4:Int.tmod (a % 131072) (sbI k)=a % 131072 % sbI k:=Int.tmod_eq_emod_of_nonneg (by omega);have d5:Int.tdiv (a % 131072 % sbI k) (ah k)=z:=by rw[Int.tdiv_eq_ediv_of_nonneg m0,hz]
 have n1:sbI k≠0:=by omega
 have n2:ah k≠0:=by omega
 have H2:Hid (∀w,K w0 w→Calls Tryz.prog 195 #[.int .i64 k] w fun e w'=>e=.returned (.int .i64 (sbI k))∧K w0 w'):=fun w q=>oq k q
 have H3:Hid (∀w,K w0 w→Calls Tryz.prog 82 #[.int .i64 k] w fun e w'=>e=.returned (.int .i64 (ah k))∧K w0 w'):=fun w q=>pT k q
 have H4:Hid (∀w,K w0 w→Calls Tryz.prog 220 #[.int .i64 k,.int .i64 y,.int .i64 z] w fun e w'=>e=.returned (.tuple #[.int .i64 x,.int .i64 f])∧K w0 w'):=fun w q=>by
  rw[hx,hf];exact l_of k y z (by omega) (by omega) (by omega) q
 have hfo:f=0∨f=12:=by rw[hf];unfold ofE;split<;>simp
 have g3:=pw (x:=a % 131072) (by omega);have g4:=pw (x:=y) (by omega);have g5:=pw (x:=a % 131072 % sbI k) (by omega);have g6:=pw (x:=z) (by omega);have m1:0<sbI k:=by omega
 have m2:0<ah k:=by omega
 clear hk hy hz hx hf hfx r0 y0 y1 m0 z0 z1 q;generalize a % 131072=r at *;generalize sbI k=sb at *;generalize ah k=u at *;generalize r % sb=m at *;rcases hfo with rfl|rfl
 ·by_cases hxa:x=a
  ·subst hxa;rw[if_pos ⟨rfl,rfl⟩];go_enter Tryz.func178,Tryz.ntmps178;go_wp2_with fail;refine H1.out.mono ?_;rintro e w1 ⟨rfl,hk⟩;have HK1:=hid hk;clear hk;go_wp2_with fail;refine(H2.out _ HK1.out).mono ?_;rintro e w2 ⟨rfl,hk⟩;have HK2:=hid hk;clear hk HK1;go_wp2_with fail;go_region_held3 (fun _=>True) (trivial) (first|(go_at_call 82;refine(H3.out _ HK3.out).mono ?_;rintro e w4 ⟨rfl,hk⟩;have HK4:=hid hk;clear hk)|(go_at_call 195;refine(H2.out _ (HK2.out.on (Fr.refl _ _).drew)).mono ?_;rintro e w3 ⟨rfl,hk⟩;have HK3:=hid hk;clear hk));go_wp2_with fail;refine(H4.out _ HK4.out).mono ?_;rintro e w5 ⟨rfl,hk⟩;have HK5:=hid hk;clear hk HK4;go_wp2
   (try simp only[Exit.inBlock,Exit.then]);refine bodyPost_ret (res4 rfl _ _ _) rfl ?_
   exact⟨by simp,HK5.out⟩
  ·rw[if_neg fun h=>hxa h.2];have hxb:(x==a)=false:=beq_eq_false_iff_ne.2 hxa;go_enter Tryz.func178,Tryz.ntmps178;go_wp2_with fail;refine H1.out.mono ?_;rintro e w1 ⟨rfl,hk⟩;have HK1:=hid hk;clear hk;go_wp2_with fail;refine(H2.out _ HK1.out).mono ?_;rintro e w2 ⟨rfl,hk⟩;have HK2:=hid hk;clear hk HK1;go_wp2_with fail;go_region_held3 (fun _=>True) (trivial) (first|(go_at_call 82;refine(H3.out _ HK3.out).mono ?_;rintro e w4 ⟨rfl,hk⟩;have HK4:=hid hk;clear hk)|(go_at_call 195;refine(H2.out _ (HK2.out.on (Fr.refl _ _).drew)).mono ?_;rintro e w3 ⟨rfl,hk⟩;have HK3:=hid hk;clear hk));go_wp2_with fail;refine(H4.out _ HK4.out).mono ?_;rintro e w5 ⟨rfl,hk⟩;have HK5:=hid hk;clear hk HK4;go_wp2
   (try simp only[Exit.inBlock,Exit.then]);refine bodyPost_ret (res4 rfl _ _ _) rfl ?_
   exact⟨by simp,HK5.out⟩
 ·rw[if_neg fun h=>absurd h.1 (by decide)];go_enter Tryz.func178,Tryz.ntmps178;go_wp2_with fail;refine H1.out.mono ?_;rintro e w1 ⟨rfl,hk⟩;have HK1:=hid hk;clear hk;go_wp2_with fail;refine(H2.out _ HK1.out).mono ?_;rintro e w2 ⟨rfl,hk⟩;have HK2:=hid hk;clear hk HK1;go_wp2_with fail;go_region_held3 (fun _=>True) (trivial) (first|(go_at_call 82;refine(H3.out _ HK3.out).mono ?_;rintro e w4 ⟨rfl,hk⟩;have HK4:=hid hk;clear hk)|(go_at_call 195;refine(H2.out _ (HK2.out.on (Fr.refl _ _).drew)).mono ?_;rintro e w3 ⟨rfl,hk⟩;have HK3:=hid hk;clear hk));go_wp2_with fail;refine(H4.out _ HK4.out).mono ?_;rintro e w5 ⟨rfl,hk⟩;have HK5:=hid hk;clear hk HK4;go_wp2
  (try simp only[Exit.inBlock,Exit.then]);refine bodyPost_ret (res4 rfl _ _ _) rfl ?_
  exact⟨by simp,HK5.out⟩
theorem zf{a c s n E:Int}(h:eY a c s n E)(ha:I64 a)(k:K w0 w):Calls Tryz.prog 178 #[.int .i64 a] w fun e w'=>e=.returned (.tuple #[.int .i64 c,.int .i64 s,.int .i64 n,.int .i64 E])∧K w0 w':=by
 by_cases hw:Win a
 ·obtain⟨k',y,z,hk,hy,hz,hh⟩:=uO h;refine(BM hw hk hy hz rfl rfl k).mono ?_;rcases hh with⟨t,e,rfl,rfl,rfl,rfl⟩|⟨t,rfl,rfl,rfl,rfl⟩
  ·rintro _ _ ⟨rfl,hK⟩;rw[if_pos ⟨if_pos t,by rw[show ofA c s n=adI c s n from if_pos t];exact e⟩];exact⟨rfl,hK⟩
  ·rintro _ _ ⟨rfl,hK⟩;rw[if_neg ?_]
   ·exact⟨rfl,hK⟩
   ·rintro⟨t1,t2⟩;by_cases ht:PlT k' y z
    ·rw[show ofA k' y z=adI k' y z from if_pos ht] at t2;exact t ⟨ht,t2⟩
    ·rw[show ofE k' y z=12 from if_neg ht] at t1;exact absurd t1 (by decide)
 ·rcases h with⟨_,h2,h3⟩|⟨rfl,⟨rfl,rfl,rfl⟩,_⟩
  ·exact absurd (h2.tA h3).2 hw
  ·exact xJ hw ha k
theorem bU(x:Nat)(q:Int)(hq:floatToIntVal .f64 x .i64=some q)(w:World):(convert 121 3 (.float .f64 x)).run Tryz.prog w=.ok (.int .i64 q) w:=
 run_convert_float_int w _ _ .f64 .i64 x q (by rw[Tryz.underlying121];rfl) Tryz.underlying3 hq
theorem gD(x y:Nat):(whB x 256 6400&&whB y 0 512)=(((FloatKind.f64.format.order x 4643211215818981376==some .gt||FloatKind.f64.format.order x 4643211215818981376==some .eq)&&(FloatKind.f64.format.order x 4663758889118859264==some .lt)&&(match floatToIntVal .f64 x .i64 with|some q=>FloatKind.f64.format.order (floatOfInt .f64 q) x==some .eq |none=>false))&&((FloatKind.f64.format.order y 0==some .gt||FloatKind.f64.format.order y 0==some .eq)&&(FloatKind.f64.format.order y 4647714815446351872==some .lt)&&(match floatToIntVal .f64 y .i64 with|some q=>FloatKind.f64.format.order (floatOfInt .f64 q) y==some .eq |none=>false))):=by
 unfold whB geB ltB;rw[←xN,←qg,←xM,bP];rfl
theorem im{x:Nat}(h1:(FloatKind.f64.format.order x 4643211215818981376==some .gt||FloatKind.f64.format.order x 4643211215818981376==some .eq)=true)(h2:(FloatKind.f64.format.order x 4663758889118859264==some .lt)=true):∃q:Int,floatToIntVal .f64 x .i64=some q∧256≤q∧q<6400:=jQ x 256 6400 (by decide) (by decide) (by decide) (by decide) (by unfold geB;rw[←xN];exact h1) (by unfold ltB;rw[←qg];exact h2)
theorem eF{y:Nat}(h1:(FloatKind.f64.format.order y 0==some .gt||FloatKind.f64.format.order y 0==some .eq)=true)(h2:(FloatKind.f64.format.order y 4647714815446351872==some .lt)=true):∃q:Int,floatToIntVal .f64 y .i64=some q∧0≤q∧q<512:=jQ y 0 512 (by decide) (by decide) (by decide) (by decide) (by unfold geB;rw[bP];exact h1) (by unfold ltB;rw[←xM];exact h2)
theorem iR{x y:Nat}(g1:(FloatKind.f64.format.order x 4643211215818981376==some .gt||FloatKind.f64.format.order x 4643211215818981376==some .eq)=false)(k:K w0 w):Calls Tryz.prog 250 #[.complex .f64 x y] w fun e w'=>e=.returned (.tuple #[.int .i64 0,.int .i64 4])∧K w0 w':=by
 have HK:=hid k;clear k;go_enter Tryz.func250,Tryz.ntmps250;go_wp2;go_ret2;exact⟨by simp,HK.out⟩
theorem iQ{x y:Nat}(g1:(FloatKind.f64.format.order x 4643211215818981376==some .gt||FloatKind.f64.format.order x 4643211215818981376==some .eq)=true)(l1:(FloatKind.f64.format.order x 4663758889118859264==some .lt)=false)(k:K w0 w):Calls Tryz.prog 250 #[.complex .f64 x y] w fun e w'=>e=.returned (.tuple #[.int .i64 0,.int .i64 4])∧K w0 w':=by
 have HK:=hid k;clear k;go_enter Tryz.func250,Tryz.ntmps250;go_wp2;go_ret2;exact⟨by simp,HK.out⟩
theorem iP{x y:Nat}(g1:(FloatKind.f64.format.order x 4643211215818981376==some .gt||FloatKind.f64.format.order x 4643211215818981376==some .eq)=true)(l1:(FloatKind.f64.format.order x 4663758889118859264==some .lt)=true)(g2:(FloatKind.f64.format.order y 0==some .gt||FloatKind.f64.format.order y 0==some .eq)=false)(k:K w0 w):Calls Tryz.prog 250 #[.complex .f64 x y] w fun e w'=>e=.returned (.tuple #[.int .i64 0,.int .i64 4])∧K w0 w':=by
 have HK:=hid k;clear k;go_enter Tryz.func250,Tryz.ntmps250;go_wp2;go_ret2;exact⟨by simp,HK.out⟩
theorem iN{x y:Nat}(g1:(FloatKind.f64.format.order x 4643211215818981376==some .gt||FloatKind.f64.format.order x 4643211215818981376==some .eq)=true)(l1:(FloatKind.f64.format.order x 4663758889118859264==some .lt)=true)(g2:(FloatKind.f64.format.order y 0==some .gt||FloatKind.f64.format.order y 0==some .eq)=true)(l2:(FloatKind.f64.format.order y 4647714815446351872==some .lt)=false)(k:K w0 w):Calls Tryz.prog 250 #[.complex .f64 x y] w fun e w'=>e=.returned (.tuple #[.int .i64 0,.int .i64 4])∧K w0 w':=by
 have HK:=hid k;clear k;go_enter Tryz.func250,Tryz.ntmps250;go_wp2;go_ret2;exact⟨by simp,HK.out⟩
theorem kQ{x y:Nat}(g1:(FloatKind.f64.format.order x 4643211215818981376==some .gt||FloatKind.f64.format.order x 4643211215818981376==some .eq)=true)(l1:(FloatKind.f64.format.order x 4663758889118859264==some .lt)=true)(g2:(FloatKind.f64.format.order y 0==some .gt||FloatKind.f64.format.order y 0==some .eq)=true)(l2:(FloatKind.f64.format.order y 4647714815446351872==some .lt)=true)(p q:Int)(v1:∀w,(convert 121 3 (.float .f64 x)).run Tryz.prog w=.ok (.int .i64 p) w)(v2:∀w,(convert 121 3 (.float .f64 y)).run Tryz.prog w=.ok (.int .i64 q) w)(b1:256≤p)(b2:p<6400)(b3:0≤q)(b4:q<512)(e1:(FloatKind.f64.format.order (floatOfInt .f64 p) x==some .eq)=true)(e2:(FloatKind.f64.format.order (floatOfInt .f64 q) y==some .eq)=true)(k:K w0 w):Calls Tryz.prog 250 #[.complex .f64 x y] w fun e w'=>e=.returned (.tuple #[.int .i64 (p * 512+q),.int .i64 0])∧K w0 w':=by
 have H1:Hid (Calls Tryz.prog 157 #[.int .i64 (p * 512+q)] w fun e w'=>e=.returned (.tuple #[.complex .f64 (floatOfInt .f64 p) (floatOfInt .f64 q),.int .i64 0])∧K w0 w'):=by
  have:=l_at (a:=p * 512+q) (by omega) k;rw[show(p * 512+q) / 512=p by omega,show(p * 512+q) % 512=q by omega] at this;exact this
 clear k;go_enter Tryz.func250,Tryz.ntmps250;go_wp2_with fail;refine H1.out.mono ?_;rintro e w1 ⟨rfl,hk⟩;have HK:=hid hk;clear hk;go_wp2;go_ret2;exact⟨by simp,HK.out⟩
theorem kS{x y:Nat}(g1:(FloatKind.f64.format.order x 4643211215818981376==some .gt||FloatKind.f64.format.order x 4643211215818981376==some .eq)=true)(l1:(FloatKind.f64.format.order x 4663758889118859264==some .lt)=true)(g2:(FloatKind.f64.format.order y 0==some .gt||FloatKind.f64.format.order y 0==some .eq)=true)(l2:(FloatKind.f64.format.order y 4647714815446351872==some .lt)=true)(p q:Int)(v1:∀w,(convert 121 3 (.float .f64 x)).run Tryz.prog w=.ok (.int .i64 p) w)(v2:∀w,(convert 121 3 (.float .f64 y)).run Tryz.prog w=.ok (.int .i64 q) w)(b1:256≤p)(b2:p<6400)(b3:0≤q)(b4:q<512)(e1:(FloatKind.f64.format.order (floatOfInt .f64 p) x==some .eq)=false)(k:K w0 w):Calls Tryz.prog 250 #[.complex .f64 x y] w fun e w'=>e=.returned (.tuple #[.int .i64 0,.int .i64 4])∧K w0 w':=by
 have H1:Hid (Calls Tryz.prog 157 #[.int .i64 (p * 512+q)] w fun e w'=>e=.returned (.tuple #[.complex .f64 (floatOfInt .f64 p) (floatOfInt .f64 q),.int .i64 0])∧K w0 w'):=by
  have:=l_at (a:=p * 512+q) (by omega) k;rw[show(p * 512+q) / 512=p by omega,show(p * 512+q) % 512=q by omega] at this;exact this
 clear k;go_enter Tryz.func250,Tryz.ntmps250;go_wp2_with fail;refine H1.out.mono ?_;rintro e w1 ⟨rfl,hk⟩;have HK:=hid hk;clear hk;go_wp2;go_ret2;exact⟨by simp,HK.out⟩
theorem kR{x y:Nat}(g1:(FloatKind.f64.format.order x 4643211215818981376==some .gt||FloatKind.f64.format.order x 4643211215818981376==some .eq)=true)(l1:(FloatKind.f64.format.order x 4663758889118859264==some .lt)=true)(g2:(FloatKind.f64.format.order y 0==some .gt||FloatKind.f64.format.order y 0==some .eq)=true)(l2:(FloatKind.f64.format.order y 4647714815446351872==some .lt)=true)(p q:Int)(v1:∀w,(convert 121 3 (.float .f64 x)).run Tryz.prog w=.ok (.int .i64 p) w)(v2:∀w,(convert 121 3 (.float .f64 y)).run Tryz.prog w=.ok (.int .i64 q) w)(b1:256≤p)(b2:p<6400)(b3:0≤q)(b4:q<512)(e1:(FloatKind.f64.format.order (floatOfInt .f64 p) x==some .eq)=true)(e2:(FloatKind.f64.format.order (floatOfInt .f64 q) y==some .eq)=false)(k:K w0 w):Calls Tryz.prog 250 #[.complex .f64 x y] w fun e w'=>e=.returned (.tuple #[.int .i64 0,.int .i64 4])∧K w0 w':=by
 have H1:Hid (Calls Tryz.prog 157 #[.int .i64 (p * 512+q)] w fun e w'=>e=.returned (.tuple #[.complex .f64 (floatOfInt .f64 p) (floatOfInt .f64 q),.int .i64 0])∧K w0 w'):=by
  have:=l_at (a:=p * 512+q) (by omega) k;rw[show(p * 512+q) / 512=p by omega,show(p * 512+q) % 512=q by omega] at this;exact this
 clear k;go_enter Tryz.func250,Tryz.ntmps250;go_wp2_with fail;refine H1.out.mono ?_;rintro e w1 ⟨rfl,hk⟩;have HK:=hid hk;clear hk;go_wp2;go_ret2;exact⟨by simp,HK.out⟩
theorem mg{x y:Nat}(h:(whB x 256 6400&&whB y 0 512)=false)(k:K w0 w):Calls Tryz.prog 250 #[.complex .f64 x y] w fun e w'=>e=.returned (.tuple #[.int .i64 0,.int .i64 4])∧K w0 w':=by
 cases g1:(FloatKind.f64.format.order x 4643211215818981376==some .gt||FloatKind.f64.format.order x 4643211215818981376==some .eq) with
 |false=>exact iR g1 k
 |true=>
 cases l1:(FloatKind.f64.format.order x 4663758889118859264==some .lt) with
 |false=>exact iQ g1 l1 k
 |true=>
 cases g2:(FloatKind.f64.format.order y 0==some .gt||FloatKind.f64.format.order y 0==some .eq) with
 |false=>exact iP g1 l1 g2 k
 |true=>
 cases l2:(FloatKind.f64.format.order y 4647714815446351872==some .lt) with
 |false=>exact iN g1 l1 g2 l2 k
 |true=>
 obtain⟨p,hp,b1,b2⟩:=im g1 l1;obtain⟨q,hq,b3,b4⟩:=eF g2 l2;cases e1:(FloatKind.f64.format.order (floatOfInt .f64 p) x==some .eq) with
 |false=>exact kS g1 l1 g2 l2 p q (bU x p hp) (bU y q hq) b1 b2 b3 b4 e1 k
 |true=>
 cases e2:(FloatKind.f64.format.order (floatOfInt .f64 q) y==some .eq) with
 |false=>exact kR g1 l1 g2 l2 p q (bU x p hp) (bU y q hq) b1 b2 b3 b4 e1 e2 k
 |true=>
  exfalso;rw[gD,hp,hq] at h;simp only[g1,l1,g2,l2,e1,e2] at h;exact absurd h (by decide)
theorem zg{x y:Nat}{p q:Int}(h:(whB x 256 6400&&whB y 0 512)=true)(hp:floatToIntVal .f64 x .i64=some p)(hq:floatToIntVal .f64 y .i64=some q)(k:K w0 w):Calls Tryz.prog 250 #[.complex .f64 x y] w fun e w'=>e=.returned (.tuple #[.int .i64 (p * 512+q),.int .i64 0])∧K w0 w':=by
 rw[gD,hp,hq] at h;simp only[Bool.and_eq_true] at h;obtain⟨⟨⟨g1,l1⟩,e1⟩,⟨g2,l2⟩,e2⟩:=h;obtain⟨p',hp',b1,b2⟩:=im g1 l1;obtain⟨q',hq',b3,b4⟩:=eF g2 l2;obtain rfl:p=p':=Option.some.inj (hp.symm.trans hp');obtain rfl:q=q':=Option.some.inj (hq.symm.trans hq');exact kQ g1 l1 g2 l2 p q (bU x p hp) (bU y q hq) b1 b2 b3 b4 e1 e2 k
end
end Go.Proofs.YtndhbnhobhkmaaaGreatDoor
