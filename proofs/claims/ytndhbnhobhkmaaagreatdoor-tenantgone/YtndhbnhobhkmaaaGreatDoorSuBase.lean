/-
  Whole numbers as floats of 64 bits: plain mathematics over the words of IEEE 754. Nothing of the program is named here.
-/
import Derived.Laws.ComplexArith
import Derived.RowKit
namespace Go.Proofs.YtndhbnhobhkmaaaGreatDoor
open Ieee
def fb(n:Int):Nat:=FloatKind.f64.nearest n
theorem xL(n:Int):fb n=double.nearest (decide (n<0)) n.natAbs 0:=rfl
def Is(d:Datum)(n:Int):Prop:=
 ∃(s:Bool) (m:Nat) (i:Int) (K:Nat),d=.number s m i∧0≤i+K∧signed s m (i+K).toNat=n * 2 ^ K∧(m=0→s=false)
theorem ba(s:Bool)(m a b:Nat):signed s m (a+b)=signed s m a * 2 ^ b:=by
 unfold signed;have h:m<<<(a+b)=(m<<<a) * 2 ^ b:=by rw[Nat.shiftLeft_eq,Nat.shiftLeft_eq,Nat.pow_add,Nat.mul_assoc]
 rw[h];split<;>simp[Int.natCast_mul,Int.natCast_pow,Int.neg_mul]
theorem cK(k:Nat):(0:Int)<2 ^ k:=Int.pow_pos (by decide)
theorem lz{s:Bool}{m:Nat}{i:Int}{K:Nat}{n:Int}(h0:0≤i+K)(h:signed s m (i+K).toNat=n * 2 ^ K)(J:Nat):signed s m (i+(K+J:Nat)).toNat=n * 2 ^ (K+J):=by
 rw[show(i+((K+J:Nat):Int)).toNat=(i+K).toNat+J by omega,ba,h,Int.pow_add,Int.mul_assoc]
theorem Is.scale{d:Datum}{n:Int}(h:Is d n):∃(s:Bool) (m:Nat) (i:Int) (K:Nat),d=.number s m i∧0≤i+K∧(∀J,K≤J→signed s m (i+J).toNat=n * 2 ^ J)∧(m=0→s=false):=by
 obtain⟨s,m,i,K,rfl,h0,h1,h2⟩:=h;refine⟨s,m,i,K,rfl,h0,fun J hJ=> ?_,h2⟩;have:=lz h0 h1 (J - K)
 rwa [show K+(J - K)=J by omega] at this
theorem bp(s:Bool)(m a:Nat):(s=false→0≤signed s m a)∧(s=true→signed s m a≤0)∧(signed s m a=0→m=0):=by
 unfold signed;have hz:(0:Int)≤((m<<<a:Nat):Int):=Int.natCast_nonneg _;refine⟨fun h=>by subst h;rw[if_neg (by decide)];exact hz,fun h=>by subst h;rw[if_pos rfl];exact Int.neg_nonpos_of_nonneg hz,fun h=> ?_⟩;have h2:(m<<<a:Nat)=0:=by
  split at h<;>omega
 rw[Nat.shiftLeft_eq] at h2;rcases Nat.mul_eq_zero.1 h2 with h3|h3
 ·exact h3
 ·exact absurd h3 (Nat.pos_iff_ne_zero.1 (Nat.two_pow_pos a))
theorem eR(x y c:Int)(hc:0<c):compare (x * c) (y * c)=compare x y:=by
 have lt:∀a b:Int,a * c<b * c↔a<b:=fun a b=>⟨fun h=>Int.lt_of_mul_lt_mul_right h (Int.le_of_lt hc),fun h=>Int.mul_lt_mul_of_pos_right h hc⟩
 have eq:x * c=y * c↔x=y:=⟨fun h=>Int.eq_of_mul_eq_mul_right (by omega) h,fun h=>by rw[h]⟩;show compareOfLessAndEq (x * c) (y * c)=compareOfLessAndEq x y;unfold compareOfLessAndEq;simp only[lt,eq]
theorem Is.order{a b:Datum}{x y:Int}(ha:Is a x)(hb:Is b y):a.order b=some (compare x y):=by
 obtain⟨s,m,i,K,rfl,h0,h1,_⟩:=ha.scale;obtain⟨t,n,j,L,rfl,k0,k1,_⟩:=hb.scale;have e1:=h1 (max K L) (by omega);have e2:=k1 (max K L) (by omega);unfold Datum.order;simp only;congr 1;have hp:=cK (min i j+(max K L:Nat)).toNat;rw[←eR _ _ _ hp,←ba,←ba,←eR x y (2 ^ (max K L)) (cK _),←e1,←e2];congr 2<;>omega
theorem Is.sum{a b:Datum}{x y:Int}(ha:Is a x)(hb:Is b y):∃d,a.sum b=some d∧Is d (x+y):=by
 obtain⟨s,m,i,K,rfl,h0,h1,h2⟩:=ha.scale;obtain⟨t,n,j,L,rfl,k0,k1,k2⟩:=hb.scale;have e1:=h1 (max K L) (by omega);have e2:=k1 (max K L) (by omega);have b0:0≤min i j+(max K L:Nat):=by omega
 refine⟨_,rfl,?_⟩;generalize hT:signed s m (i - min i j).toNat+signed t n (j - min i j).toNat=T;have hT2:T * 2 ^ (min i j+(max K L:Nat)).toNat=(x+y) * 2 ^ (max K L):=by
  rw[←hT,Int.add_mul,←ba,←ba,Int.add_mul,←e1,←e2];congr 2<;>omega
 refine⟨_,_,_,max K L,rfl,b0,?_,?_⟩
 ·rw[←hT2];unfold signed;rw[Nat.shiftLeft_eq];by_cases hz:T=0
  ·subst hz;simp
  ·rw[if_neg hz];by_cases hn:T<0
   ·rw[if_pos (by simpa using hn),Int.natCast_mul,←Int.neg_mul,show(-(T.natAbs:Int))=T by omega];simp
   ·rw[if_neg (by simpa using hn),Int.natCast_mul,show((T.natAbs:Int))=T by omega];simp
 ·intro hz;have hz:T=0:=by omega
  rw[if_pos hz];subst hz;cases s
  ·rfl
  cases t
  ·rfl
  ·have s1:=(bp true m (i - min i j).toNat);have s2:=(bp true n (j - min i j).toNat);have:=s1.2.1 rfl;have:=s2.2.1 rfl;have hm:=s1.2.2 (by omega);exact absurd (h2 hm) (by decide)
theorem Is.less{a b:Datum}{x y:Int}(ha:Is a x)(hb:Is b y):∃d,a.sum b.opposite=some d∧Is d (x - y):=by
 obtain⟨s,m,i,K,rfl,h0,h1,h2⟩:=ha.scale;obtain⟨t,n,j,L,rfl,k0,k1,k2⟩:=hb.scale;have e1:=h1 (max K L) (by omega);have e2:=k1 (max K L) (by omega);have b0:0≤min i j+(max K L:Nat):=by omega
 have hop:∀a,signed (!t) n a= - signed t n a:=fun a=>by unfold signed;cases t<;>simp
 refine⟨_,rfl,?_⟩;generalize hT:signed s m (i - min i j).toNat+signed (!t) n (j - min i j).toNat=T;have hT2:T * 2 ^ (min i j+(max K L:Nat)).toNat=(x - y) * 2 ^ (max K L):=by
  rw[←hT,Int.add_mul,←ba,←ba,Int.sub_mul,hop,←e1,←e2,Int.sub_eq_add_neg];congr 3<;>omega
 refine⟨_,_,_,max K L,rfl,b0,?_,?_⟩
 ·rw[←hT2];unfold signed;rw[Nat.shiftLeft_eq];by_cases hz:T=0
  ·subst hz;simp
  ·rw[if_neg hz];by_cases hn:T<0
   ·rw[if_pos (by simpa using hn),Int.natCast_mul,←Int.neg_mul,show(-(T.natAbs:Int))=T by omega];simp
   ·rw[if_neg (by simpa using hn),Int.natCast_mul,show((T.natAbs:Int))=T by omega];simp
 ·intro hz;have hz:T=0:=by omega
  rw[if_pos hz];subst hz;cases s
  ·rfl
  cases t
  ·have s1:=(bp true m (i - min i j).toNat);have s2:=(bp true n (j - min i j).toNat);have:=s1.2.1 rfl;have:=s2.2.1 rfl;simp only[Bool.not_false] at hT;have hm:=s1.2.2 (by omega);exact absurd (h2 hm) (by decide)
  ·rfl
theorem gW(s:Bool)(r:Nat)(h0:4503599627370496≤r)(h1:r<9218868437227405312):
  double.read (double.word s r)=.number s (4503599627370496+r % 4503599627370496) (-1074+((r / 4503599627370496 - 1:Nat):Int)):=by
 have hw:double.word s r / 9223372036854775808 % 2=(if s then 1 else 0)∧double.word s r % 9223372036854775808=r:=by
  unfold Format.word;have:double.signWeight=9223372036854775808:=by decide+kernel
  rw[this];cases s
  ·simp;omega
  ·simp;omega
 have e1:double.signWeight=9223372036854775808:=by decide+kernel
 have e2:double.binade=4503599627370496:=by decide+kernel
 have e3:double.infRung=9218868437227405312:=by decide+kernel
 have e4:double.leastPlace= -1074:=by decide+kernel
 unfold Format.read;simp only[e1,e2,e3,e4,hw.1,hw.2];rw[if_neg (by omega),if_pos h1];cases s<;>simp
theorem sR:double.read 0=.number false 0 (-1074):=by decide+kernel
theorem Is.zero:Is (double.read 0) 0:=by rw[sR];exact⟨false,0,-1074,1074,rfl,by omega,by rw[Int.zero_mul];unfold signed;rw[if_neg (by decide),Nat.zero_shiftLeft];rfl,fun _=>rfl⟩
theorem bP:fb 0=0:=by decide+kernel
theorem uW(s:Bool)(n:Nat):Toward.even.cut s n 0=n:=by
 unfold Toward.cut;simp[Nat.mod_one]
theorem oJ(m l:Nat)(hl:l≤52)(hlo:2 ^ l≤m)(hhi:m<2 ^ (l+1)):4503599627370496≤m * 2 ^ (52 - l)∧m * 2 ^ (52 - l)<9007199254740992:=by
 have hp:2 ^ l * 2 ^ (52 - l)=2 ^ 52:=by rw[←Nat.pow_add,show l+(52 - l)=52 by omega]
 have h1:=Nat.mul_le_mul_right (2 ^ (52 - l)) hlo;have h2:=Nat.mul_lt_mul_of_pos_right hhi (Nat.two_pow_pos (52 - l));rw[Nat.pow_succ,Nat.mul_right_comm] at h2;rw[hp] at h1 h2;have e:(2:Nat) ^ 52=4503599627370496:=by decide
 rw[e] at h1 h2;generalize m * 2 ^ (52 - l)=z at *;omega
theorem jg(m:Nat)(h0:0<m)(h1:m<9007199254740992):m.log2≤52:=by
 have e:(2:Nat) ^ 53=9007199254740992:=by decide
 rw[←e] at h1;have:=(Nat.log2_lt (n:=m) (k:=53) (by omega)).2 h1;omega
theorem kb(s:Bool)(m:Nat)(h0:0<m)(h1:m<9007199254740992):
  double.nearest s m 0=double.word s ((1022+m.log2) * 4503599627370496+m * 2 ^ (52 - m.log2)):=by
 have hl:=jg m h0 h1;obtain⟨a1,a2⟩:=oJ m m.log2 hl (Nat.log2_self_le (by omega)) Nat.lt_log2_self;have e2:double.binade=4503599627370496:=by decide+kernel
 have e3:double.infRung=9218868437227405312:=by decide+kernel
 have e4:double.leastPlace= -1074:=by decide+kernel
 have e5:double.fractionBits=52:=rfl;unfold Format.nearest;rw[if_neg (by omega)];simp only[e2,e3,e4,e5];have hlast:max (0+(m.log2:Int) - ((52:Nat):Int)) (-1074)=(m.log2:Int) - 52:=by omega
 rw[hlast,show(0 - ((m.log2:Int) - 52)).toNat=52 - m.log2 by omega,show((m.log2:Int) - 52 - 0).toNat=0 by omega,uW,Nat.shiftLeft_eq,show((m.log2:Int) - 52 - -1074).toNat=1022+m.log2 by omega];congr 1;generalize m * 2 ^ (52 - m.log2)=z at *;generalize m.log2=l at *;omega
theorem qF(s:Bool)(m:Nat)(h0:0<m)(h1:m<9007199254740992):
  double.read (double.nearest s m 0)=.number s (m * 2 ^ (52 - m.log2)) (-((52 - m.log2:Nat):Int)):=by
 have hl:=jg m h0 h1;obtain⟨a1,a2⟩:=oJ m m.log2 hl (Nat.log2_self_le (by omega)) Nat.lt_log2_self;rw[kb s m h0 h1];generalize m * 2 ^ (52 - m.log2)=z at *;generalize m.log2=l at *;rw[gW s _ (by omega) (by omega)];have e1:((1022+l) * 4503599627370496+z) % 4503599627370496=z - 4503599627370496:=by omega
 have e2:((1022+l) * 4503599627370496+z) / 4503599627370496=1023+l:=by omega
 rw[e1,e2,show 4503599627370496+(z - 4503599627370496)=z by omega,show(-1074+((1023+l - 1:Nat):Int))= -((52 - l:Nat):Int) by omega]
theorem Is.fb(n:Int)(h:n.natAbs<9007199254740992):Is (double.read (fb n)) n:=by
 by_cases h0:n=0
 ·subst h0;rw[bP];exact Is.zero
 ·rw[xL,qF _ _ (by omega) h];refine⟨_,_,_,52 - n.natAbs.log2,rfl,by omega,?_,fun hz=> ?_⟩
  ·rw[show(-((52 - n.natAbs.log2:Nat):Int)+((52 - n.natAbs.log2:Nat):Int)).toNat=0 by omega];unfold signed;simp only[Nat.shiftLeft_zero,Int.natCast_mul,Int.natCast_pow];by_cases hn:n<0
   ·rw[if_pos (by simpa using hn),←Int.neg_mul,show(-(n.natAbs:Int))=n by omega];rfl
   ·rw[if_neg (by simpa using hn),show((n.natAbs:Int))=n by omega];rfl
  ·have:=Nat.mul_pos (show 0<n.natAbs by omega) (Nat.two_pow_pos (52 - n.natAbs.log2));omega
theorem fM(m k:Nat)(h:0<m):(m * 2 ^ k).log2=m.log2+k:=by
 have hne:m * 2 ^ k≠0:=Nat.pos_iff_ne_zero.1 (Nat.mul_pos h (Nat.two_pow_pos k));rw[Nat.log2_eq_iff hne];constructor
 ·rw[Nat.pow_add];exact Nat.mul_le_mul_right _ (Nat.log2_self_le (by omega))
 ·rw[show m.log2+k+1=(m.log2+1)+k by omega,Nat.pow_add];exact Nat.mul_lt_mul_of_pos_right Nat.lt_log2_self (Nat.two_pow_pos k)
theorem mJ(s:Bool)(m k d:Nat)(h:0<m):Toward.even.cut s (m * 2 ^ k) (d+k)=Toward.even.cut s m d:=by
 unfold Toward.cut;rw[fM m k h,show min (d+k) (m.log2+k+2)=min d (m.log2+2)+k by omega];generalize min d (m.log2+2)=g;have e:1<<<(g+k)=(1<<<g) * 2 ^ k:=by simp[Nat.shiftLeft_eq,Nat.pow_add]
 simp only[e];have hp:=Nat.two_pow_pos k;have hg:0<1<<<g:=by rw[Nat.shiftLeft_eq];simpa using Nat.two_pow_pos g
 generalize 1<<<g=G at *;generalize 2 ^ k=p at *;rw[Nat.mul_div_mul_right _ _ hp,Nat.mul_mod_mul_right];have e1:G * p<2 * (m % G * p)↔G<2 * (m % G):=by rw[←Nat.mul_assoc];exact Nat.mul_lt_mul_right hp
 have e2:(G * p==2 * (m % G * p))=(G==2 * (m % G)):=by
  rw[←Nat.mul_assoc,Bool.eq_iff_iff,beq_iff_eq,beq_iff_eq];exact⟨fun h=>Nat.eq_of_mul_eq_mul_right hp h,fun h=>by rw[←h]⟩
 simp only[e1,e2]
theorem eC(s:Bool)(m k:Nat)(p:Int)(h:0<m):double.nearest s (m * 2 ^ k) (p - k)=double.nearest s m p:=by
 have hne:m * 2 ^ k≠0:=Nat.pos_iff_ne_zero.1 (Nat.mul_pos h (Nat.two_pow_pos k));unfold Format.nearest;rw[if_neg hne,if_neg (by omega),fM m k h];simp only;rw[show p - (k:Int)+((m.log2+k:Nat):Int) - (double.fractionBits:Int)=p+(m.log2:Int) - (double.fractionBits:Int) by omega];generalize max (p+(m.log2:Int) - (double.fractionBits:Int)) double.leastPlace=l;have key:Toward.even.cut s ((m * 2 ^ k)<<<(p - k - l).toNat) (l - (p - k)).toNat=Toward.even.cut s (m<<<(p - l).toNat) (l - p).toNat:=by
  rw[Nat.shiftLeft_eq,Nat.shiftLeft_eq];by_cases h1:l≤p - k
  ·rw[show(l - (p - k)).toNat=0 by omega,show(l - p).toNat=0 by omega,show(p - l).toNat=k+(p - k - l).toNat by omega,Nat.pow_add,Nat.mul_assoc]
  ·rw[show(p - k - l).toNat=0 by omega,Nat.pow_zero,Nat.mul_one];by_cases h2:l≤p
   ·rw[show(l - p).toNat=0 by omega,←mJ s (m * 2 ^ (p - l).toNat) (l - (p - k)).toNat 0 (Nat.mul_pos h (Nat.two_pow_pos _)),Nat.mul_assoc,←Nat.pow_add,Nat.zero_add,show(p - l).toNat+(l - (p - k)).toNat=k by omega]
   ·rw[show(p - l).toNat=0 by omega,Nat.pow_zero,Nat.mul_one,show(l - (p - k)).toNat=(l - p).toNat+k by omega,mJ s m k _ h]
 rw[key]
theorem Is.write{d:Datum}{n:Int}(h:Is d n):double.write d=Go.Proofs.YtndhbnhobhkmaaaGreatDoor.fb n:=by
 obtain⟨s,m,i,K,rfl,h0,h1,h2⟩:=h;show double.nearest s m i=_;rw[xL];have hn:((m * 2 ^ (i+K).toNat:Nat):Int)=(n.natAbs:Int) * 2 ^ K:=by
  unfold signed at h1;rw[Nat.shiftLeft_eq] at h1;have hp:=cK K;split at h1
  ·have:n≤0:=by
    rcases Int.lt_or_le 0 n with hc|hc
    ·have:=Int.mul_pos hc hp;have:=Int.natCast_nonneg (m * 2 ^ (i+(K:Int)).toNat);omega
    ·exact hc
   rw[show(n.natAbs:Int)= -n by omega,Int.neg_mul,←h1];omega
  ·have:0≤n:=by
    rcases Int.lt_or_le n 0 with hc|hc
    ·have:=Int.mul_neg_of_neg_of_pos hc hp;have:=Int.natCast_nonneg (m * 2 ^ (i+(K:Int)).toNat);omega
    ·exact hc
   rw[show(n.natAbs:Int)=n by omega,←h1]
 have hn':m * 2 ^ (i+K).toNat=n.natAbs * 2 ^ K:=by
  have e:((2:Int) ^ K)=((2 ^ K:Nat):Int):=by simp
  rw[e,←Int.natCast_mul] at hn;exact Int.ofNat.inj hn
 by_cases hz:m=0
 ·subst hz;have:n.natAbs=0:=by
   rw[Nat.zero_mul] at hn';rcases Nat.mul_eq_zero.1 hn'.symm with h3|h3
   ·exact h3
   ·exact absurd h3 (Nat.pos_iff_ne_zero.1 (Nat.two_pow_pos K))
  obtain rfl:n=0:=by omega
  rw[h2 rfl];unfold Format.nearest;simp
 ·have hs:s=decide (n<0):=by
   have s1:=bp s m (i+K).toNat;rw[h1] at s1;have hp:=cK K;have hnz:n * 2 ^ K≠0:=fun e=>hz (s1.2.2 e)
   cases s
   ·have a:=s1.1 rfl;have:¬n<0:=fun hc=>by have:=Int.mul_neg_of_neg_of_pos hc hp;omega
    simp;omega
   ·have a:=s1.2.1 rfl;have:n<0:=by
     rcases Int.lt_or_le n 0 with hc|hc
     ·exact hc
     ·have:=Int.mul_nonneg hc (Int.le_of_lt hp);omega
    simp;omega
  rw[←hs];have hnp:0<n.natAbs:=by
   rcases Nat.eq_zero_or_pos n.natAbs with h3|h3
   ·rw[h3,Nat.zero_mul] at hn';have:=Nat.mul_pos (Nat.pos_iff_ne_zero.2 hz) (Nat.two_pow_pos (i+K).toNat);omega
   ·exact h3
  by_cases hi:i≤0
  ·have e:m=n.natAbs * 2 ^ (-i).toNat:=by
    rw[show K=(-i).toNat+(i+K).toNat by omega,Nat.pow_add,←Nat.mul_assoc,show((-i).toNat+(i+(K:Int)).toNat:Nat)=K by omega] at hn';exact Nat.eq_of_mul_eq_mul_right (Nat.two_pow_pos _) hn'
   rw[e];have:=eC s n.natAbs (-i).toNat 0 hnp
   rwa [show(0:Int) - ((-i).toNat:Int)=i by omega] at this
  ·have e:n.natAbs=m * 2 ^ i.toNat:=by
    rw[show(i+K).toNat=i.toNat+K by omega,Nat.pow_add,←Nat.mul_assoc] at hn';exact(Nat.eq_of_mul_eq_mul_right (Nat.two_pow_pos _) hn').symm
   rw[e];have:=eC s m i.toNat i (by omega);rw[show i - (i.toNat:Int)=0 by omega] at this;exact this.symm
theorem qj(s:Bool)(n drop:Nat):Toward.zero.cut s n drop=n / 2 ^ drop:=by
 unfold Toward.cut;simp only[Bool.toNat_false,Nat.add_zero,Nat.shiftLeft_eq,Nat.one_mul];by_cases h:drop≤n.log2+2
 ·rw[Nat.min_eq_left h]
 ·rw[Nat.min_eq_right (by omega)];have h1:n<2 ^ (n.log2+2):=Nat.lt_of_lt_of_le Nat.lt_log2_self (Nat.pow_le_pow_right (by decide) (by omega));have h2:n<2 ^ drop:=Nat.lt_of_lt_of_le h1 (Nat.pow_le_pow_right (by decide) (by omega));rw[Nat.div_eq_of_lt h1,Nat.div_eq_of_lt h2]
theorem ct(s:Bool)(m:Nat)(i:Int):(Datum.number s m i).toInt .zero=some (signed s ((m * 2 ^ i.toNat) / 2 ^ (-i).toNat) 0):=by
 unfold Datum.toInt Datum.integral;simp only[qj,Nat.shiftLeft_eq]
theorem Is.toInt{d:Datum}{n:Int}(h:Is d n):d.toInt .zero=some n:=by
 obtain⟨s,m,i,K,rfl,h0,h1,h2⟩:=h;rw[ct];congr 1;have hp:=cK K;refine Int.eq_of_mul_eq_mul_right (a:=2 ^ K) (by omega) ?_;rw[←h1,←ba,Nat.zero_add];unfold signed;have e:(m * 2 ^ i.toNat / 2 ^ (-i).toNat)<<<K=m<<<(i+K).toNat:=by
  rw[Nat.shiftLeft_eq,Nat.shiftLeft_eq];by_cases hi:0≤i
  ·rw[show(-i).toNat=0 by omega,Nat.pow_zero,Nat.div_one,Nat.mul_assoc,←Nat.pow_add,show i.toNat+K=(i+K).toNat by omega]
  ·rw[show i.toNat=0 by omega,Nat.pow_zero,Nat.mul_one];have hd:m=(n.natAbs) * 2 ^ (-i).toNat:=by
    have hn:((m * 2 ^ (i+K).toNat:Nat):Int)=(n.natAbs:Int) * 2 ^ K:=by
     unfold signed at h1;rw[Nat.shiftLeft_eq] at h1;have hnn:=Int.natCast_nonneg (m * 2 ^ (i+(K:Int)).toNat);split at h1
     ·have:n≤0:=by
       rcases Int.lt_or_le 0 n with hc|hc
       ·have:=Int.mul_pos hc hp;omega
       ·exact hc
      rw[show(n.natAbs:Int)= -n by omega,Int.neg_mul,←h1];omega
     ·have:0≤n:=by
       rcases Int.lt_or_le n 0 with hc|hc
       ·have:=Int.mul_neg_of_neg_of_pos hc hp;omega
       ·exact hc
      rw[show(n.natAbs:Int)=n by omega,←h1]
    have e:((2:Int) ^ K)=((2 ^ K:Nat):Int):=by simp
    rw[e,←Int.natCast_mul] at hn;have hn':=Int.ofNat.inj hn;rw[show 2 ^ K=2 ^ (-i).toNat * 2 ^ (i+K).toNat by rw[←Nat.pow_add,show(-i).toNat+(i+(K:Int)).toNat=K by omega],←Nat.mul_assoc] at hn';exact Nat.eq_of_mul_eq_mul_right (Nat.two_pow_pos _) hn'
   rw[hd,Nat.mul_div_cancel _ (Nat.two_pow_pos _),Nat.mul_assoc,←Nat.pow_add,show(-i).toNat+(i+(K:Int)).toNat=K by omega]
 rw[e]
def Wh(x:Nat)(n:Int):Prop:=Is (double.read x) n
theorem Wh.of(n:Int)(h:n.natAbs<9007199254740992):Wh (fb n) n:=Is.fb n h
theorem Wh.add{x y:Nat}{a b:Int}(h:Wh x a)(k:Wh y b):floatBits .add .f64 x y=some (fb (a+b)):=by
 obtain⟨d,h1,h2⟩:=h.sum k;show((double.read x).sum (double.read y)).map double.write=_;rw[h1,Option.map_some,h2.write]
theorem Wh.sub{x y:Nat}{a b:Int}(h:Wh x a)(k:Wh y b):floatBits .sub .f64 x y=some (fb (a - b)):=by
 obtain⟨d,h1,h2⟩:=h.less k;show((double.read x).sum (double.read y).opposite).map double.write=_;rw[h1,Option.map_some,h2.write]
theorem Wh.order{x y:Nat}{a b:Int}(h:Wh x a)(k:Wh y b):FloatKind.f64.format.order x y=some (compare a b):=Is.order h k
theorem Wh.int{x:Nat}{a:Int}(h:Wh x a)(h1: -9223372036854775808≤a)(h2:a≤9223372036854775807):floatToIntVal .f64 x .i64=some a:=by
 unfold floatToIntVal;have:(FloatKind.f64.decode x).toInt .zero=some a:=h.toInt;rw[this];have e1:IntKind.i64.min= -9223372036854775808:=by decide+kernel
 have e2:IntKind.i64.max=9223372036854775807:=by decide+kernel
 simp only[e1,e2,h1,h2,and_self,if_true]
theorem bj{s:Bool}{m:Nat}{i:Int}{K:Nat}{b:Datum}{y:Int}(h0:0≤i+K)(hb:Is b y):(Datum.number s m i).order b=some (compare (signed s m (i+K).toNat) (y * 2 ^ K)):=by
 obtain⟨t,n,j,L,rfl,k0,k1,_⟩:=hb.scale;have e2:=k1 (max K L) (by omega);unfold Datum.order;simp only;congr 1;have hp:=cK (min i j+(max K L:Nat)).toNat;rw[←eR _ _ _ hp,←ba,←ba,←eR (signed s m (i+K).toNat) (y * 2 ^ K) (2 ^ (max K L - K)) (cK _),←ba,Int.mul_assoc,←Int.pow_add,show K+(max K L - K)=max K L by omega,←e2];congr 2<;>omega
theorem iI(a b:Int):((compare a b== .gt)||(compare a b== .eq))=decide (b≤a):=by
 show((compareOfLessAndEq a b== .gt)||(compareOfLessAndEq a b== .eq))=_;unfold compareOfLessAndEq;split
 ·simp;omega
 ·split
  ·simp;omega
  ·simp;omega
theorem mK(a b:Int):((compare a b== .lt)||(compare a b== .eq))=decide (a≤b):=by
 show((compareOfLessAndEq a b== .lt)||(compareOfLessAndEq a b== .eq))=_;unfold compareOfLessAndEq;split
 ·simp;omega
 ·split
  ·simp;omega
  ·simp;omega
theorem cmp_eq(a b:Int):(compare a b== .eq)=decide (a=b):=by
 show(compareOfLessAndEq a b== .eq)=_;unfold compareOfLessAndEq;split
 ·simp;omega
 ·split
  ·simp;omega
  ·simp;omega
theorem raw_in(x:Nat)(T:Int)(hT0:0≤T)(hT:T<9007199254740992)
  (h1:(FloatKind.f64.format.order x (fb 0)==some .gt||FloatKind.f64.format.order x (fb 0)==some .eq)=true)
  (h2:(FloatKind.f64.format.order x (fb T)==some .lt||FloatKind.f64.format.order x (fb T)==some .eq)=true):
  ∃q:Int,floatToIntVal .f64 x .i64=some q∧0≤q∧q≤T:=by
 have i0:=Is.fb 0 (by decide);have iT:=Is.fb T (by omega);have h1':((double.read x).order (double.read (fb 0))==some .gt||(double.read x).order (double.read (fb 0))==some .eq)=true:=h1;have h2':((double.read x).order (double.read (fb T))==some .lt||(double.read x).order (double.read (fb T))==some .eq)=true:=h2;clear h1 h2;unfold floatToIntVal;show ∃q:Int,(match (double.read x).toInt .zero with|some n=>if IntKind.i64.min≤n∧n≤IntKind.i64.max then some n else none|none=>none)=some q∧_;generalize double.read x=d at *;cases d with
 |infinity s=>
  obtain⟨s',m',i',K',e',_⟩:=i0;obtain⟨s2,m2,i2,K2,e2,_⟩:=iT;rw[e'] at h1';rw[e2] at h2';cases s<;>simp[Datum.order] at h1' h2'
 |nan s f=>simp[Datum.order] at h1'
 |number s m i=>
  have hK:0≤i+((-i).toNat:Int):=by omega
  rw[bj hK i0] at h1';rw[bj hK iT] at h2';simp only[Option.some_beq_some] at h1' h2';rw[iI,decide_eq_true_eq,Int.zero_mul] at h1';rw[mK,decide_eq_true_eq] at h2';rw[show(i+((-i).toNat:Int)).toNat=i.toNat by omega] at h1' h2';rw[ct];generalize (-i).toNat=K at *;have e1:IntKind.i64.min= -9223372036854775808:=by decide+kernel
  have e2:IntKind.i64.max=9223372036854775807:=by decide+kernel
  have hq:0≤signed s (m * 2 ^ i.toNat / 2 ^ K) 0∧signed s (m * 2 ^ i.toNat / 2 ^ K) 0≤T:=by
   unfold signed at h1' h2' ⊢;rw[Nat.shiftLeft_eq] at h1' h2';rw[Nat.shiftLeft_zero];cases s
   ·rw[if_neg (by decide)] at h1' h2' ⊢;have e:(T * 2 ^ K)=((T.toNat * 2 ^ K:Nat):Int):=by
     rw[Int.natCast_mul,Int.natCast_pow,show((T.toNat:Nat):Int)=T by omega];rfl
    rw[e] at h2';have:m * 2 ^ i.toNat / 2 ^ K≤T.toNat:=by
     have:=Nat.div_le_div_right (c:=2 ^ K) (show m * 2 ^ i.toNat≤T.toNat * 2 ^ K by omega)
     rwa [Nat.mul_div_cancel _ (Nat.two_pow_pos K)] at this
    generalize m * 2 ^ i.toNat / 2 ^ K=z at *;omega
   ·rw[if_pos rfl] at h1' h2' ⊢;have:m * 2 ^ i.toNat=0:=by omega
    rw[this,Nat.zero_div];omega
  generalize signed s (m * 2 ^ i.toNat / 2 ^ K) 0=q at *;refine⟨q,?_,hq.1,hq.2⟩;simp only[e1,e2];rw[if_pos (by omega)]
theorem ql{x y z u:Nat}{a b c d:Int}(h1:Wh x a)(h2:Wh y b)(h3:Wh z c)(h4:Wh u d):cSumBits .add .f64 x y z u=some (fb (a+c),fb (b+d)):=by
 unfold cSumBits;rw[h1.add h3,h2.add h4];rfl
theorem xV{x y z u:Nat}{a b c d:Int}(h1:Wh x a)(h2:Wh y b)(h3:Wh z c)(h4:Wh u d):cSumBits .sub .f64 x y z u=some (fb (a - c),fb (b - d)):=by
 unfold cSumBits;rw[h1.sub h3,h2.sub h4];rfl
theorem qf(a b:Int)(ha:a.natAbs<9007199254740992)(hb:b.natAbs<9007199254740992):FloatKind.f64.format.order (fb a) (fb b)=some (compare a b):=(Wh.of a ha).order (Wh.of b hb)
theorem iE(a:Int)(ha:a.natAbs<9007199254740992):floatToIntVal .f64 (fb a) .i64=some a:=(Wh.of a ha).int (by omega) (by omega)
end Go.Proofs.YtndhbnhobhkmaaaGreatDoor
