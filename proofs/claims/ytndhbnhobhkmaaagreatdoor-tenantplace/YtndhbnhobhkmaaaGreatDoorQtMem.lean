/-
  What the calls of package caps do: Copy.
  What the calls of package caps do: Count, Serial, and all of a table that is none.
  Sums as the document has them: pairs of whole numbers. Nothing of the program is named here.
  A quota as three pairs of numbers, and what each call answers and leaves: plain mathematics off the document. Nothing of the program is named here.
  What all of some sums come to, in whatever order: plain mathematics. Nothing of the program is named here.
  What math.Trunc gives of a word between 0 and a whole number; words of whole numbers, however great; products. Plain mathematics: nothing of the program is named here.
  What the calls of package sum answer: of whole numbers' words, and of any words.
  A quota of the program's, and one of the document's, in memory; pairs of numbers; new blocks may turn.
-/
import Derived.Test.YtndhbnhobhkmaaaGreatDoorKaNew
import Derived.Great.Walk
import Derived.Laws.Externs
import Derived.WalkMore
namespace Go.Proofs.YtndhbnhobhkmaaaGreatDoor.Ka
open Go.RowKit
section
variable{w:World}{a o ob s sb:Nat}{c:Ct}
end
section
variable{w:World}{a o ob s sb:Nat}{c:Ct}
set_option maxRecDepth 20000 in
theorem xi(h:Kt w a o ob s sb c):Calls Tryz.prog 68 #[.pointer (some ⟨a,0,none⟩)] w fun e w'=>e=.returned (.int .i64 c.nx)∧Fr (fun _=>False) w w':=by
 have c1:=h.c1;clear h;go_enter Tryz.func68,Tryz.ntmps68;go_wp2;go_ret;exact⟨by simp,Fr.refl _ _⟩
end
end Go.Proofs.YtndhbnhobhkmaaaGreatDoor.Ka
namespace Go.Proofs.YtndhbnhobhkmaaaGreatDoor
open Go.RowKit
abbrev Rt(a b:Int):Prop:=0≤a∧a≤1099511627776∧0≤b∧b≤1099511627776
def okA(a b:Int):Int:=if Rt a b then a else 0
def okB(a b:Int):Int:=if Rt a b then b else 0
def okE(a b:Int):Int:=if Rt a b then 0 else 12
theorem dx{a b:Int}(h:Rt a b):okA a b=a∧okB a b=b∧okE a b=0:=by simp[okA,okB,okE,h]
theorem ka{a b:Int}(h:¬Rt a b):okA a b=0∧okB a b=0∧okE a b=12:=by simp[okA,okB,okE,h]
theorem zC:(4787326403894837248:Nat)=fb 1099511627776:=by decide+kernel
def rawB(x:Nat):Bool:=
 (FloatKind.f64.format.order x (fb 0)==some .gt||FloatKind.f64.format.order x (fb 0)==some .eq)&&(FloatKind.f64.format.order x (fb 1099511627776)==some .lt||FloatKind.f64.format.order x (fb 1099511627776)==some .eq)&&(match floatToIntVal .f64 x .i64 with|some q=>FloatKind.f64.format.order (fb q) x==some .eq |none=>false)
section
variable{T:TypeId}{w w':World}{B:Nat}{a b:Int}
end
end Go.Proofs.YtndhbnhobhkmaaaGreatDoor
namespace Go.Proofs.YtndhbnhobhkmaaaGreatDoor.Qt
structure QS where
 lb:Int
 lp:Int
 cb:Int
 cp:Int
 rb:Int
 rp:Int
structure QS.Ok(s:QS):Prop where
 lim:Rt s.lb s.lp
 cb0:0≤s.cb
 cp0:0≤s.cp
 rb0:0≤s.rb
 rp0:0≤s.rp
 fb1:s.cb+s.rb≤s.lb
 fp1:s.cp+s.rp≤s.lp
abbrev QS.Room(s:QS)(a b:Int):Prop:=s.cb+s.rb+a≤s.lb∧s.cp+s.rp+b≤s.lp
abbrev QS.Had(s:QS)(a b:Int):Prop:=a≤s.rb∧b≤s.rp
abbrev QS.Paid(s:QS)(a b:Int):Prop:=a≤s.cb∧b≤s.cp
abbrev QS.Held(s:QS)(a b:Int):Prop:=s.cb+s.rb≤a∧s.cp+s.rp≤b
def resE(s:QS)(a b:Int):Int:=if s.Room a b then 0 else 3
def resS(s:QS)(a b:Int):QS:=if s.Room a b then⟨s.lb,s.lp,s.cb,s.cp,s.rb+a,s.rp+b⟩ else s
def comE(s:QS)(a b:Int):Int:=if s.Had a b then 0 else 12
def comS(s:QS)(a b:Int):QS:=if s.Had a b then⟨s.lb,s.lp,s.cb+a,s.cp+b,s.rb - a,s.rp - b⟩ else s
def canE(s:QS)(a b:Int):Int:=if s.Had a b then 0 else 12
def canS(s:QS)(a b:Int):QS:=if s.Had a b then⟨s.lb,s.lp,s.cb,s.cp,s.rb - a,s.rp - b⟩ else s
def refE(s:QS)(a b:Int):Int:=if s.Paid a b then 0 else 12
def refS(s:QS)(a b:Int):QS:=if s.Paid a b then⟨s.lb,s.lp,s.cb - a,s.cp - b,s.rb,s.rp⟩ else s
def rszE(s:QS)(a b:Int):Int:=if s.Held a b then 0 else 3
def rszS(s:QS)(a b:Int):QS:=if s.Held a b then⟨a,b,s.cb,s.cp,s.rb,s.rp⟩ else s
def newQ(a b:Int):QS:=⟨a,b,0,0,0,0⟩
theorem tE{a b:Int}(h:Rt a b):(newQ a b).Ok:=⟨h,Int.le_refl _,Int.le_refl _,Int.le_refl _,Int.le_refl _,by simp only[newQ];unfold Rt at h;omega,by simp only[newQ];unfold Rt at h;omega⟩
section
variable{s:QS}{a b:Int}
theorem QS.Ok.char(h:s.Ok):Rt s.cb s.cp:=by obtain⟨h1,h2,h3,h4,h5,h6,h7⟩:=h;unfold Rt at *;omega
theorem QS.Ok.rsv(h:s.Ok):Rt s.rb s.rp:=by obtain⟨h1,h2,h3,h4,h5,h6,h7⟩:=h;unfold Rt at *;omega
theorem QS.Ok.both(h:s.Ok):Rt (s.cb+s.rb) (s.cp+s.rp):=by obtain⟨h1,h2,h3,h4,h5,h6,h7⟩:=h;unfold Rt at *;omega
theorem Aw(h:s.Ok)(r:Rt a b):(resS s a b).Ok:=by
 unfold resS;split
 ·rename_i g;obtain⟨h1,h2,h3,h4,h5,h6,h7⟩:=h;unfold Rt at *;exact⟨h1,h2,h3,by simp only;omega,by simp only;omega,by simp only;omega,by simp only;omega⟩
 ·exact h
theorem Ca(h:s.Ok)(r:Rt a b):(comS s a b).Ok:=by
 unfold comS;split
 ·rename_i g;obtain⟨h1,h2,h3,h4,h5,h6,h7⟩:=h;unfold Rt at *;exact⟨h1,by simp only;omega,by simp only;omega,by simp only;omega,by simp only;omega,by simp only;omega,by simp only;omega⟩
 ·exact h
theorem Cg(h:s.Ok)(r:Rt a b):(canS s a b).Ok:=by
 unfold canS;split
 ·rename_i g;obtain⟨h1,h2,h3,h4,h5,h6,h7⟩:=h;unfold Rt at *;exact⟨h1,h2,h3,by simp only;omega,by simp only;omega,by simp only;omega,by simp only;omega⟩
 ·exact h
theorem Ax(h:s.Ok)(r:Rt a b):(refS s a b).Ok:=by
 unfold refS;split
 ·rename_i g;obtain⟨h1,h2,h3,h4,h5,h6,h7⟩:=h;unfold Rt at *;exact⟨h1,by simp only;omega,by simp only;omega,h4,h5,by simp only;omega,by simp only;omega⟩
 ·exact h
theorem Av(h:s.Ok)(r:Rt a b):(rszS s a b).Ok:=by
 unfold rszS;split
 ·rename_i g;obtain⟨h1,h2,h3,h4,h5,h6,h7⟩:=h;exact⟨r,h2,h3,h4,h5,g.1,g.2⟩
 ·exact h
end
end Go.Proofs.YtndhbnhobhkmaaaGreatDoor.Qt
namespace Go.Proofs.YtndhbnhobhkmaaaGreatDoor
def sB:List (Int×Int)→Int
 |[]=>0
 |p::l=>p.2+sB l
theorem AA{x:Nat}{n:Int}(h:Wh x n):rawB x=decide (0≤n∧n≤1099511627776):=by
 have e0:=h.order (Wh.of 0 (by decide));have e1:=h.order (Wh.of 1099511627776 (by decide));have g:=iM n 0;have l:=mG n 1099511627776;unfold rawB;rw[e0,e1];simp only[Option.some_beq_some];rw[g,l];by_cases h0:0≤n
 ·by_cases h1:n≤1099511627776
  ·have e2:=(Wh.of n (by omega)).order h;have e3:compare n n=Ordering.eq:=by simp
   rw[h.int (by omega) (by omega)];simp only[e2,e3];simp[h0,h1]
  ·simp[h1]
 ·simp[h0]
end Go.Proofs.YtndhbnhobhkmaaaGreatDoor
namespace Go.Proofs.YtndhbnhobhkmaaaGreatDoor
open Ieee
theorem eA(a b:Datum):(a.order b==some .eq)=(b.order a==some .eq):=by
 cases a with
 |infinity s=>cases b with
  |infinity t=>cases s<;>cases t<;>rfl
  |nan t f=>rfl
  |number t n j=>cases s<;>rfl
 |nan s f=>cases b<;>rfl
 |number s m i=>cases b with
  |infinity t=>cases t<;>rfl
  |nan t f=>rfl
  |number t n j=>
   unfold Datum.order;simp only[Option.some_beq_some];rw[cmp_eq,cmp_eq,Int.min_comm];exact decide_eq_decide.2 ⟨Eq.symm,Eq.symm⟩
theorem vK(x:Nat)(T:Int)(hT0:0≤T)(hT:T<9007199254740992)
  (h1:(FloatKind.f64.format.order x (fb 0)==some .gt||FloatKind.f64.format.order x (fb 0)==some .eq)=true)
  (h2:(FloatKind.f64.format.order x (fb T)==some .lt||FloatKind.f64.format.order x (fb T)==some .eq)=true):
  ∃(q:Int) (s:Bool) (m:Nat) (i:Int),floatToIntVal .f64 x .i64=some q∧0≤q∧q≤T∧FloatKind.f64.decode x=.number s m i∧
   (FloatKind.f64.format.order x (FloatKind.f64.encode ((Datum.number s m i).integral .zero))==some .eq)=(FloatKind.f64.format.order (fb q) x==some .eq):=by
 obtain⟨q,hq,q0,q1⟩:=raw_in x T hT0 hT h1 h2;refine⟨q,?_⟩;have i0:=Is.fb 0 (by decide);have h1':((double.read x).order (double.read (fb 0))==some .gt||(double.read x).order (double.read (fb 0))==some .eq)=true:=h1;have iT:=Is.fb T (by omega);have h2':((double.read x).order (double.read (fb T))==some .lt||(double.read x).order (double.read (fb T))==some .eq)=true:=h2;clear h1 h2;have hq':(match (double.read x).toInt .zero with|some n=>if IntKind.i64.min≤n∧n≤IntKind.i64.max then some n else none|none=>none)=some q:=hq;have e1:IntKind.i64.min= -9223372036854775808:=by decide+kernel
 have e2:IntKind.i64.max=9223372036854775807:=by decide+kernel
 show ∃(s:Bool) (m:Nat) (i:Int),floatToIntVal .f64 x .i64=some q∧0≤q∧q≤T∧double.read x=.number s m i∧((double.read x).order (double.read (double.write ((Datum.number s m i).integral .zero)))==some .eq)=((double.read (fb q)).order (double.read x)==some .eq)
 generalize double.read x=d at *;cases d with
 |infinity s=>
  obtain⟨s',m',i',K',e',_⟩:=i0;obtain⟨s2,m2,i2,K2,e2,_⟩:=iT;rw[e'] at h1';rw[e2] at h2';cases s<;>simp[Datum.order] at h1' h2'
 |nan s f=>simp[Datum.order] at h1'
 |number s m i=>
  refine⟨s,m,i,hq,q0,q1,rfl,?_⟩;have hK:0≤i+((-i).toNat:Int):=by omega
  rw[bk hK i0] at h1';simp only[Option.some_beq_some] at h1';rw[iM,decide_eq_true_eq,Int.zero_mul] at h1';rw[cd] at hq';simp only[e1,e2] at hq';split at hq'
  ·have hq2:signed s (m * 2 ^ i.toNat / 2 ^ (-i).toNat) 0=q:=by simpa using hq'
   have ei:(Datum.number s m i).integral .zero=.number s (m * 2 ^ i.toNat / 2 ^ (-i).toNat) 0:=by
    unfold Datum.integral;simp only[qd,Nat.shiftLeft_eq]
   rw[ei];cases s
   ·have his:Is (.number false (m * 2 ^ i.toNat / 2 ^ (-i).toNat) 0) q:=by
     refine⟨_,_,_,0,rfl,by omega,?_,fun _=>rfl⟩;rw[←hq2];simp
    rw[his.write];exact eA _ _
   ·have hm:m=0:=by
     have:=(bp true m (i+((-i).toNat:Int)).toNat).2.1 rfl;exact(bp true m (i+((-i).toNat:Int)).toNat).2.2 (by omega)
    subst hm;have hq0:q=0:=by
     rw[←hq2,Nat.zero_mul,Nat.zero_div];rfl
    subst hq0;rw[Nat.zero_mul,Nat.zero_div];have ew:double.read (double.write (.number true 0 0))=.number true 0 (-1074):=by decide+kernel
    rw[ew,eA (double.read (fb 0)),bk hK i0];unfold Datum.order signed;simp
  ·cases hq'
theorem eF(s:Bool)(m:Nat)(h0:9007199254740992≤m):∃r,double.nearest s m 0=double.word s r∧4845873199050653696≤r∧r≤9218868437227405312:=by
 have hl:53≤m.log2:=(Nat.le_log2 (by omega)).2 (by rw[show(2:Nat) ^ 53=9007199254740992 by decide];exact h0);have hlo:=Nat.log2_self_le (n:=m) (by omega);have e2:double.binade=4503599627370496:=by decide+kernel
 have e3:double.infRung=9218868437227405312:=by decide+kernel
 have e4:double.leastPlace= -1074:=by decide+kernel
 have e5:double.fractionBits=52:=rfl;have hkept:4503599627370496≤Toward.even.cut s (m<<<0) (m.log2 - 52):=by
  unfold Toward.cut;rw[Nat.shiftLeft_zero,Nat.min_eq_left (by omega)];simp only[Nat.shiftLeft_eq,Nat.one_mul];have hp:2 ^ (m.log2 - 52) * 2 ^ 52=2 ^ m.log2:=by rw[←Nat.pow_add,show m.log2 - 52+52=m.log2 by omega]
  have e:(2:Nat) ^ 52=4503599627370496:=by decide
  have l1:4503599627370496≤m / 2 ^ (m.log2 - 52):=by
   rw[Nat.le_div_iff_mul_le (Nat.two_pow_pos _),Nat.mul_comm,←e,hp];exact hlo
  exact Nat.le_trans l1 (Nat.le_add_right _ _)
 unfold Format.nearest;rw[if_neg (by omega)];simp only[e2,e3,e4,e5];have hlast:max (0+(m.log2:Int) - ((52:Nat):Int)) (-1074)=(m.log2:Int) - 52:=by omega
 rw[hlast,show(0 - ((m.log2:Int) - 52)).toNat=0 by omega,show((m.log2:Int) - 52 - 0).toNat=m.log2 - 52 by omega,show((m.log2:Int) - 52 - -1074).toNat=m.log2+1022 by omega];refine⟨_,rfl,?_,Nat.min_le_right _ _⟩;generalize Toward.even.cut s (m<<<0) (m.log2 - 52)=z at *;generalize m.log2=l at *;omega
theorem oT(s:Bool):double.read (double.word s 9218868437227405312)=.infinity s:=by cases s<;>decide+kernel
theorem qG(s:Bool)(r:Nat)(h0:4845873199050653696≤r)(h1:r≤9218868437227405312):rawB (double.word s r)=false:=by
 obtain⟨t0,m0,i0,K0,e0,a0,b0,c0⟩:=(Is.fb 0 (by decide)).scale;obtain⟨t1,m1,i1,K1,e1,a1,b1,c1⟩:=(Is.fb 1099511627776 (by decide)).scale;have i0':=Is.fb 0 (by decide);have i1':=Is.fb 1099511627776 (by decide);have key:((double.read (double.word s r)).order (double.read (fb 0))==some .gt||(double.read (double.word s r)).order (double.read (fb 0))==some .eq)=false∨((double.read (double.word s r)).order (double.read (fb 1099511627776))==some .lt||(double.read (double.word s r)).order (double.read (fb 1099511627776))==some .eq)=false:=by
  by_cases hr:r<9218868437227405312
  ·rw[gX s r (by omega) hr];have hK:(0:Int)≤ -1074+((r / 4503599627370496 - 1:Nat):Int)+((0:Nat):Int):=by omega
   rw[bk hK i0',bk hK i1'];simp only[Option.some_beq_some];rw[iM,mG];obtain⟨k,hk⟩:∃k,(-1074+((r / 4503599627370496 - 1:Nat):Int)+((0:Nat):Int)).toNat=k:=⟨_,rfl⟩;rw[hk];have hp:=Nat.two_pow_pos k;cases s
   ·right;unfold signed;rw[if_neg (by decide),Nat.shiftLeft_eq];have:4503599627370496≤(4503599627370496+r % 4503599627370496) * 2 ^ k:=Nat.le_trans (Nat.le_add_right _ _) (Nat.le_mul_of_pos_right _ hp);generalize (4503599627370496+r % 4503599627370496) * 2 ^ k=v at *;simp;omega
   ·left;unfold signed;rw[if_pos rfl,Nat.shiftLeft_eq];have:4503599627370496≤(4503599627370496+r % 4503599627370496) * 2 ^ k:=Nat.le_trans (Nat.le_add_right _ _) (Nat.le_mul_of_pos_right _ hp);generalize (4503599627370496+r % 4503599627370496) * 2 ^ k=v at *;simp;omega
  ·obtain rfl:r=9218868437227405312:=by omega
   rw[oT,e0,e1];cases s
   ·right;rfl
   ·left;rfl
 unfold rawB;show(((double.read (double.word s r)).order (double.read (fb 0))==some .gt||(double.read (double.word s r)).order (double.read (fb 0))==some .eq)&&((double.read (double.word s r)).order (double.read (fb 1099511627776))==some .lt||(double.read (double.word s r)).order (double.read (fb 1099511627776))==some .eq)&&_)=false;rcases key with k|k<;>rw[k]<;>simp
theorem jV(n:Int):rawB (fb n)=decide (0≤n∧n≤1099511627776):=by
 by_cases h:n.natAbs<9007199254740992
 ·exact AA (Wh.of n h)
 ·obtain⟨r,e,r1,r2⟩:=eF (decide (n<0)) n.natAbs (by omega);rw[xJ,e,qG _ _ r1 r2]
  symm
  rw[decide_eq_false_iff_not];omega
end Go.Proofs.YtndhbnhobhkmaaaGreatDoor
namespace Go.Proofs.YtndhbnhobhkmaaaGreatDoor
open Go.RowKit
theorem jU(x:Nat):rawB x=((FloatKind.f64.format.order x 0==some .gt||FloatKind.f64.format.order x 0==some .eq)&&(FloatKind.f64.format.order x 4787326403894837248==some .lt||FloatKind.f64.format.order x 4787326403894837248==some .eq)&&(match floatToIntVal .f64 x .i64 with|some q=>FloatKind.f64.format.order (fb q) x==some .eq |none=>false)):=by
 unfold rawB;rw[bN,←zC]
 try rfl
theorem yu{x:Nat}{s:Bool}{m:Nat}{i:Int}(hd:FloatKind.f64.decode x=.number s m i)(w:World):
  (callFunc 196 #[.float .f64 x]).run Tryz.prog w=.ok (.value (.float .f64 (FloatKind.f64.encode ((Ieee.Datum.number s m i).integral .zero)))) w:=by
 have e:Extern.MathFloor.toIntegral "math.archTrunc" .zero #[.float .f64 x]=pure (.float .f64 (FloatKind.f64.encode ((Ieee.Datum.number s m i).integral .zero))):=by
  delta Extern.MathFloor.toIntegral
  conv=>
   lhs
   whnf
  rw[hd]
 rw[run_callFunc_extern Tryz.func196 (by kernel_rfl) (by kernel_rfl) (by kernel_rfl) (e:=Extern.MathFloor.toIntegral "math.archTrunc" .zero) (by kernel_rfl),e];rfl
theorem sg{x:Nat}{s:Bool}{m:Nat}{i:Int}(hd:FloatKind.f64.decode x=.number s m i)(w:World):Calls Tryz.prog 141 #[.float .f64 x] w fun e w'=>e=.returned (.float .f64 (FloatKind.f64.encode ((Ieee.Datum.number s m i).integral .zero)))∧w'=w:=by
 have ha:=fun w=>yu hd w
 clear hd;generalize FloatKind.f64.encode ((Ieee.Datum.number s m i).integral .zero)=t at *;go_enter Tryz.func141,Tryz.ntmps141;go_wp2;go_ret;exact⟨rfl,rfl⟩
theorem ph(x:Nat)(w:World):Calls Tryz.prog 101 #[.float .f64 x] w fun e w'=>e=.returned (.bool (rawB x))∧w'=w:=by
 cases g:(FloatKind.f64.format.order x 0==some .gt||FloatKind.f64.format.order x 0==some .eq) with
 |false=>
  have hr:Hid (rawB x=false):=by rw[jU,g];rfl
  go_enter Tryz.func101,Tryz.ntmps101;go_wp2;go_ret;exact⟨by rw[hr.out];rfl,rfl⟩
 |true=>
 cases l:(FloatKind.f64.format.order x 4787326403894837248==some .lt||FloatKind.f64.format.order x 4787326403894837248==some .eq) with
 |false=>
  have hr:Hid (rawB x=false):=by rw[jU,g,l];rfl
  go_enter Tryz.func101,Tryz.ntmps101;go_wp2;go_ret;exact⟨by rw[hr.out];rfl,rfl⟩
 |true=>
  obtain⟨q,s,m,i,hq,_,_,hd,he⟩:=vK x 1099511627776 (by decide) (by decide) (by rw[bN];exact g) (by rw[←zC];exact l);have hr:Hid (rawB x=(FloatKind.f64.format.order x (FloatKind.f64.encode ((Ieee.Datum.number s m i).integral .zero))==some .eq)):=by
   show rawB x=_
   rw[jU,g,l,hq,he];simp
  have H1:=hid (sg hd w);clear hq hd he;generalize FloatKind.f64.encode ((Ieee.Datum.number s m i).integral .zero)=t at *;go_enter Tryz.func101,Tryz.ntmps101;go_wp2_with fail;refine H1.out.mono ?_;rintro e w' ⟨rfl,hw⟩;obtain rfl:=hw.symm;go_wp2;go_ret;exact⟨by rw[hr.out];rfl,rfl⟩
theorem bA(x y:Nat)(w:World):Calls Tryz.prog 60 #[.complex .f64 x y] w fun e w'=>e=.returned (.bool (rawB x&&rawB y))∧w'=w:=by
 have H1:=hid (ph x w);have H2:=hid (ph y w);generalize rawB y=v at *;cases hu:rawB x with
 |true=>
  rw[hu] at H1;clear hu;go_enter Tryz.func60,Tryz.ntmps60;go_wp2_with fail;refine H1.out.mono ?_;rintro e w' ⟨rfl,hw⟩;obtain rfl:=hw.symm;go_wp2_with fail;refine H2.out.mono ?_;rintro e w' ⟨rfl,hw⟩;obtain rfl:=hw.symm;go_wp2;go_ret;exact⟨by simp,rfl⟩
 |false=>
  rw[hu] at H1;clear hu H2;go_enter Tryz.func60,Tryz.ntmps60;go_wp2_with fail;refine H1.out.mono ?_;rintro e w' ⟨rfl,hw⟩;obtain rfl:=hw.symm;go_wp2;go_ret;exact⟨by simp,rfl⟩
theorem yo(x y z u:Nat)(w:World):Calls Tryz.prog 149 #[.complex .f64 x y,.complex .f64 z u] w fun e w'=>e=.returned (.bool ((rawB x&&rawB y)&&(rawB z&&rawB u)))∧w'=w:=by
 have H1:=hid (bA x y w);have H2:=hid (bA z u w);generalize (rawB z&&rawB u)=v at *;cases hu:(rawB x&&rawB y) with
 |true=>
  rw[hu] at H1;clear hu;go_enter Tryz.func149,Tryz.ntmps149;go_wp2_with fail;refine H1.out.mono ?_;rintro e w' ⟨rfl,hw⟩;obtain rfl:=hw.symm;go_wp2_with fail;refine H2.out.mono ?_;rintro e w' ⟨rfl,hw⟩;obtain rfl:=hw.symm;go_wp2;go_ret;exact⟨by simp,rfl⟩
 |false=>
  rw[hu] at H1;clear hu H2;go_enter Tryz.func149,Tryz.ntmps149;go_wp2_with fail;refine H1.out.mono ?_;rintro e w' ⟨rfl,hw⟩;obtain rfl:=hw.symm;go_wp2;go_ret;exact⟨by simp,rfl⟩
theorem if_yes{x y:Nat}(h:(rawB x&&rawB y)=true)(w:World):Calls Tryz.prog 150 #[.complex .f64 x y] w fun e w'=>e=.returned (.tuple #[.complex .f64 x y,.int .i64 0])∧w'=w:=by
 have H1:=hid (bA x y w);rw[h] at H1;clear h;go_enter Tryz.func150,Tryz.ntmps150;go_wp2_with fail;refine H1.out.mono ?_;rintro e w' ⟨rfl,hw⟩;obtain rfl:=hw.symm;go_wp2;go_ret2;exact⟨by simp,rfl⟩
theorem if_no{x y:Nat}(h:(rawB x&&rawB y)=false)(w:World):Calls Tryz.prog 150 #[.complex .f64 x y] w fun e w'=>e=.returned (.tuple #[.complex .f64 0 0,.int .i64 12])∧w'=w:=by
 have H1:=hid (bA x y w);rw[h] at H1;clear h;go_enter Tryz.func150,Tryz.ntmps150;go_wp2_with fail;refine H1.out.mono ?_;rintro e w' ⟨rfl,hw⟩;obtain rfl:=hw.symm;go_wp2;go_ret2;exact⟨by simp,rfl⟩
theorem if_ok{a b p q:Int}(hp:decide (0≤p∧p≤1099511627776)=decide (0≤a∧a≤1099511627776))(hq:decide (0≤q∧q≤1099511627776)=decide (0≤b∧b≤1099511627776))(he:Rt a b→p=a∧q=b)(w:World):Calls Tryz.prog 150 #[.complex .f64 (fb p) (fb q)] w fun e w'=>e=.returned (.tuple #[.complex .f64 (fb (okA a b)) (fb (okB a b)),.int .i64 (okE a b)])∧w'=w:=by
 have hr:(rawB (fb p)&&rawB (fb q))=decide (Rt a b):=by
  rw[jV,jV,hp,hq];by_cases h:Rt a b
  ·rw[decide_eq_true h];unfold Rt at h;simp;omega
  ·rw[decide_eq_false h];unfold Rt at h;simp;omega
 by_cases h:Rt a b
 ·rw[(dx h).1,(dx h).2.1,(dx h).2.2,←(he h).1,←(he h).2];exact if_yes (by rw[hr];exact decide_eq_true h) w
 ·rw[(ka h).1,(ka h).2.1,(ka h).2.2,bN];exact if_no (by rw[hr];exact decide_eq_false h) w
theorem gT{a b:Int}(h:Rt a b):(rawB (fb a)&&rawB (fb b))=true:=by
 unfold Rt at h;rw[jV,jV];simp;omega
theorem t_of(a b:Int)(w:World):Calls Tryz.prog 107 #[.int .i64 a,.int .i64 b] w fun e w'=>e=.returned (.tuple #[.complex .f64 (fb (okA a b)) (fb (okB a b)),.int .i64 (okE a b)])∧w'=w:=by
 have H1:Hid (Calls Tryz.prog 150 #[.complex .f64 (floatOfInt .f64 a) (floatOfInt .f64 b)] w fun e w'=>e=.returned (.tuple #[.complex .f64 (fb (okA a b)) (fb (okB a b)),.int .i64 (okE a b)])∧w'=w):=if_ok (a:=a) (b:=b) (p:=a) (q:=b) rfl rfl (fun _=>⟨rfl,rfl⟩) w;generalize fb (okA a b)=x at *;generalize fb (okB a b)=y at *;generalize okE a b=z at *;go_enter Tryz.func107,Tryz.ntmps107;go_wp2_with fail;refine H1.out.mono ?_;rintro e w' ⟨rfl,hw⟩;obtain rfl:=hw.symm;go_wp2;go_ret2;exact⟨by simp,rfl⟩
theorem Ag{x y:Nat}{q:Int}(hy:(rawB x&&rawB y)=true)(hq:floatToIntVal .f64 x .i64=some q)(w:World):Calls Tryz.prog 28 #[.complex .f64 x y] w fun e w'=>e=.returned (.int .i64 q)∧w'=w:=by
 have H1:=hid (bA x y w);rw[hy] at H1;have hc:∀w,(convert 121 3 (.float .f64 x)).run Tryz.prog w=.ok (.int .i64 q) w:=fun w=>run_convert_float_int w _ _ .f64 .i64 x q (by rw[Tryz.underlying121];rfl) Tryz.underlying3 hq
 clear hq hy;go_enter Tryz.func28,Tryz.ntmps28;go_wp2_with fail;refine H1.out.mono ?_;rintro e w' ⟨rfl,hw⟩;obtain rfl:=hw.symm;go_wp2;go_ret;exact⟨by simp,rfl⟩
theorem Af{x y:Nat}{q:Int}(hy:(rawB x&&rawB y)=true)(hq:floatToIntVal .f64 y .i64=some q)(w:World):Calls Tryz.prog 111 #[.complex .f64 x y] w fun e w'=>e=.returned (.int .i64 q)∧w'=w:=by
 have H1:=hid (bA x y w);rw[hy] at H1;have hc:∀w,(convert 121 3 (.float .f64 y)).run Tryz.prog w=.ok (.int .i64 q) w:=fun w=>run_convert_float_int w _ _ .f64 .i64 y q (by rw[Tryz.underlying121];rfl) Tryz.underlying3 hq
 clear hq hy;go_enter Tryz.func111,Tryz.ntmps111;go_wp2_with fail;refine H1.out.mono ?_;rintro e w' ⟨rfl,hw⟩;obtain rfl:=hw.symm;go_wp2;go_ret;exact⟨by simp,rfl⟩
theorem oH{a b c d:Int}(h:Rt a b)(k:Rt c d)(w:World):Calls Tryz.prog 106 #[.complex .f64 (fb a) (fb b),.complex .f64 (fb c) (fb d)] w fun e w'=>e=.returned (.bool (decide (a≤c∧b≤d)))∧w'=w:=by
 have H1:=hid (yo (fb a) (fb b) (fb c) (fb d) w);rw[gT h,gT k] at H1;have r1:=h;have r2:=k;unfold Rt at r1 r2;have e1:(FloatKind.f64.format.order (fb a) (fb c)==some .lt||FloatKind.f64.format.order (fb a) (fb c)==some .eq)=decide (a≤c):=by
  rw[pW a c (by omega) (by omega)];simp only[Option.some_beq_some];exact mG a c
 have e2:(FloatKind.f64.format.order (fb b) (fb d)==some .lt||FloatKind.f64.format.order (fb b) (fb d)==some .eq)=decide (b≤d):=by
  rw[pW b d (by omega) (by omega)];simp only[Option.some_beq_some];exact mG b d
 have ea:Hid (decide (a≤c∧b≤d)=(decide (a≤c)&&decide (b≤d))):=by
  show _=_
  simp
 clear r1 r2 h k;generalize fb a=x1 at *;generalize fb b=x2 at *;generalize fb c=y1 at *;generalize fb d=y2 at *;rw[ea.out];clear ea;generalize decide (b≤d)=v at *;cases hu:decide (a≤c) with
 |true=>
  rw[hu] at e1;clear hu;go_enter Tryz.func106,Tryz.ntmps106;go_wp2_with fail;refine H1.out.mono ?_;rintro e w' ⟨rfl,hw⟩;obtain rfl:=hw.symm;go_wp2;go_ret;exact⟨by simp,rfl⟩
 |false=>
  rw[hu] at e1;clear hu;go_enter Tryz.func106,Tryz.ntmps106;go_wp2_with fail;refine H1.out.mono ?_;rintro e w' ⟨rfl,hw⟩;obtain rfl:=hw.symm;go_wp2;go_ret;exact⟨by simp,rfl⟩
abbrev It:Type:=Sum (Int×Int) (Nat×Nat)
theorem gO{w w':World}(h:w'=w):∃m,w'=w.drewN m:=⟨0,h⟩
theorem ft{a b:Int}(h:Rt a b)(w:World):Calls Tryz.prog 28 #[.complex .f64 (fb a) (fb b)] w fun e w'=>e=.returned (.int .i64 a)∧∃m,w'=w.drewN m:=(Ag (gT h) (iI a (by unfold Rt at h;omega)) w).mono fun _ _ k=>⟨k.1,gO k.2⟩
theorem As{a b:Int}(h:Rt a b)(w:World):Calls Tryz.prog 111 #[.complex .f64 (fb a) (fb b)] w fun e w'=>e=.returned (.int .i64 b)∧∃m,w'=w.drewN m:=(Af (gT h) (iI b (by unfold Rt at h;omega)) w).mono fun _ _ k=>⟨k.1,gO k.2⟩
theorem s_fits{a b c d:Int}(h:Rt a b)(k:Rt c d)(w:World):Calls Tryz.prog 106 #[.complex .f64 (fb a) (fb b),.complex .f64 (fb c) (fb d)] w fun e w'=>e=.returned (.bool (decide (a≤c∧b≤d)))∧∃m,w'=w.drewN m:=(oH h k w).mono fun _ _ k=>⟨k.1,gO k.2⟩
end Go.Proofs.YtndhbnhobhkmaaaGreatDoor
namespace Go.Proofs.YtndhbnhobhkmaaaGreatDoor.Qt
open Go.RowKit
theorem gM{w:World}{B:Nat}{cs:Array Value}{T:TypeId}(k:Nat)(v:Value)(hh:w.heap[B]? =some (.cells cs T (0,0))):(w.setCell ⟨B,k,none⟩ v).heap[B]? =some (.cells (cs.setIfInBounds k v) T (0,0)):=by
 simp[World.setCell,Array.getElem?_modify,hh]
theorem uK(w:World)(B k:Nat)(v:Value):Fr (fun i=>i=B) w (w.setCell ⟨B,k,none⟩ v):=Fr.setCell (S:=fun i=>i=B) (p:=⟨B,k,none⟩) (Fr.refl _ _) rfl _
end Go.Proofs.YtndhbnhobhkmaaaGreatDoor.Qt
