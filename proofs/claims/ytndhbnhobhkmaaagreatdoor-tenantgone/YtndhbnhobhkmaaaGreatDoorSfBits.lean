/-
  A table of handles as numbered slots and two shelves: plain mathematics. Nothing of the program is named here.
  Words of 64 bits: how many are 1, the lowest that is 1, and shelves kept in them (a bit is 1 while its number is free). Plain mathematics: nothing of the program is named here.
-/
import Derived.Test.YtndhbnhobhkmaaaGreatDoorSfBase
import Derived.Lib.TrailingZeros
namespace Go.Proofs.YtndhbnhobhkmaaaGreatDoor.Ka
def sAt(L:List Sl)(k:Int):Option Sl:=L.find? fun x=>x.s==k
def hA(L:List Sl)(k:Int):Int:=((sAt L k).map Sl.a).getD 0
def hR(L:List Sl)(k:Int):Int:=((sAt L k).map Sl.r).getD 0
def hN(L:List Sl)(k:Int):Int:=((sAt L k).map Sl.n).getD 0
def tkn(L:List Sl)(lo:Int)(n:Nat):List Bool:=(List.range n).map fun i:Nat=>(sAt L (lo+i)).isSome
section
variable{L L':List Sl}{k lo:Int}{x y:Sl}{n:Nat}
theorem cJ(h:sAt L k=some x):x∈L∧x.s=k:=by
 unfold sAt at h;refine⟨List.mem_of_find?_eq_some h,?_⟩;have:=List.find?_some h;simpa using this
theorem jM(h:sAt L k=none):∀x∈L,x.s≠k:=by
 unfold sAt at h;rw[List.find?_eq_none] at h;intro x hx e;exact h x hx (by simpa using e)
theorem sx(hp:L.Pairwise fun x y=>x.s<y.s)(hx:x∈L)(hy:y∈L)(e:x.s=y.s):x=y:=by
 obtain⟨i,hi,rfl⟩:=List.getElem_of_mem hx;obtain⟨j,hj,rfl⟩:=List.getElem_of_mem hy;rcases Nat.lt_trichotomy i j with h|h|h
 ·have:=List.pairwise_iff_getElem.1 hp i j hi hj h;omega
 ·subst h;rfl
 ·have:=List.pairwise_iff_getElem.1 hp j i hj hi h;omega
theorem cW(hp:L.Pairwise fun x y=>x.s<y.s)(hx:x∈L):sAt L x.s=some x:=by
 cases hl:sAt L x.s with
 |none=>exact(jM hl x hx rfl).elim
 |some y=>obtain⟨hy,e⟩:=cJ hl;rw[sx hp hy hx e]
theorem dW(h:∀x∈L,x.s≠k):sAt L k=none:=by
 cases hl:sAt L k with
 |none=>rfl
 |some y=>obtain⟨hy,e⟩:=cJ hl;exact(h y hy e).elim
theorem sM(hp':L'.Pairwise fun x y=>x.s<y.s)(hm:∀x,x∈L'↔x∈L∨x=y)(k:Int):sAt L' k=if k=y.s then some y else sAt L k:=by
 split
 ·rename_i e;subst e;exact cW hp' ((hm y).2 (.inr rfl))
 ·rename_i e;cases hl:sAt L k with
  |none=>
   refine dW fun x hx=> ?_
   rcases(hm x).1 hx with h|h
   ·exact jM hl x h
   ·subst h;exact fun h2=>e h2.symm
  |some z=>obtain⟨hz,e2⟩:=cJ hl;subst e2;exact cW hp' ((hm z).2 (.inl hz))
def del(L:List Sl)(k:Int):List Sl:=L.filter fun x=>decide (x.s≠k)
theorem uS(hp:L.Pairwise fun x y=>x.s<y.s):(del L k).Pairwise fun x y=>x.s<y.s:=hp.filter _
theorem ki:x∈del L k↔x∈L∧x.s≠k:=by simp[del]
theorem sN(hp:L.Pairwise fun x y=>x.s<y.s)(q:Int):sAt (del L k) q=if q=k then none else sAt L q:=by
 split
 ·rename_i e;subst e;exact dW fun x hx=>(ki.1 hx).2
 ·rename_i e;cases hl:sAt L q with
  |none=>exact dW fun x hx=>jM hl x (ki.1 hx).1
  |some z=>obtain⟨hz,e2⟩:=cJ hl;subst e2;exact cW (uS hp) (ki.2 ⟨hz,e⟩)
theorem aD(L:List Sl)(lo:Int)(n:Nat):(tkn L lo n).length=n:=by simp[tkn]
theorem dF(i:Nat)(h:i<(tkn L lo n).length):(tkn L lo n)[i]=(sAt L (lo+i)).isSome:=by simp[tkn]
theorem fg(h:∀i:Nat,i<n→(sAt L' (lo+i)).isSome=(sAt L (lo+i)).isSome):tkn L' lo n=tkn L lo n:=by
 apply List.ext_getElem (by rw[aD,aD]);intro i h1 h2;rw[dF,dF];exact h i (by rwa [aD] at h1)
theorem ff(j:Nat)(b:Bool)(h:∀i:Nat,i<n→(sAt L' (lo+i)).isSome=if i=j then b else(sAt L (lo+i)).isSome):tkn L' lo n=(tkn L lo n).set j b:=by
 apply List.ext_getElem (by rw[List.length_set,aD,aD]);intro i h1 h2;rw[dF,List.getElem_set];rw[aD] at h1;rw[h i h1];by_cases e:i=j
 ·rw[if_pos e,if_pos e.symm]
 ·rw[if_neg e,if_neg (fun h=>e h.symm),dF]
theorem gh(hp:L.Pairwise fun x y=>x.s<y.s)(lo:Int)(n:Nat):(Sf.low (tkn L lo n)<n↔(scan L lo).2<lo+n)∧(Sf.low (tkn L lo n)<n→(scan L lo).2=lo+Sf.low (tkn L lo n)):=by
 obtain⟨_,g2,g3,_,g5,_⟩:=dV L lo hp (fun _ _=>trivial);have key:(scan L lo).2<lo+n→Sf.low (tkn L lo n)=((scan L lo).2 - lo).toNat:=fun h=>by
  refine Sf.bO _ _ (by rw[aD];omega) ?_ fun i hi=> ?_
  ·rw[dF,show lo+(((scan L lo).2 - lo).toNat:Int)=(scan L lo).2 by omega,dW g3];rfl
  ·rw[dF];obtain⟨x,hx,e⟩:=g5 (lo+i) (by omega) (by omega);rw[←e,cW hp hx];rfl
 have key2:¬(scan L lo).2<lo+n→Sf.low (tkn L lo n)=n:=fun h=>by
  have:=Sf.kj (tkn L lo n) fun i hi=>by
   rw[aD] at hi;rw[dF];obtain⟨x,hx,e⟩:=g5 (lo+i) (by omega) (by omega);rw[←e,cW hp hx];rfl
  rwa [aD] at this
 by_cases h:(scan L lo).2<lo+n
 ·have:=key h;exact⟨⟨fun _=>h,fun _=>by omega⟩,fun _=>by omega⟩
 ·have:=key2 h;exact⟨⟨fun h2=>by omega,fun h2=>(h h2).elim⟩,fun h2=>by omega⟩
theorem mG(n:Nat):Sf.aR (List.replicate n false)=n:=by
 induction n with
 |zero=>rfl
 |succ n ih=>rw[List.replicate_succ,Sf.aR,ih]
theorem jE(lo:Int)(n:Nat):tkn [] lo n=List.replicate n false:=by
 apply List.ext_getElem (by rw[aD,List.length_replicate]);intro i h1 h2;rw[dF,List.getElem_replicate];rfl
theorem dX(k:Int):sAt (x::L) k=if k=x.s then some x else sAt L k:=by
 unfold sAt;rw[List.find?_cons];by_cases e:k=x.s
 ·rw[if_pos e];subst e;simp
 ·rw[if_neg e,show(x.s==k)=false by simpa using fun h:x.s=k=>e h.symm]
theorem mF:∀L:List Sl,(L.Pairwise fun x y=>x.s<y.s)→(∀x∈L,0≤x.s∧x.s<4160)→Sf.aR (tkn L 0 4096)+Sf.aR (tkn L 4096 64)+L.length=4160
 |[],_,_=>by rw[jE,jE,mG,mG];rfl
 |x::L,hp,hb=>by
  rw[List.pairwise_cons] at hp;have ih:=mF L hp.2 (fun y hy=>hb y (List.mem_cons_of_mem _ hy));have hx:=hb x (List.mem_cons_self ..);have hf:sAt L x.s=none:=dW fun y hy=>by have:=hp.1 y hy;omega
  rw[List.length_cons];by_cases h:x.s<4096
  ·have e1:tkn (x::L) 0 4096=(tkn L 0 4096).set x.s.toNat true:=ff _ _ fun i hi=>by
    rw[dX];by_cases e:i=x.s.toNat
    ·rw[if_pos e,if_pos (by omega)];rfl
    ·rw[if_neg e,if_neg (by omega)]
   have e2:tkn (x::L) 4096 64=tkn L 4096 64:=fg fun i hi=>by rw[dX,if_neg (by omega)]
   have e3:=Sf.dx (tkn L 0 4096) x.s.toNat (by rw[aD];omega) (by rw[dF,show(0:Int)+(x.s.toNat:Int)=x.s by omega,hf];rfl);rw[e1,e2];omega
  ·have e1:tkn (x::L) 4096 64=(tkn L 4096 64).set (x.s.toNat - 4096) true:=ff _ _ fun i hi=>by
    rw[dX];by_cases e:i=x.s.toNat - 4096
    ·rw[if_pos e,if_pos (by omega)];rfl
    ·rw[if_neg e,if_neg (by omega)]
   have e2:tkn (x::L) 0 4096=tkn L 0 4096:=fg fun i hi=>by rw[dX,if_neg (by omega)]
   have e3:=Sf.dx (tkn L 4096 64) (x.s.toNat - 4096) (by rw[aD];omega) (by rw[dF,show(4096:Int)+((x.s.toNat - 4096:Nat):Int)=x.s by omega,hf];rfl);rw[e1,e2];omega
abbrev Is(L:List Sl)(a k:Int):Prop:=∃x,sAt L k=some x∧x.a=a
def cut(L:List Sl)(a k:Int):List Sl:=L.filter fun x=>decide (¬(x.a=a∧x.s<k))
theorem tJ{a:Int}:x∈cut L a k↔x∈L∧¬(x.a=a∧x.s<k):=by unfold cut;rw[List.mem_filter,decide_eq_true_eq]
theorem uV{a:Int}(hp:L.Pairwise fun x y=>x.s<y.s):(cut L a k).Pairwise fun x y=>x.s<y.s:=hp.filter _
theorem xU{a:Int}(h:∀x∈L,k≤x.s):cut L a k=L:=by
 unfold cut;rw[List.filter_eq_self];intro x hx;have:=h x hx;simp;omega
theorem BO{a:Int}(h:∀x∈L,x.s<k):cut L a k=L.filter fun x=>decide (x.a≠a):=by
 unfold cut;apply List.filter_congr;intro x hx;have:=h x hx;simp[this]
theorem xT{a q:Int}(hp:L.Pairwise fun x y=>x.s<y.s)(hq:k≤q)(h:∀i,k≤i→i<q→¬Is (cut L a k) a i):cut L a q=cut L a k:=by
 unfold cut;apply List.filter_congr;intro x hx;rw[decide_eq_decide];have hn:¬(x.a=a∧k≤x.s∧x.s<q):=fun⟨h1,h2,h3⟩=>h x.s h2 h3 ⟨x,cW (uV hp) (tJ.2 ⟨hx,fun h=>by omega⟩),h1⟩
 constructor
 ·intro h1 h2;exact h1 ⟨h2.1,by omega⟩
 ·intro h1 h2;exact h1 ⟨h2.1,by
   by_cases h3:x.s<k
   ·exact h3
   ·exact(hn ⟨h2.1,by omega,h2.2⟩).elim⟩
theorem xS{a:Int}(hp:L.Pairwise fun x y=>x.s<y.s)(h:Is (cut L a k) a k):cut L a (k+1)=del (cut L a k) k:=by
 obtain⟨z,hz,ea⟩:=h;obtain⟨hz1,hz2⟩:=cJ hz;unfold del cut;rw[List.filter_filter];apply List.filter_congr;intro x hx;rw[←Bool.decide_and,decide_eq_decide];constructor
 ·intro h1;refine⟨fun e=>h1 ⟨?_,by omega⟩,fun h2=>h1 ⟨h2.1,by omega⟩⟩;rw[sx hp hx (tJ.1 hz1).1 (by omega)];exact ea
 ·rintro⟨h1,h2⟩ h3;exact h2 ⟨h3.1,by omega⟩
theorem BN(hp:L.Pairwise fun x y=>x.s<y.s)(h:sAt L k≠none):(del L k).length+1=L.length:=by
 induction L with
 |nil=>exact(h rfl).elim
 |cons y l ih=>
  rw[List.pairwise_cons] at hp;by_cases e:y.s=k
  ·have e2:del (y::l) k=l:=by
    unfold del;rw[List.filter_cons_of_neg (by simpa using e),List.filter_eq_self];intro z hz;have:=hp.1 z hz;simp;omega
   rw[e2];rfl
  ·have e2:del (y::l) k=y::del l k:=by
    unfold del;rw[List.filter_cons_of_pos (by simpa using e)]
   rw[dX,if_neg (fun h=>e h.symm)] at h;rw[e2,List.length_cons,List.length_cons,ih hp.2 h]
theorem lX{c:Ct}(hc:c.Ok){h:Int}(hb:HB h):look c h=if c.T=unT h∧hR c.L (unS h)=unR h∧hN c.L (unS h)=unN h then sAt c.L (unS h) else none:=by
 obtain⟨u1,u2,u3,u4,_⟩:=oF hb;have hk:KR (unT h) (unS h) (unR h) (unN h):=by rw[u1,u2,u3,u4];exact hb
 have hpk:pkB (unT h) (unS h) (unR h) (unN h)=h:=by rw[u1,u2,u3,u4];exact one hb
 split
 ·rename_i e;obtain⟨e1,e2,e3⟩:=e;cases hs:sAt c.L (unS h) with
  |none=>unfold hN at e3;rw[hs] at e3;simp at e3;unfold KR at hk;omega
  |some x=>
   obtain⟨hx,hxs⟩:=cJ hs;unfold hR at e2;unfold hN at e3;rw[hs] at e2 e3;simp at e2 e3;rw[←AQ hc hx];congr 1;unfold Sl.bits;rw[e1,hxs,e2,e3,hpk]
 ·rename_i e;cases hl:look c h with
  |none=>rfl
  |some x=>
   obtain⟨hx,hxb⟩:=bR hl;have hkx:=(hc.kr x hx).1;unfold Sl.bits at hxb;rw[←hpk] at hxb;obtain⟨q1,q2,q3,q4⟩:=(alike hkx hk).1 hxb;refine(e ⟨q1,?_,?_⟩).elim
   ·unfold hR;rw[←q2,cW hc.srt hx];exact q3
   ·unfold hN;rw[←q2,cW hc.srt hx];exact q4
theorem wW{c:Ct}(hc:c.Ok){h:Int}(hb:¬HB h):look c h=none:=by
 cases hl:look c h with
 |none=>rfl
 |some x=>
  obtain⟨hx,hxb⟩:=bR hl;have hkx:=(hc.kr x hx).1;unfold Sl.bits at hxb;rw[←hxb] at hb;exact(hb (back hkx).1).elim
end
end Go.Proofs.YtndhbnhobhkmaaaGreatDoor.Ka
namespace Go.Proofs.YtndhbnhobhkmaaaGreatDoor.Sf
def pc:Nat→Nat→Nat
 |0,_=>0
 |n+1,x=>x % 2+pc n (x / 2)
theorem fR:∀n x:Nat,pc n x≤n
 |0,_=>Nat.le_refl _
 |n+1,x=>by have:=fR n (x / 2);simp only[pc];omega
theorem tg:∀m n x:Nat,pc (m+n) x=pc m x+pc n (x / 2 ^ m)
 |0,n,x=>by simp[pc]
 |m+1,n,x=>by
  rw[show m+1+n=(m+n)+1 by omega];simp only[pc];rw[tg m n (x / 2),Nat.div_div_eq_div_mul,Nat.pow_succ,Nat.mul_comm (2 ^ m) 2];omega
theorem pc4(x:Nat):pc 4 (x % 16)=pc 4 x:=by simp only[pc];omega
theorem mP(k a b u v:Nat)(ha:a<2 ^ k)(hb:b<2 ^ k):(a+2 ^ k * u)&&& (b+2 ^ k * v)=(a&&& b)+2 ^ k * (u&&& v):=by
 have hk:0<2 ^ k:=Nat.two_pow_pos k;have e1:=Nat.and_mod_two_pow (a:=a+2 ^ k * u) (b:=b+2 ^ k * v) (n:=k);have e2:=Nat.and_div_two_pow (a:=a+2 ^ k * u) (b:=b+2 ^ k * v) (n:=k);rw[Nat.add_mul_mod_self_left,Nat.add_mul_mod_self_left,Nat.mod_eq_of_lt ha,Nat.mod_eq_of_lt hb] at e1;rw[Nat.add_mul_div_left _ _ hk,Nat.add_mul_div_left _ _ hk,Nat.div_eq_of_lt ha,Nat.div_eq_of_lt hb,Nat.zero_add,Nat.zero_add] at e2;have:=Nat.mod_add_div ((a+2 ^ k * u)&&& (b+2 ^ k * v)) (2 ^ k);rw[e1,e2] at this;exact this.symm
theorem kO(a b u v:Nat)(ha:a<16)(hb:b<16):(a+16 * u)&&& (b+16 * v)=(a&&& b)+16 * (u&&& v):=mP 4 a b u v ha hb
theorem yr(a b u v:Nat)(ha:a<256)(hb:b<256):(a+256 * u)&&& (b+256 * v)=(a&&& b)+256 * (u&&& v):=mP 8 a b u v ha hb
def rep(q m:Nat):Nat→Nat
 |0=>0
 |n+1=>m+q * rep q m n
def nibs:Nat→Nat→Nat
 |0,_=>0
 |n+1,x=>pc 4 x+16 * nibs n (x / 16)
def byts:Nat→Nat→Nat
 |0,_=>0
 |n+1,x=>pc 8 x+256 * byts n (x / 256)
def st1(M x:Nat):Nat:=(x / 2&&& M)+(x&&& M)
def st2(M x:Nat):Nat:=(x / 4&&& M)+(x&&& M)
def st3(M x:Nat):Nat:=(x / 16+x)&&& M
theorem vW(r y M:Nat)(hr:r<16):st1 (5+16 * M) (r+16 * y)=((r / 2&&& 5)+(r&&& 5))+16 * st1 M y:=by
 have hd:∀r:Fin 16,∀p:Fin 2,(r.val / 2+8 * p.val)&&& 5=r.val / 2&&& 5:=by decide
 have e:(r+16 * y) / 2=(r / 2+8 * (y % 2))+16 * (y / 2):=by omega
 unfold st1;rw[e,kO _ _ _ _ (by omega) (by omega),kO _ _ _ _ hr (by omega)];have:=hd ⟨r,hr⟩ ⟨y % 2,by omega⟩;simp only at this;rw[this];omega
theorem vV(r y M:Nat)(hr:r<16):st2 (3+16 * M) (r+16 * y)=((r / 4&&& 3)+(r&&& 3))+16 * st2 M y:=by
 have hd:∀r:Fin 16,∀p:Fin 4,(r.val / 4+4 * p.val)&&& 3=r.val / 4&&& 3:=by decide
 have e:(r+16 * y) / 4=(r / 4+4 * (y % 4))+16 * (y / 4):=by omega
 unfold st2;rw[e,kO _ _ _ _ (by omega) (by omega),kO _ _ _ _ hr (by omega)];have:=hd ⟨r,hr⟩ ⟨y % 4,by omega⟩;simp only at this;rw[this];omega
theorem st12:∀(n x:Nat),x<16 ^ n→st2 (rep 16 3 n) (st1 (rep 16 5 n) x)=nibs n x
 |0,x,h=>by simp at h;subst h;rfl
 |n+1,x,h=>by
  have hx:x=x % 16+16 * (x / 16):=by omega
  have hlt:x / 16<16 ^ n:=by rw[Nat.pow_succ] at h;omega
  have ih:=st12 n (x / 16) hlt;have h1:st1 (rep 16 5 (n+1)) x=((x % 16 / 2&&& 5)+(x % 16&&& 5))+16 * st1 (rep 16 5 n) (x / 16):=by
   conv=>lhs;rw[hx]
   exact vW _ _ _ (by omega)
  have hf:∀r:Fin 16,((r.val / 2&&& 5)+(r.val&&& 5))<16∧((((r.val / 2&&& 5)+(r.val&&& 5)) / 4&&& 3)+(((r.val / 2&&& 5)+(r.val&&& 5))&&& 3))=pc 4 r.val:=by decide
  obtain⟨g1,g2⟩:=hf ⟨x % 16,by omega⟩;simp only at g1 g2;rw[h1];show st2 (3+16 * rep 16 3 n) _=_;rw[vV _ _ _ g1,g2,ih,pc4];rfl
theorem wM:∀n x:Nat,nibs n x % 16≤4
 |0,_=>by simp[nibs]
 |n+1,x=>by have:=fR 4 x;simp only[nibs];omega
theorem oU:∀(n x:Nat),st3 (rep 256 15 n) (nibs (2 * n) x)=byts n x
 |0,x=>by simp[st3,rep,byts]
 |n+1,x=>by
  have e0:nibs (2 * (n+1)) x=pc 4 x+16 * (pc 4 (x / 16)+16 * nibs (2 * n) (x / 16 / 16)):=rfl;have ih:=oU n (x / 16 / 16);have a1:=fR 4 x;have a2:=fR 4 (x / 16);have a3:=wM (2 * n) (x / 16 / 16);have a4:pc 8 x=pc 4 x+pc 4 (x / 16):=tg 4 4 x;have a5:x / 16 / 16=x / 256:=by omega
  rw[a5] at e0 ih a3;unfold st3 at ih ⊢;show _&&& (15+256 * rep 256 15 n)=pc 8 x+256 * byts n (x / 256);rw[e0,←ih];generalize nibs (2 * n) (x / 256)=y at *;have e1:(pc 4 x+16 * (pc 4 (x / 16)+16 * y)) / 16+(pc 4 x+16 * (pc 4 (x / 16)+16 * y))=(pc 4 x+pc 4 (x / 16)+16 * (pc 4 (x / 16)+y % 16))+256 * (y / 16+y):=by omega
  rw[e1,yr _ _ _ _ (by omega) (by omega),a4];have hd:∀p:Fin 9,∀q:Fin 9,(p.val+16 * q.val)&&& 15=p.val:=by decide
  have:=hd ⟨pc 4 x+pc 4 (x / 16),by omega⟩ ⟨pc 4 (x / 16)+y % 16,by omega⟩;simp only at this;rw[this]
theorem uR(n r q:Nat)(hr:r<n):(r+n * q) / n=q:=by
 rw[Nat.add_mul_div_left _ _ (by omega),Nat.div_eq_of_lt hr,Nat.zero_add]
theorem sum8(c0 c1 c2 c3 c4 c5 c6 c7:Nat)(h0:c0≤8)(h1:c1≤8)(h2:c2≤8)(h3:c3≤8)(h4:c4≤8)(h5:c5≤8)(h6:c6≤8)(h7:c7≤8)(X A B C:Nat)
  (hX:X=c0+256 * (c1+256 * (c2+256 * (c3+256 * (c4+256 * (c5+256 * (c6+256 * c7)))))))(hA:A=X+X / 256)(hB:B=A+A / 65536)(hC:C=B+B / 4294967296):
  C<18446744073709551616∧C % 128=c0+c1+c2+c3+c4+c5+c6+c7:=by
 obtain⟨Y6,e6,b6⟩:∃Y,Y=c6+256 * c7∧Y<2305:=⟨_,rfl,by omega⟩;obtain⟨Y5,e5,b5⟩:∃Y,Y=c5+256 * Y6∧Y<590081:=⟨_,rfl,by omega⟩;obtain⟨Y4,e4,b4⟩:∃Y,Y=c4+256 * Y5∧Y<151060737:=⟨_,rfl,by omega⟩;obtain⟨Y3,e3,b3⟩:∃Y,Y=c3+256 * Y4∧Y<38671548673:=⟨_,rfl,by omega⟩;obtain⟨Y2,e2,b2⟩:∃Y,Y=c2+256 * Y3∧Y<9899916460289:=⟨_,rfl,by omega⟩;obtain⟨Y1,e1,b1⟩:∃Y,Y=c1+256 * Y2∧Y<2534378613833985:=⟨_,rfl,by omega⟩;rw[←e6,←e5,←e4,←e3,←e2,←e1] at hX;have d1:X / 256=Y1:=by rw[hX];exact uR 256 c0 Y1 (by omega)
 rw[d1] at hA;have f1:A=((c0+c1)+256 * (c1+c2))+65536 * (Y2+Y3):=by subst hA hX;clear hB hC d1 b1 b2 b3 b4 b5 b6 h0 h1 h2 h3 h4 h5 h6 h7 e4 e5 e6;rw[e1,e2];omega
 have d2:A / 65536=Y2+Y3:=by rw[f1];exact uR 65536 _ _ (by clear hA hB hC hX d1 f1 e1 e2 e3 e4 e5 e6 b1 b2 b3 b4 b5 b6;omega)
 rw[d2] at hB;have f2:B=((c0+c1+c2+c3)+256 * ((c1+c2+c3+c4)+256 * ((c2+c3+c4+c5)+256 * (c3+c4+c5+c6))))+4294967296 * (Y4+Y5+Y6+c7):=by
  clear hA hC hX d1 d2 e1 b1 b2 b3 b4 b5 b6 h0 h1 h2 h3 h4 h5 h6 h7;rw[hB,f1,e2,e3,e4,e5,e6];omega
 have d3:B / 4294967296=Y4+Y5+Y6+c7:=by rw[f2];exact uR 4294967296 _ _ (by clear hA hB hC hX d1 d2 f1 f2 e1 e2 e3 e4 e5 e6 b1 b2 b3 b4 b5 b6;omega)
 rw[d3] at hC;have f3:C=(c0+c1+c2+c3+c4+c5+c6+c7)+128 * (2 * (Y1+Y2+Y3+Y4+Y5+Y6+c7)):=by
  clear d1 d2 d3 f1 f2 b1 b2 b3 b4 b5 b6 h0 h1 h2 h3 h4 h5 h6 h7;rw[hC,hB,hA,hX];omega
 refine⟨by clear hA hB hC hX d1 d2 d3 f1 f2 e1 e2 e3 e4 e5 e6;omega,?_⟩;rw[f3,Nat.add_mul_mod_self_left,Nat.mod_eq_of_lt (by clear hA hB hC hX d1 d2 d3 f1 f2 f3 e1 e2 e3 e4 e5 e6 b1 b2 b3 b4 b5 b6;omega)]
theorem swar(x:Nat)(hx:x<18446744073709551616):
  let a:=st1 6148914691236517205 x
  let b:=st2 3689348814741910323 a
  let c:=st3 1085102592571150095 b
  let d:=c+c / 256
  let e:=d+d / 65536
  let f:=e+e / 4294967296
  a<18446744073709551616∧b<18446744073709551616∧b / 16+b<18446744073709551616∧f<18446744073709551616∧f % 128=pc 64 x:=by
 intro a b c d e f;have m1:rep 16 5 16=6148914691236517205:=by decide
 have m2:rep 16 3 16=3689348814741910323:=by decide
 have m3:rep 256 15 8=1085102592571150095:=by decide
 have hb:b=nibs 16 x:=by
  show st2 _ (st1 _ x)=_
  rw[←m1,←m2];exact st12 16 x (by omega)
 have hc:c=byts 8 x:=by
  show st3 _ b=_
  rw[hb,←m3];exact oU 8 x
 have ha:a<18446744073709551616:=by
  have h1:x / 2&&& 6148914691236517205≤6148914691236517205:=Nat.and_le_right;have h2:x&&& 6148914691236517205≤6148914691236517205:=Nat.and_le_right;show(x / 2&&& 6148914691236517205)+(x&&& 6148914691236517205)<_;omega
 have hb':b≤7378697629483820646:=by
  have h1:a / 4&&& 3689348814741910323≤3689348814741910323:=Nat.and_le_right;have h2:a&&& 3689348814741910323≤3689348814741910323:=Nat.and_le_right;show(a / 4&&& 3689348814741910323)+(a&&& 3689348814741910323)≤_;omega
 have hs:=sum8 (pc 8 x) (pc 8 (x / 256)) (pc 8 (x / 256 / 256)) (pc 8 (x / 256 / 256 / 256)) (pc 8 (x / 256 / 256 / 256 / 256)) (pc 8 (x / 256 / 256 / 256 / 256 / 256)) (pc 8 (x / 256 / 256 / 256 / 256 / 256 / 256)) (pc 8 (x / 256 / 256 / 256 / 256 / 256 / 256 / 256))
  (fR 8 _) (fR 8 _) (fR 8 _) (fR 8 _) (fR 8 _) (fR 8 _) (fR 8 _) (fR 8 _) c d e f (by rw[hc];simp only[byts];omega) rfl rfl rfl
 refine⟨ha,by omega,by omega,hs.1,?_⟩;rw[hs.2];have p (n y:Nat):pc (8+n) y=pc 8 y+pc n (y / 256):=tg 8 n y;rw[show(64:Nat)=8+(8+(8+(8+(8+(8+(8+(8+0))))))) from rfl];simp only[p];simp only[pc];omega
structure Bits(ws:List Nat)(has:List Bool):Prop where
 len:ws.length=(has.length+63) / 64
 lt:∀j (h:j<ws.length),ws[j]<18446744073709551616
 bit:∀j (h:j<ws.length) i,i<64→ws[j].testBit i= !(has.getD (64 * j+i) true)
theorem ja:∀(n x:Nat) (l:List Bool),(∀i,i<n→x.testBit i= !(l.getD i true))→pc n x=aR (l.take n)
 |0,x,l,_=>by simp[pc,aR]
 |n+1,x,l,h=>by
  have h0:=h 0 (by omega);have ih:=ja n (x / 2) l.tail (fun i hi=>by
   rw[←Nat.testBit_succ,h (i+1) (by omega)];cases l<;>simp)
  rw[Nat.testBit_zero] at h0;simp only[pc];rw[ih];cases l with
  |nil=>
   simp at h0;simp[aR];omega
  |cons c r=>
   simp only[List.tail_cons,List.take_succ_cons];cases c
   ·simp at h0;simp only[aR];omega
   ·simp at h0;simp only[aR];omega
theorem kG(x:Nat)(h0:x≠0)(h:x<18446744073709551616):Lib.ctz 64 x<64∧x.testBit (Lib.ctz 64 x)=true∧∀i,i<Lib.ctz 64 x→x.testBit i=false:=by
 obtain⟨m,hm,hk⟩:=Lib.ctzFrom_spec 64 x (by omega) h;have e:Lib.ctz 64 x=Lib.ctzFrom 64 x:=by simp[Lib.ctz,h0]
 rw[e];generalize Lib.ctzFrom 64 x=c at *;refine⟨hk,?_,fun i hi=> ?_⟩
 ·rw[hm,Nat.mul_comm,Nat.testBit_mul_two_pow];simp
 ·rw[hm,Nat.mul_comm,Nat.testBit_mul_two_pow];have:¬c≤i:=by omega
  simp[this]
theorem kC(l:List Bool)(i:Nat):l.getD i true=false↔∃h:i<l.length,l[i]=false:=by
 rw[List.getD_eq_getElem?_getD];rcases Nat.lt_or_ge i l.length with h|h
 ·rw[List.getElem?_eq_getElem h];simp[h]
 ·rw[List.getElem?_eq_none h];simp;omega
section
variable{ws:List Nat}{has:List Bool}
theorem Bits.zero(B:Bits ws has)(j:Nat)(hj:j<ws.length)(h0:ws[j]=0)(i:Nat)(hi:i<64)(hl:64 * j+i<has.length):has[64 * j+i]=true:=by
 have:=B.bit j hj i hi;rw[h0,Nat.zero_testBit,List.getD_eq_getElem?_getD,List.getElem?_eq_getElem hl] at this;simpa using this
theorem Bits.lowest(B:Bits ws has)(j:Nat)(hj:j<ws.length)(h0:ws[j]≠0)(hb:∀i (_:i<64 * j) (hl:i<has.length),has[i]=true):low has=64 * j+Lib.ctz 64 ws[j]∧low has<has.length:=by
 obtain⟨h1,h2,h3⟩:=kG ws[j] h0 (B.lt j hj);rw[B.bit j hj _ h1] at h2;have h2':has.getD (64 * j+Lib.ctz 64 ws[j]) true=false:=by simpa using h2
 obtain⟨hl,he⟩:=(kC _ _).1 h2';have:=bO has (64 * j+Lib.ctz 64 ws[j]) hl he (fun i hi=>by
  rcases Nat.lt_or_ge i (64 * j) with h|h
  ·exact hb i h (by omega)
  ·have hb1:=h3 (i - 64 * j) (by omega);rw[B.bit j hj _ (by omega),show 64 * j+(i - 64 * j)=i by omega,List.getD_eq_getElem?_getD,List.getElem?_eq_getElem (by omega)] at hb1;simpa using hb1)
 exact⟨this,by omega⟩
theorem Bits.full(B:Bits ws has)(hb:∀i (_:i<64 * ws.length) (hl:i<has.length),has[i]=true):low has=has.length:=
 kj has (fun i hi=>hb i (by have:=B.len;omega) hi)
theorem Bits.count(B:Bits ws has)(j:Nat)(hj:j<ws.length):aR (has.take (64 * (j+1)))=aR (has.take (64 * j))+pc 64 ws[j]:=by
 rw[ja 64 ws[j] (has.drop (64 * j)) (fun i hi=>by
  rw[B.bit j hj i hi,List.getD_eq_getElem?_getD,List.getD_eq_getElem?_getD,List.getElem?_drop]),←dh]
 rw[show 64 * (j+1)=64 * j+64 by omega,List.take_add]
theorem Bits.all(B:Bits ws has):has.take (64 * ws.length)=has:=List.take_of_length_le (by have:=B.len;omega)
theorem Bits.turn(B:Bits ws has)(k:Nat)(hk:k<has.length)(hj:k / 64<ws.length):Bits (ws.set (k / 64) (ws[k / 64] ^^^ 2 ^ (k % 64))) (has.set k (!has[k])):=by
 refine⟨by simpa using B.len,fun j h=> ?_,fun j h i hi=> ?_⟩
 ·rw[List.getElem_set];split
  ·have h1:=B.lt (k / 64) hj;have h2:2 ^ (k % 64)<2 ^ 64:=Nat.pow_lt_pow_right (by decide) (by omega);exact Nat.xor_lt_two_pow (n:=64) h1 h2
  ·exact B.lt j (by simpa using h)
 ·have hjl:j<ws.length:=by simpa using h
  rw[List.getElem_set];have hg:(has.set k (!has[k])).getD (64 * j+i) true=if k=64 * j+i then !has[k] else has.getD (64 * j+i) true:=by
   rw[List.getD_eq_getElem?_getD,List.getD_eq_getElem?_getD,List.getElem?_set];split<;>simp_all
  rw[hg];split
  ·rename_i e;subst e;rw[Nat.testBit_xor,Nat.testBit_two_pow,B.bit _ hj i hi];by_cases e2:k % 64=i
   ·have e3:k=64 * (k / 64)+i:=by omega
    rw[if_pos e3,←e3,List.getD_eq_getElem?_getD,List.getElem?_eq_getElem hk];simp[e2]
   ·rw[if_neg (by omega)];simp[e2]
  ·rw[if_neg (by omega),B.bit j hjl i hi]
theorem Bits.asked(B:Bits ws has)(k:Nat)(hk:k<has.length)(hj:k / 64<ws.length):decide (ws[k / 64]&&& 2 ^ (k % 64)=0)=has[k]:=by
 have h1:=B.bit (k / 64) hj (k % 64) (by omega);rw[show 64 * (k / 64)+k % 64=k by omega,List.getD_eq_getElem?_getD,List.getElem?_eq_getElem hk] at h1;simp only[Option.getD_some] at h1;cases hh:has[k]
 ·rw[hh] at h1;have:(ws[k / 64]&&& 2 ^ (k % 64)).testBit (k % 64)=true:=by rw[Nat.testBit_and,h1];simp
  simp only[decide_eq_false_iff_not];intro h0;rw[h0] at this;simp at this
 ·rw[hh] at h1;simp only[decide_eq_true_eq];apply Nat.eq_of_testBit_eq;intro i;rw[Nat.testBit_and,Nat.testBit_two_pow,Nat.zero_testBit];by_cases e:k % 64=i
  ·rw[←e,h1];simp
  ·simp[e]
end
theorem Bits.zeroes(n:Nat):Bits (List.replicate ((n+63) / 64) 0) (List.replicate n true):=by
 refine⟨by simp,fun j h=>by simp,fun j h i hi=> ?_⟩;rw[List.getElem_replicate,Nat.zero_testBit,List.getD_eq_getElem?_getD,List.getElem?_replicate];split<;>simp
end Go.Proofs.YtndhbnhobhkmaaaGreatDoor.Sf
