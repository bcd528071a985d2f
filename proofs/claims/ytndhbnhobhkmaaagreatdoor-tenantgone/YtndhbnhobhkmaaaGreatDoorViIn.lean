/-
  Move and Drop: what they leave: mathematics.
  What the calls of the document's own arena (package garthref01) do: the same contracts.
  The document's own arena, the calls with loops.
  Touched: the spans, in memory of the caller's own.
  Same: two lists of spans that are alike.
  Each call of either arena told without cases, and for two arenas side by side.
  An arena as one thing in memory: the program's, and the document's.
  An arena and chains in it, as one thing in memory; the document's chain.
  Lists of numbers, more: one more put behind a row, and where it lies; two lists held against each other.
  What the document's own chain does.
  What the document's own chain does: All, Take, Move.
  The document's page in memory.
  Three and more things as one: one of them rests while the others turn. Nothing of the program is named here.
  More of things side by side: a block of the call's own among them, one thing and a block beside it. Nothing of the program is named here.
  A thing that has come in, and all that was there beside it: as things side by side.
-/
import Derived.Test.YtndhbnhobhkmaaaGreatDoorHpMalloc
namespace Go.Proofs.YtndhbnhobhkmaaaGreatDoor
open Go.RowKit
open An
def drA:List Int→Ms→Tb→Ms×Tb
 |[],m,T=>(m,T)
 |v::r,m,T=>drA r (drM m T v) (tbU T v)
def Pg.at(g:Pg)(b:Nat):Pg:=⟨b,g.kind,g.fresh,g.R,g.D⟩
def hMv(L:List Hd)(v:Int)(b:Nat):List Hd:=L.map fun x=>if x.kind≤7∧lo x.kind x.slot=v then⟨x.kind,x.slot,x.pg.at b⟩ else x
def dE(k:Nat)(W:List Int)(v:Int)(m:Ms)(T:Tb)(L:List Hd):Ms×Tb×List Hd:=
 if Cq.inW k W (tbF T v).toNat=true then(m,T,L)
 else(⟨Cq.giS (Cq.takS k m.has W) (tbF T v),over (over m.bs ((Cq.takV k m.has W).toNat * 512) (win m.bs ((tbF T v).toNat * 512))) ((tbF T v).toNat * 512) (nz 512),m.ss++[(tbF T v * 512,512,false),(Cq.takV k m.has W * 512,512,true),(tbF T v * 512,512,true)]⟩,tbS T v (Cq.takV k m.has W),hMv L v ((Cq.takV k m.has W).toNat * 512))
def aw(k:Nat)(W:List Int):List Int→Ms→Tb→List Hd→Ms×Tb×List Hd
 |[],m,T,L=>(m,T,L)
 |v::r,m,T,L=>aw k W r (dE k W v m T L).1 (dE k W v m T L).2.1 (dE k W v m T L).2.2
def mvN(k:Nat)(W:List Int)(T:Tb):Nat:=T.countP fun y=> !Cq.inW k W y.2.toNat
def hMo(k:Nat)(m:Ms)(H:Hp)(W:List Int):Ms×Hp×Int:=
 if Cq.frI k m.has W<mvN k W H.T then(m,H,13)
 else((aw k W (H.T.map Prod.fst) m H.T H.L).1,⟨W,(aw k W (H.T.map Prod.fst) m H.T H.L).2.1,(aw k W (H.T.map Prod.fst) m H.T H.L).2.2,H.ln⟩,0)
def hDr(m:Ms)(H:Hp):Ms×Hp:=((drA (H.T.map Prod.fst) m H.T).1,⟨H.W,[],[],fun _=>[]⟩)
section
variable{C:Nat→Prop}{k:Nat}{m:Ms}{H:Hp}{bs bs':List UInt8}{g:Pg}{T:Tb}{L:List Hd}{W:List Int}{v:Int}
theorem oM{x:Int×Int}{r:Tb}(h:TbOk (x::r)):tbU (x::r) x.1=r:=by
 unfold tbU;rw[List.filter_cons_of_neg (by simp),List.filter_eq_self.2];intro y hy;have:=(List.pairwise_cons.1 h.up).1 y hy;simp at this ⊢;omega
theorem qi:∀(T:Tb) (m:Ms),TpOk C m.has T→MsOk m→MsOk (drA (T.map Prod.fst) m T).1∧(drA (T.map Prod.fst) m T).2=[]∧Stp m T (drA (T.map Prod.fst) m T).1 []∧(drA (T.map Prod.fst) m T).1.ss.length=m.ss.length+T.length
 |[],m,h,ok=>⟨ok,rfl,Stp.refl _ _,rfl⟩
 |x::r,m,h,ok=>by
  rw[List.map_cons];unfold drA;have hf:tbF (x::r) x.1=x.2:=aO h.tb (by simp);have hx:=h.tk x (by simp);obtain⟨p,_,_,_,_,_,w⟩:=drop_one h ok (v:=x.1) (by rw[hf];omega);have e:=oM h.tb;rw[e] at w ⊢;obtain⟨i1,i2,i3,i4⟩:=qi r (drM m (x::r) x.1) w.ok w.ms;refine⟨i1,i2,w.stp.trans i3 ok i1,?_⟩;rw[i4];show(m.ss++[_]).length+r.length=_;rw[List.length_append,List.length_singleton,List.length_cons];omega
theorem hDr_ok(h:HpOk C m H)(ok:MsOk m):eX C m H (hDr m H).1 (hDr m H).2∧(hDr m H).1.ss.length=m.ss.length+H.T.length:=by
 obtain⟨i1,i2,i3,i4⟩:=qi H.T m h.tp ok;refine⟨⟨⟨⟨TbOk.none,fun y hy=>(by cases hy)⟩,List.nodup_nil,fun y hy=>(by cases hy),fun y hy=>(by cases hy),fun y hy=>(by cases hy),fun y hy=>(by cases hy),fun c=>⟨List.nodup_nil,fun v=>⟨fun e=>(by cases e),fun⟨y,hy,_⟩=>(by cases hy)⟩⟩⟩,i1,i3,fun _ y hy=>(by cases hy)⟩,i4⟩
theorem Pg.Ok.move(h:g.Ok bs){b:Nat}(hm:b % 512=0)(hf:b+512≤bs'.length)(hw:win bs' b=win bs g.base):(g.at b).Ok bs':=
 ⟨h.kind,hm,hf,gT h.kind hw h.lr h.r,gT h.kind hw h.ld h.d,h.nd,h.lt,h.fr⟩
theorem Pg.Clean.move(h:g.Clean bs){b:Nat}(hw:win bs' b=win bs g.base):(g.at b).Clean bs':=fun i h1 h2 hne=>by
 have h1:b≤i:=h1;have h2:i<b+512:=h2;have e1:=aZ bs' b (i - b) (by omega);have e2:=aZ bs g.base (i - b) (by omega);rw[show b+(i - b)=i by omega,hw,e2] at e1;rw[←e1] at hne;obtain⟨x,hx,h3⟩:=h (g.base+(i - b)) (by omega) (by omega) hne;refine⟨x,hx,?_⟩;unfold Pg.pos at h3;show(g.Had x∧b+x * pu g.kind≤i∧i<b+x * pu g.kind+pu g.kind)∨((x∈g.R∨x∈g.D)∧b+x * pu g.kind≤i∧i<b+x * pu g.kind+8);rcases h3 with⟨h3,h4,h5⟩|⟨h3,h4,h5⟩
 ·exact .inl ⟨h3,by omega,by omega⟩
 ·exact .inr ⟨h3,by omega,by omega⟩
theorem vI{b:Nat}{ds:List UInt8}(h:b+512≤bs.length)(hd:ds.length=512):win (over bs b ds) b=ds:=by
 have:=cq (bs:=bs) (ds:=ds) (b:=b) (q:=0) h (by omega);rw[Nat.add_zero] at this;rw[this];unfold over;simp[bu h,hd]
theorem df{y:Int×Int}{p:Int}(h:TbOk T)(hv:¬tbF T v<0):y∈tbW T v p↔y=(v,p)∨(y∈T∧y.1≠v):=by
 unfold tbW;rw[List.mem_map];constructor
 ·rintro⟨z,hz,rfl⟩;by_cases e:z.1=v
  ·rw[if_pos e,e];exact .inl rfl
  ·rw[if_neg e];exact .inr ⟨hz,e⟩
 ·rintro(rfl|⟨h1,h2⟩)
  ·exact⟨_,h.aQ hv,by rw[if_pos rfl]⟩
  ·exact⟨y,h1,by rw[if_neg h2]⟩
theorem vR(p:Int):(tbW T v p).map Prod.fst=T.map Prod.fst:=by
 unfold tbW;rw[List.map_map];apply List.map_congr_left;intro x _;show(if x.1=v then(x.1,p) else x).1=x.1;split<;>rfl
theorem tbW_f{p:Int}(h:TbOk T)(hv:¬tbF T v<0)(h':TbOk (tbW T v p))(u:Int):tbF (tbW T v p) u=if u=v then p else tbF T u:=by
 by_cases e:u=v
 ·subst e;rw[if_pos rfl];exact aO h' ((df h hv).2 (.inl rfl))
 ·rw[if_neg e];by_cases hu:tbF T u<0
  ·have h1:=h.eJ hu;by_cases hu2:tbF (tbW T v p) u<0
   ·rw[(h'.eJ hu2).1,h1.1]
   ·rcases(df h hv).1 (h'.aQ hu2) with e2|e2
    ·simp only[Prod.mk.injEq] at e2;exact(e e2.1).elim
    ·exact(h1.2 _ e2.1 rfl).elim
  ·exact aO h' ((df h hv).2 (.inr ⟨h.aQ hu,e⟩))
structure Moved(C:Nat→Prop)(k:Nat)(W:List Int)(v:Int)(m:Ms)(T:Tb)(L:List Hd)(m':Ms)(T':Tb)(L':List Hd):Prop where
 ok:∀W0 ln,HpOk C m ⟨W0,T,L,ln⟩→HpOk C m' ⟨W0,T',L',ln⟩
 ms:MsOk m'
 stp:Stp m T m' T'
 us:Us L→Us L'
 keys:T'.map Prod.fst=T.map Prod.fst
 in_:Cq.inW k W (tbF T' v).toNat=true
 far:∀u,u≠v→tbF T' u=tbF T u
 fr:Cq.frI k m'.has W+(if Cq.inW k W (tbF T v).toNat then 0 else 1)=Cq.frI k m.has W
 ss:m'.ss.length≤m.ss.length+3
 wn:∀(u:Int) (q q':Nat),tbF T u=(q:Int)→tbF T' u=(q':Int)→win m'.bs (q' * 512)=win m.bs (q * 512)
def mvd(v:Int)(b:Nat)(x:Hd):Hd:=if x.kind≤7∧lo x.kind x.slot=v then⟨x.kind,x.slot,x.pg.at b⟩ else x
theorem au(b:Nat)(x:Hd):(mvd v b x).kind=x.kind∧(mvd v b x).slot=x.slot∧(mvd v b x).pg.used=x.pg.used∧((mvd v b x).pg.Full↔x.pg.Full):=by
 unfold mvd;split
 ·exact⟨rfl,rfl,rfl,Iff.rfl⟩
 ·exact⟨rfl,rfl,rfl,Iff.rfl⟩
theorem bF{b:Nat}{y:Hd}:y∈hMv L v b↔∃x∈L,mvd v b x=y:=by unfold hMv;rw[List.mem_map];rfl
theorem pY(b:Nat):(hMv L v b).map (fun x=>(x.kind,x.slot))=L.map fun x=>(x.kind,x.slot):=by
 unfold hMv;rw[List.map_map];apply List.map_congr_left;intro x _;show((mvd v b x).kind,(mvd v b x).slot)=_;rw[(au b x).1,(au b x).2.1]
theorem yX(hC:∀q,Cq.inW k W q=true→C q){W0:List Int}{ln:Nat→List Int}(h:HpOk C m ⟨W0,T,L,ln⟩)(ok:MsOk m)(hv:¬tbF T v<0)(hf:Cq.inW k W (tbF T v).toNat=true∨0<Cq.frI k m.has W):Moved C k W v m T L (dE k W v m T L).1 (dE k W v m T L).2.1 (dE k W v m T L).2.2:=by
 unfold dE;by_cases hin:Cq.inW k W (tbF T v).toNat=true
 ·rw[if_pos hin];exact⟨fun _ _ h=>h,ok,Stp.refl _ _,id,rfl,hin,fun _ _=>rfl,by rw[if_pos hin];rfl,by show m.ss.length≤_;omega,fun u q q' e1 e2=>(by
   have e2:tbF T u=(q':Int):=e2;rw[e1] at e2;obtain rfl:q=q':=by omega
   rfl)⟩
 rw[if_neg hin];have hf:0<Cq.frI k m.has W:=by rcases hf with e|e;exact(hin e).elim;exact e
 obtain⟨p,h1,h2,h3,_,h5,_,h7,_⟩:=Cq.cu hf;unfold Cq.aX at h2;simp only[Bool.and_eq_true,Bool.not_eq_true'] at h2;obtain⟨hpf,hpw⟩:=h2;have htb:TbOk T:=h.tp.tb;have hmem:=htb.aQ hv;obtain⟨o,ho⟩:∃o:Nat,tbF T v=(o:Int):=⟨(tbF T v).toNat,by omega⟩;rw[ho] at hmem hin;rw[h3,h5,ho];simp only[Int.toNat_natCast] at hin ⊢;have hol:o<m.has.length:=h.tp.lt ⟨v,hmem⟩;have hon:=(h.tp.on ⟨v,hmem⟩).1;have hne:p≠o:=fun e=>by subst e;rw[hpf] at hon;cases hon
 have hcap:=ok.cap;have hlen:=ok.len;have hgi:Cq.giS (m.has.set p true) (o:Int)=(m.has.set p true).set o false:=by unfold Cq.giS;rw[if_pos ⟨by omega,by simp;omega⟩];rfl
 have hsw:SwOk T v p:=⟨by unfold POk;omega,hv,h.tp.ux hpf⟩;have hS:tbS T v p=tbW T v p:=if_pos hsw;have htb':TbOk (tbW T v p):=by rw[←hS];exact htb.swap v p
 have hF:=tbW_f htb hv htb';rw[hgi,hS];have hhas:∀(q:Nat) (d:Bool),((m.has.set p true).set o false).getD q d=if q=o then false else if q=p then true else m.has.getD q d:=fun q d=>by
  rw[bI (by rw[List.length_set];exact hol)];split
  ·rfl
  ·rw[bI h1]
 have hbp:p * 512+512≤m.bs.length:=by omega
 have hbo:o * 512+512≤m.bs.length:=by
  rw[hlen];have:=Nat.mul_le_mul_right 512 (Nat.succ_le_of_lt hol);rw[Nat.succ_mul] at this;exact this
 have hwl:(win m.bs (o * 512)).length=512:=bu hbo;have hb1:(over m.bs (p * 512) (win m.bs (o * 512))).length=m.bs.length:=al _ _ _ (by rw[hwl];exact hbp);have hbo1:o * 512+512≤(over m.bs (p * 512) (win m.bs (o * 512))).length:=hb1▸hbo;have hb2:(over (over m.bs (p * 512) (win m.bs (o * 512))) (o * 512) (nz 512)).length=m.bs.length:=by rw[al _ _ _ (by rw[aB];exact hbo1),hb1]
 have hwo:win (over (over m.bs (p * 512) (win m.bs (o * 512))) (o * 512) (nz 512)) (o * 512)=nz 512:=yD hbo1;have hwp:win (over (over m.bs (p * 512) (win m.bs (o * 512))) (o * 512) (nz 512)) (p * 512)=win m.bs (o * 512):=by
  rw[dJ (by rw[aB];exact hbo1) (by rw[aB];omega),vI hbp hwl]
 have hwq:∀q:Nat,q≠o→q≠p→win (over (over m.bs (p * 512) (win m.bs (o * 512))) (o * 512) (nz 512)) (q * 512)=win m.bs (q * 512):=fun q q1 q2=>by
  rw[dJ (by rw[aB];exact hbo1) (by rw[aB];omega),dJ (by rw[hwl];exact hbp) (by rw[hwl];omega)]
 generalize over (over m.bs (p * 512) (win m.bs (o * 512))) (o * 512) (nz 512)=bs2 at *;have hone:∀y∈T,y.1≠v→y.2≠(o:Int)∧y.2≠(p:Int):=fun y hy e=>by
  refine⟨fun e2=>e ?_,fun e2=> ?_⟩
  ·have a1:=aW (v:=y.1) (p:=y.2) htb hy;rw[e2,aW htb hmem] at a1;exact a1.symm
  ·have:=h.tp.free hpf;exact this ⟨y.1,by rw[←e2];exact hy⟩
 refine⟨fun W0 ln h=>⟨⟨htb',fun y hy=> ?_⟩,by rw[pY];exact h.nd,fun y hy=> ?_,fun y hy=> ?_,fun y hy i hi=> ?_,fun y hy h7=> ?_,fun c=>⟨(h.ln c).1,fun u=> ?_⟩⟩,⟨?_,by simp only[List.length_set];exact hcap,fun q hq hfr=> ?_⟩,⟨by simp,hb2,fun q hq q1 q2=> ?_,fun q hq q1=> ?_,fun q hq q1=> ?_⟩,fun u y hy h7=> ?_,vR _,?_,fun u hu=>by rw[hF,if_neg hu],?_,by simp,fun u q q' q1 q2=> ?_⟩
 ·show 0≤y.2∧y.2.toNat<((m.has.set p true).set o false).length∧((m.has.set p true).set o false).getD y.2.toNat false=true∧C y.2.toNat
  rw[hhas,List.length_set,List.length_set];rcases(df htb hv).1 hy with rfl|⟨e1,e2⟩
  ·simp[h1,hne];exact hC _ hpw
  ·obtain⟨t1,t2,t3,t4⟩:=h.tp.tk y e1;obtain⟨n1,n2⟩:=hone y e1 e2;refine⟨t1,t2,?_,t4⟩;rw[if_neg (by omega),if_neg (by omega)];exact t3
 ·obtain⟨x,hx,rfl⟩:=bF.1 hy;rw[(au _ x).1,(au _ x).2.1];exact h.at_ x hx
 ·have:∃z∈T,z.1=y.1:=by
   rcases(df htb hv).1 hy with rfl|⟨e1,e2⟩
   ·exact⟨_,hmem,rfl⟩
   ·exact⟨y,e1,rfl⟩
  obtain⟨z,hz,e⟩:=this;obtain⟨x,hx,i,hi,e2⟩:=h.dom z hz;exact⟨mvd v (p * 512) x,bF.2 ⟨x,hx,rfl⟩,i,by rw[(au _ x).1];exact hi,by rw[(au _ x).1,(au _ x).2.1,←e];exact e2⟩
 ·obtain⟨x,hx,rfl⟩:=bF.1 hy;rw[(au _ x).1] at hi;rw[(au _ x).1,(au _ x).2.1];show ¬tbF (tbW T v p) _<0;rw[hF];split
  ·omega
  ·exact h.cov x hx i hi
 ·obtain⟨x,hx,rfl⟩:=bF.1 hy;rw[(au _ x).1] at h7;have hs:=h.sm x hx h7;obtain⟨q,e1,m1⟩:=hs.page htb;unfold mvd;by_cases e:x.kind≤7∧lo x.kind x.slot=v
  ·rw[if_pos e];have hq:q=o:=by
    have:=aO htb m1;rw[e.2,ho] at this;omega
   subst hq;have hw:win bs2 (p * 512)=win m.bs x.pg.base:=by rw[hwp,e1]
   exact⟨hs.ok.move (by omega) (by rw[hb2];exact hbp) hw,hs.cl.move hw,hs.kd,by show((p * 512:Nat):Int)=tbF (tbW T v p) (lo x.kind x.slot) * 512;rw[hF,if_pos e.2];omega⟩
  ·rw[if_neg e];have hlv:lo x.kind x.slot≠v:=fun e2=>e ⟨h7,e2⟩
   obtain⟨n1,n2⟩:=hone _ m1 hlv;exact hs.ext hb2 (by rw[e1];exact hwq q (by intro e3;exact n1 (by rw[e3])) (by intro e3;exact n2 (by rw[e3]))) (by show tbF (tbW T v p) _=_;rw[hF,if_neg hlv])
 ·rw[(h.ln c).2 u];constructor
  ·rintro⟨x,hx,x1,x2,x3,x4⟩;exact⟨mvd v (p * 512) x,bF.2 ⟨x,hx,rfl⟩,by rw[(au _ x).1];exact x1,x2,by rw[(au _ x).2.1];exact x3,by rw[(au _ x).2.2.2];exact x4⟩
  ·rintro⟨y,hy,x1,x2,x3,x4⟩;obtain⟨x,hx,rfl⟩:=bF.1 hy;rw[(au _ x).1] at x1;rw[(au _ x).2.1] at x3;rw[(au _ x).2.2.2] at x4;exact⟨x,hx,x1,x2,x3,x4⟩
 ·show bs2.length=((m.has.set p true).set o false).length * 512
  rw[hb2,List.length_set,List.length_set];exact hlen
 ·simp only[List.length_set] at hq;rw[hhas] at hfr;by_cases e:q=o
  ·subst e;exact hwo
  ·rw[if_neg e] at hfr;by_cases e2:q=p
   ·rw[if_pos e2] at hfr;cases hfr
   ·rw[if_neg e2] at hfr;show win bs2 (q * 512)=_;rw[hwq q e e2];exact ok.cl q hq hfr
 ·have e1:q≠o:=fun e=>q1 (by subst e;exact⟨v,hmem⟩)
  have e2:q≠p:=fun e=>q2 (by subst e;exact⟨v,(df htb hv).2 (.inl rfl)⟩)
  exact⟨by show((m.has.set p true).set o false).getD q true=_;rw[hhas,if_neg e1,if_neg e2],hwq q e1 e2⟩
 ·obtain⟨u,hu⟩:=hq;rcases(df htb hv).1 hu with e|e
  ·simp only[Prod.mk.injEq] at e;obtain rfl:q=p:=by omega
   exact hpf
  ·exact(q1 ⟨u,e.1⟩).elim
 ·obtain⟨u,hu⟩:=hq;have:q=o:=by
   by_cases e:u=v
   ·subst e;have:=aO htb hu;rw[ho] at this;omega
   ·exact(q1 ⟨u,(df htb hv).2 (.inr ⟨hu,e⟩)⟩).elim
  show((m.has.set p true).set o false).getD q true=false;rw[hhas,if_pos this]
 ·obtain⟨x,hx,rfl⟩:=bF.1 hy;rw[(au _ x).1] at h7;rw[(au _ x).2.2.1];exact u x hx h7
 ·show Cq.inW k W (tbF (tbW T v p) v).toNat=true
  rw[hF,if_pos rfl];exact hpw
 ·rw[ho,Int.toNat_natCast,if_neg hin,←h7,h5];congr 1;unfold Cq.frI;rw[List.length_set];apply Cq.kI;intro q hq;rw[List.length_set] at hq;unfold Cq.aX;show(!((m.has.set p true).set o false).getD q true&&_)=(!(m.has.set p true).getD q true&&_);rw[bI (by rw[List.length_set];exact hol)];by_cases e:q=o
  ·subst e;have:Cq.inW k W q=false:=by simpa using hin
   simp[this]
  ·rw[if_neg e]
 ·show win bs2 (q' * 512)=win m.bs (q * 512)
  have q2:tbF (tbW T v p) u=(q':Int):=q2;rw[hF] at q2;by_cases e:u=v
  ·rw[if_pos e] at q2;subst e;rw[ho] at q1;obtain rfl:p=q':=by omega
   obtain rfl:o=q:=by omega
   exact hwp
  ·rw[if_neg e,q1] at q2;obtain rfl:q=q':=by omega
   have hm2:=htb.aQ (v:=u) (by rw[q1];omega);rw[q1] at hm2;obtain⟨n1,n2⟩:=hone _ hm2 e;exact hwq q (fun e3=>n1 (by rw[e3])) (fun e3=>n2 (by rw[e3]))
theorem HpOk.weak{C':Nat→Prop}(h:HpOk C m H)(hc:∀y∈H.T,C y.2.toNat→C' y.2.toNat):HpOk C' m H:=
 ⟨⟨h.tp.tb,fun y hy=>⟨(h.tp.tk y hy).1,(h.tp.tk y hy).2.1,(h.tp.tk y hy).2.2.1,hc y hy (h.tp.tk y hy).2.2.2⟩⟩,h.nd,h.at_,h.dom,h.cov,h.sm,h.ln⟩
theorem fy(hC:∀q,Cq.inW k W q=true→C q):∀(vs:List Int) (m:Ms) (T:Tb) (L:List Hd) (W0:List Int) (ln:Nat→List Int),HpOk C m ⟨W0,T,L,ln⟩→MsOk m→vs.Nodup→(∀v∈vs,¬tbF T v<0)→(vs.countP fun v=> !Cq.inW k W (tbF T v).toNat)≤Cq.frI k m.has W→
  HpOk C (aw k W vs m T L).1 ⟨W0,(aw k W vs m T L).2.1,(aw k W vs m T L).2.2,ln⟩∧MsOk (aw k W vs m T L).1∧Stp m T (aw k W vs m T L).1 (aw k W vs m T L).2.1∧(Us L→Us (aw k W vs m T L).2.2)∧(aw k W vs m T L).2.1.map Prod.fst=T.map Prod.fst∧(∀v∈vs,Cq.inW k W (tbF (aw k W vs m T L).2.1 v).toNat=true)∧(∀u,u∉vs→tbF (aw k W vs m T L).2.1 u=tbF T u)∧(aw k W vs m T L).1.ss.length≤m.ss.length+3 * vs.length
 |[],m,T,L,W0,ln,h,ok,_,_,_=>⟨h,ok,Stp.refl _ _,id,rfl,fun v hv=>(by cases hv),fun _ _=>rfl,Nat.le_refl _⟩
 |v::r,m,T,L,W0,ln,h,ok,nd,hv,hf=>by
  unfold aw;rw[List.nodup_cons] at nd;rw[List.countP_cons] at hf;have o:=yX hC h ok (v:=v) (hv v (by simp)) (by
   by_cases e:Cq.inW k W (tbF T v).toNat=true
   ·exact .inl e
   ·simp only[Bool.not_eq_true] at e;rw[e] at hf;simp at hf;exact .inr (by omega))
  have hfr:=o.fr;generalize (dE k W v m T L).1=m1 at *;generalize (dE k W v m T L).2.1=T1 at *;generalize (dE k W v m T L).2.2=L1 at *;have hne:∀u∈r,u≠v:=fun u hu e=>nd.1 (e▸hu)
  obtain⟨i1,i2,i3,i4,i5,i6,i7,i8⟩:=fy hC r m1 T1 L1 W0 ln (o.ok W0 ln h) o.ms nd.2 (fun u hu=>by rw[o.far u (hne u hu)];exact hv u (List.mem_cons_of_mem _ hu)) (by
   rw[List.countP_congr (q:=fun u=> !Cq.inW k W (tbF T u).toNat) fun u hu=>by rw[o.far u (hne u hu)]];cases e:Cq.inW k W (tbF T v).toNat
   ·rw[e] at hf hfr;simp at hf hfr;omega
   ·rw[e] at hf hfr;simp at hf hfr;omega)
  refine⟨i1,i2,o.stp.trans i3 ok i2,fun u=>i4 (o.us u),i5.trans o.keys,fun u hu=> ?_,fun u hu=> ?_,?_⟩
  ·rcases List.mem_cons.1 hu with rfl|e
   ·rw[i7 _ nd.1];exact o.in_
   ·exact i6 u e
  ·simp only[List.mem_cons,not_or] at hu;rw[i7 u hu.2,o.far u hu.1]
  ·have:=o.ss;rw[List.length_cons];omega
theorem ji(h:TbOk T):(T.map Prod.fst).Nodup:=by
 have:=h.up;rw[List.nodup_iff_pairwise_ne,List.pairwise_map];exact this.imp fun e=>by omega
theorem pI(h:TbOk T):mvN k W T=(T.map Prod.fst).countP fun v=> !Cq.inW k W (tbF T v).toNat:=by
 unfold mvN;rw[List.countP_map];apply List.countP_congr;intro y hy;show _↔(!Cq.inW k W (tbF T y.1).toNat)=true;rw[aO (v:=y.1) (p:=y.2) h hy]
theorem hMo_ok(h:HpOk C m H)(ok:MsOk m)(W:List Int)(hw:(hMo k m H W).2.2=0):eX (fun q=>Cq.inW k W q=true) m H (hMo k m H W).1 (hMo k m H W).2.1∧(hMo k m H W).2.1.W=W∧(hMo k m H W).1.ss.length≤m.ss.length+3 * H.T.length:=by
 unfold hMo at hw ⊢;by_cases e:Cq.frI k m.has W<mvN k W H.T
 ·rw[if_pos e] at hw;exact absurd (show(13:Int)=0 from hw) (by decide)
 rw[if_neg e];have h1:HpOk (fun _=>True) m ⟨H.W,H.T,H.L,H.ln⟩:=h.weak fun _ _ _=>trivial
 obtain⟨i1,i2,i3,i4,i5,i6,i7,i8⟩:=fy (C:=fun _=>True) (k:=k) (W:=W) (fun _ _=>trivial) (H.T.map Prod.fst) m H.T H.L H.W H.ln h1 ok (ji h.tp.tb) (fun v hv=>by
  obtain⟨y,hy,rfl⟩:=List.mem_map.1 hv;rw[aO (v:=y.1) (p:=y.2) h.tp.tb hy];have:=(h.tp.tk y hy).1;omega) (by rw[←pI h.tp.tb];omega)
 rw[List.length_map] at i8;refine⟨⟨?_,i2,i3,i4⟩,rfl,i8⟩;have h2:HpOk (fun q=>Cq.inW k W q=true) _ ⟨H.W,_,_,H.ln⟩:=i1.weak fun y hy _=>by
  have h3:y.1∈H.T.map Prod.fst:=by rw[←i5];exact List.mem_map.2 ⟨y,hy,rfl⟩
  have:=i6 _ h3;rw[aO (v:=y.1) (p:=y.2) i1.tp.tb hy] at this;exact this
 exact⟨h2.tp,h2.nd,h2.at_,h2.dom,h2.cov,h2.sm,h2.ln⟩
end
end Go.Proofs.YtndhbnhobhkmaaaGreatDoor
namespace Go.Proofs.YtndhbnhobhkmaaaGreatDoor.An
open Go.RowKit
end Go.Proofs.YtndhbnhobhkmaaaGreatDoor.An
namespace Go.Proofs.YtndhbnhobhkmaaaGreatDoor
open Go.RowKit
open An
def Am(T:TypeId)(a:Nat)(bs:List UInt8)(ss:List Sp)(w:World)(Z:Nat→Prop):Prop:=
 ∃B b v,Ar w T B a b bs v ss∧(Z a∧Z b∧∀y,v.ownBlock=some y→Z y)∧∀i,Z i→i<w.heap.size
section
variable{w w':World}{T:TypeId}{a:Nat}{Z:Nat→Prop}{bs bs':List UInt8}{ss ss':List Sp}
theorem Am.good(T:TypeId)(a:Nat)(bs:List UInt8)(ss:List Sp):Good (Am T a bs ss):=
 ⟨fun⟨B,b,v,h,⟨h1,h2,h3⟩,h4⟩ f hs=>⟨B,b,v,h.carry f (hs _ h1) (hs _ h2) (fun x e=>hs _ (h3 x e)),⟨h1,h2,h3⟩,fun i hi=>Nat.lt_of_lt_of_le (h4 i hi) f.size⟩,
  fun⟨B,b,v,h,⟨h1,h2,h3⟩,_⟩ k1 k2=>⟨B,b,v,h,⟨k1 _ h1,k1 _ h2,fun x e=>k1 _ (h3 x e)⟩,k2⟩⟩
theorem Am.kept(h:Am T a bs ss w Z)(f:Fr (fun _=>False) w w'):Am T a bs ss w' Z:=(Am.good T a bs ss).kept h f
theorem Am.lt(h:Am T a bs ss w Z):∀i,Z i→i<w.heap.size:=by obtain⟨_,_,_,_,_,h⟩:=h;exact h
theorem Am.le(h:Am T a bs ss w Z):bs.length≤2097152:=by obtain⟨_,_,_,h,_⟩:=h;exact h.le
theorem Am.aU{B b:Nat}{v:Value}(h1:Z a∧Z b∧∀y,v.ownBlock=some y→Z y)(h2:∀i,Z i→i<w.heap.size)(hn:aY w w' T B a b bs' v ss'):∃Z',Am T a bs' ss' w' Z'∧Gw w w' Z Z':=by
 obtain⟨v',h',f',hv⟩:=hn;have hlt:∀i,(Z i∨v'.ownBlock=some i)→i<w'.heap.size:=fun i hi=>by
  rcases hi with hi|hi
  ·exact Nat.lt_of_lt_of_le (h2 i hi) f'.size
  ·exact(h'.own i hi).2
 refine⟨fun i=>Z i∨v'.ownBlock=some i,⟨B,b,v',h',⟨.inl h1.1,.inl h1.2.1,fun y e=>.inr e⟩,hlt⟩,⟨fun _=>.inl,fun i hi=> ?_,hlt,f'.mono fun i _ e=> ?_⟩⟩
 ·rcases hi with hi|hi
  ·exact .inl hi
  ·rcases hv i hi with e|e
   ·exact .inl (h1.2.2 i e)
   ·exact .inr e
 ·rcases e with rfl|rfl|e
  ·exact h1.1
  ·exact h1.2.1
  ·exact h1.2.2 i e
theorem am_new(n:Nat)(w:World)(h:n≤2097152):Calls Tryz.prog 24 #[.int .i64 n] w fun e w'=>∃a Z,e=.returned (.tuple #[.pointer (some ⟨a,0,none⟩),.int .i64 0])∧Am 111 a (List.replicate n 0) [] w' Z∧(∀i,Z i→w.heap.size≤i)∧Fr (fun _=>False) w w':=
 (ie n w h).mono fun e w' ⟨he,har,hf,hz⟩=>⟨_,fun i=>i=w.heap.size+1∨i=w.heap.size,he,⟨_,_,_,har,⟨.inl rfl,.inr rfl,fun y e=>by cases e⟩,fun i hi=>by omega⟩,fun i hi=>by omega,hf⟩
theorem vt(h:Am 111 a bs ss w Z)(p:Nat)(hin:p+8≤bs.length)(hk:ss.length≤1000000):Calls Tryz.prog 252 #[.pointer (some ⟨a,0,none⟩),.int .i64 p] w fun e w'=>e=.returned (.tuple #[.int .u64 (word ((bs.drop p).take 8):Int),.int .i64 0])∧∃Z',Am 111 a bs (ss++[((p:Int),(8:Int),false)]) w' Z'∧Gw w w' Z Z':=by
 obtain⟨B,b,v,h,h1,h2⟩:=h;exact(AR h p hin hk).mono fun e w' ⟨he,hn⟩=>⟨he,Am.aU h1 h2 hn⟩
theorem qp(h:Am 111 a bs ss w Z)(p u:Nat)(hu:u<18446744073709551616)(hin:p+8≤bs.length)(hk:ss.length≤1000000):Calls Tryz.prog 245 #[.pointer (some ⟨a,0,none⟩),.int .i64 p,.int .u64 u] w fun e w'=>e=.returned (.int .i64 0)∧∃Z',Am 111 a (over bs p (leb u 8)) (ss++[((p:Int),(8:Int),true)]) w' Z'∧Gw w w' Z Z':=by
 obtain⟨B,b,v,h,h1,h2⟩:=h;exact(vU h p u hu hin hk).mono fun e w' ⟨he,hn⟩=>⟨he,Am.aU h1 h2 hn⟩
theorem Cs(h:Am 111 a bs ss w Z)(p m:Nat)(hin:p+m≤bs.length)(hk:ss.length≤1000000):Calls Tryz.prog 73 #[.pointer (some ⟨a,0,none⟩),.int .i64 p,.int .i64 m] w fun e w'=>e=.returned (.tuple #[.string ⟨((bs.drop p).take m).toArray⟩,.int .i64 0])∧∃Z',Am 111 a bs (aU ss p m false) w' Z'∧Gw w w' Z Z':=by
 obtain⟨B,b,v,h,h1,h2⟩:=h;exact(Al h p m hin hk).mono fun e w' ⟨he,hn⟩=>⟨he,Am.aU h1 h2 hn⟩
theorem kP(h:Am 111 a bs ss w Z):Calls Tryz.prog 114 #[.pointer (some ⟨a,0,none⟩)] w fun e w'=>e=.returned (.int .i64 bs.length)∧w'=w:=by
 obtain⟨B,b,v,h,h1,h2⟩:=h;exact jJ h
end
structure qq(Q:World→Nat→Nat→Ck→Prop):Prop where
 carry:∀{w w':World} {c a:Nat} {k:Ck} {S:Nat→Prop},Q w c a k→Fr S w w'→¬S c→Q w' c a k
 lt:∀{w:World} {c a:Nat} {k:Ck},Q w c a k→c<w.heap.size
section
variable{T:TypeId}{Q:World→Nat→Nat→Ck→Prop}{a:Nat}{bs bs':List UInt8}{ss ss':List Sp}{L L':List (Nat×Ck)}{w w':World}{U Z Z':Nat→Prop}
end
structure Left(T:TypeId)(Q:World→Nat→Nat→Ck→Prop)(w:World)(c a:Nat)(Z:Nat→Prop)(bs':List UInt8)(ss':List Sp)(k':Ck)(Z':Nat→Prop)(w':World):Prop where
 am:Am T a bs' ss' w' Z'
 q:Q w' c a k'
 new:∀i,Z' i→Z i∨w.heap.size≤i
 nz:¬Z' c
 fr:Fr (fun i=>i=c∨Z i) w w'
section
variable{T:TypeId}{Q:World→Nat→Nat→Ck→Prop}{w w' w1:World}{c a:Nat}{k k':Ck}{Z Z':Nat→Prop}{bs bs':List UInt8}{ss ss':List Sp}
theorem Left.vq(hQ:qq Q)(q:Q w c a k)(hn:¬Z c)(h:Am T a bs' ss' w' Z')(g:Gw w w' Z Z'):Left T Q w c a Z bs' ss' k Z' w':=⟨h,hQ.carry q g.fr hn,g.new,fun e=>by
 have hc:=hQ.lt q;rcases g.new c e with e|e
 ·exact hn e
 ·omega,g.fr.mono fun _ _ e=>.inr e⟩
theorem Left.chain(h:Left T Q w c a Z bs' ss' k Z' w1)(f:Fr (fun i=>i=c) w1 w')(q:Q w' c a k'):Left T Q w c a Z bs' ss' k' Z' w':=⟨(Am.good T a bs' ss').carry h.am f fun _ hi e=>h.nz (e▸hi),q,h.new,h.nz,h.fr.trans (f.mono fun _ _ e=>.inl e)⟩
theorem Left.set(h:Left T Q w c a Z bs' ss' k Z' w1){j:Nat}{u:Value}(q:Q (w1.setCell ⟨c,j,none⟩ u) c a k'):Left T Q w c a Z bs' ss' k' Z' (w1.setCell ⟨c,j,none⟩ u):=h.chain (Fr.setCell (S:=fun i=>i=c) (p:=⟨c,j,none⟩) (Fr.refl _ _) rfl _) q
theorem Left.own(h:Am T a bs ss w Z)(nz:¬Z c)(q:Q w' c a k')(f:Fr (fun i=>i=c) w w'):Left T Q w c a Z bs ss k' Z w':=⟨(Am.good T a bs ss).carry h f fun _ hi e=>nz (e▸hi),q,fun _=>.inl,nz,f.mono fun _ _ e=>.inl e⟩
theorem Left.arena2(hQ:qq Q)(h:Left T Q w c a Z bs ss k Z' w1){Z2:Nat→Prop}(h2:Am T a bs' ss' w' Z2)(g:Gw w1 w' Z' Z2):Left T Q w c a Z bs' ss' k Z2 w':=⟨h2,hQ.carry h.q g.fr h.nz,fun i hi=>by
 rcases g.new i hi with e|e
 ·exact h.new i e
 ·exact .inr (Nat.le_trans h.fr.size e),fun e=>by
 rcases g.new c e with e|e
 ·exact h.nz e
 ·have:=hQ.lt h.q;omega,Fr.trans' h.fr g.fr fun i hi e=>by
 rcases h.new i e with e|e
 ·exact .inr e
 ·omega⟩
theorem Left.ahead(h:Left T Q w1 c a Z bs' ss' k' Z' w')(f:Fr (fun _=>False) w w1):Left T Q w c a Z bs' ss' k' Z' w':=⟨h.am,h.q,fun i hi=>by
 rcases h.new i hi with e|e
 ·exact .inl e
 ·exact .inr (Nat.le_trans f.size e),h.nz,Fr.trans' (f.mono fun _ _ e=>e.elim) h.fr fun _ _ e=>e⟩
theorem Left.kept(hQ:qq Q)(h:Left T Q w c a Z bs ss k Z' w1)(f:Fr (fun _=>False) w1 w'):Left T Q w c a Z bs ss k Z' w':=⟨h.am.kept f,hQ.carry h.q f id,h.new,h.nz,Fr.trans' h.fr f fun _ _ e=>e.elim⟩
end
section
variable{w w':World}{c a:Nat}{k:Ck}
end
end Go.Proofs.YtndhbnhobhkmaaaGreatDoor
namespace Go.Proofs.YtndhbnhobhkmaaaGreatDoor
open Go.RowKit
theorem pq{w:World}{ops:Array Oper}{rest:List Oper}{o:Oper}{a:Act}{Q:Exit→Act→World→Prop}(hgd:o.guard=none)(s x:Operand)
  (ho:o.op=.call { callee:=.builtin .append,args:=#[s,x],argTypes:=#[24,24] })
  (base:Nat)(y:Value)(ys:List Int)(z:Int)(hs:a.eval s=y)(hown:w.ownsRow base 3 1 y ys.length (ic ys))
  (B:Nat)(hx:a.eval x=.slice (some ⟨B,0,none⟩) 1 1)(hz:w.cell? ⟨B,0,none⟩=some (.int .i64 z))(hl:ys.length<100000)(hbase:base≤w.heap.size)
  (h:∀g cap w',w'.ownsRow base 3 1 (.slice (some ⟨g,0,none⟩) (ys.length+1) cap) (ys.length+1) (ic (ys++[z]))→w.grownBy w' y.ownBlock→(y.ownBlock=some g∨g=w.heap.size)→wpList Tryz.prog ops Q rest (a.put o.dst (.slice (some ⟨g,0,none⟩) (ys.length+1) cap)) w'):wpList Tryz.prog ops Q (o::rest) a w:=by
 obtain⟨i0,hi,hz0,hz1,hz2⟩:=info_parts Tryz.iy;refine aL hgd s x 24 ho base 3 i0 (.int .i64 0) 1 8 Tryz.underlying24 hi hz0 hz1 hz2 rfl (by decide) y ys.length (ic ys) hs hown ⟨B,0,none⟩ 1 1 (by decide) [.int .i64 z] hx rfl ?_ ?_ (by unfold maxLen;omega) (by omega) hbase ?_
 ·intro j u hj
  match j,hj with
  |0,hj=>simp at hj;subst hj;simpa [Addr.add] using hz
 ·intro u hu;simp at hu;subst hu;rfl
 ·intro g cap w' hown' hg hw;refine h g cap w' ?_ hg hw;rw[Br];exact hown'
end Go.Proofs.YtndhbnhobhkmaaaGreatDoor
namespace Go.Proofs.YtndhbnhobhkmaaaGreatDoor
open Go.RowKit
open An
section
variable{w:World}{a c:Nat}{Z:Nat→Prop}{bs:List UInt8}{ss:List Sp}{k:Ck}
theorem jy(x:Int)(h0: -9223372036854775808≤x)(h1:x≤9223372036854775807):IntKind.i64.wrap x=x:=by rw[IntKind.wrap_i64];omega
theorem qv(x:Int)(h0:0≤x)(h1:x≤18446744073709551615):IntKind.u64.wrap x=x:=by rw[IntKind.wrap_u64];omega
theorem Ck.Ok.reck{n:Nat}(h:k.Ok n)(hn:n≤2097152){x:Nat}(hx:x<k.per):IntKind.i64.wrap ((x:Int) * (k.unit:Int))=((x * k.unit:Nat):Int)∧IntKind.i64.wrap ((k.base:Int)+((x * k.unit:Nat):Int))=(k.pos x:Int):=by
 have h1:=h.at hx;unfold Ck.pos at h1 ⊢;generalize e:x * k.unit=m at *;rw[←Int.natCast_mul,e,jy _ (by omega) (by omega),jy _ (by omega) (by omega)];exact⟨rfl,by omega⟩
end
section
variable{w:World}{a c:Nat}{Z:Nat→Prop}{bs:List UInt8}{ss:List Sp}{k:Ck}
end
def Both(P Q:World→(Nat→Prop)→Prop)(w:World)(U:Nat→Prop):Prop:=∃Z Y,P w Z∧Q w Y∧(∀i,Z i→¬Y i)∧(∀i,Z i→U i)∧(∀i,Y i→U i)∧∀i,U i→i<w.heap.size
theorem Both.good{P Q:World→(Nat→Prop)→Prop}(hP:Good P)(hQ:Good Q):Good (Both P Q):=
 ⟨fun⟨Z,Y,h1,h2,h3,h4,h5,h6⟩ f hs=>⟨Z,Y,hP.carry h1 f fun i hi=>hs i (h4 i hi),hQ.carry h2 f fun i hi=>hs i (h5 i hi),h3,h4,h5,fun i hi=>Nat.lt_of_lt_of_le (h6 i hi) f.size⟩,
  fun⟨Z,Y,h1,h2,h3,h4,h5,_⟩ k1 k2=>⟨Z,Y,h1,h2,h3,fun i hi=>k1 i (h4 i hi),fun i hi=>k1 i (h5 i hi),k2⟩⟩
section
variable{w w':World}{p r rd wt:Nat}{at_ of_ fresh:Int}{hd:List Bool}
end
end Go.Proofs.YtndhbnhobhkmaaaGreatDoor
namespace Go.Proofs.YtndhbnhobhkmaaaGreatDoor
open Go.RowKit
section
variable{P Q R P' Q':World→(Nat→Prop)→Prop}{w w':World}{U V':Nat→Prop}
theorem Both.swap(h:Both P Q w U):Both Q P w U:=by
 obtain⟨Z,Y,h1,h2,h3,h4,h5,h6⟩:=h;exact⟨Y,Z,h2,h1,fun i a b=>h3 i b a,h5,h4,h6⟩
theorem Both.lt(h:Both P Q w U):∀i,U i→i<w.heap.size:=by obtain⟨Z,Y,_,_,_,_,_,h6⟩:=h;exact h6
theorem Both.imp(h:Both P Q w U)(hq:∀Y,Q w Y→Q' w Y):Both P Q' w U:=by
 obtain⟨Z,Y,h1,h2,h3⟩:=h;exact⟨Z,Y,h1,hq Y h2,h3⟩
theorem Both.rest(h:Both P (Both Q R) w U)(hR:Good R):∃V,Both P Q w V∧(∀i,V i→U i)∧∀{P' Q':World→(Nat→Prop)→Prop} {w':World} {V':Nat→Prop},Both P' Q' w' V'→Gw w w' V V'→∃U',Both P' (Both Q' R) w' U'∧Gw w w' U U':=by
 obtain⟨Z,Y,h1,⟨Z2,Y2,g1,g2,g3,g4,g5,g6⟩,h3,h4,h5,h6⟩:=h;refine⟨fun i=>Z i∨Z2 i,⟨Z,Z2,h1,g1,fun i a b=>h3 i a (g4 i b),fun i a=>.inl a,fun i a=>.inr a,fun i a=>a.elim (fun a=>h6 i (h4 i a)) fun a=>h6 i (h5 i (g4 i a))⟩,fun i a=>a.elim (h4 i) fun a=>h5 i (g4 i a),?_⟩;rintro P' Q' w' V' ⟨Z',Y',k1,k2,k3,k4,k5,k6⟩ g;have hr:∀i,Y2 i→¬(Z i∨Z2 i):=fun i a b=>b.elim (fun b=>h3 i b (g5 i a)) fun b=>g3 i b a
 have hR':R w' Y2:=hR.carry g2 g.fr fun i a=>hr i a
 have hs:=g.fr.size;have hold:∀i,Y2 i→i<w.heap.size:=fun i a=>h6 i (h5 i (g5 i a))
 have hnv:∀i,V' i→¬Y2 i:=fun i a b=>by
  rcases g.new i a with e|e
  ·exact hr i b e
  ·have:=hold i b;omega
 refine⟨fun i=>V' i∨U i,⟨Z',fun i=>Y' i∨Y2 i,k1,⟨Y',Y2,k2,hR',fun i a b=>hnv i (k5 i a) b,fun i a=>.inl a,fun i a=>.inr a,fun i a=>a.elim (fun a=>k6 i (k5 i a)) fun a=>Nat.lt_of_lt_of_le (hold i a) hs⟩,fun i a b=>b.elim (k3 i a) (hnv i (k4 i a)),fun i a=>.inl (k4 i a),fun i a=>a.elim (fun a=>.inl (k5 i a)) fun a=>.inr (h5 i (g5 i a)),fun i a=>a.elim (k6 i) fun a=>Nat.lt_of_lt_of_le (h6 i a) hs⟩,⟨fun i a=>.inr a,fun i a=> ?_,fun i a=>a.elim (k6 i) fun a=>Nat.lt_of_lt_of_le (h6 i a) hs,g.fr.mono fun i _ a=>a.elim (h4 i) fun a=>h5 i (g4 i a)⟩⟩;rcases a with a|a
 ·rcases g.new i a with e|e
  ·exact .inl (e.elim (h4 i) fun e=>h5 i (g4 i e))
  ·exact .inr e
 ·exact .inl a
theorem Both.snd(h:Both P Q w U):∃Y,Q w Y∧∀i,Y i→U i:=by obtain⟨Z,Y,_,h2,_,_,h5,_⟩:=h;exact⟨Y,h2,h5⟩
theorem Both.fst'(h:Both P Q w U):∃Z,P w Z∧∀i,Z i→U i:=by obtain⟨Z,Y,h1,_,_,h4,_⟩:=h;exact⟨Z,h1,h4⟩
theorem Both.left(h:Both P Q w U)(hQ:Good Q):∃Z,P w Z∧(∀i,Z i→U i)∧∀{P':World→(Nat→Prop)→Prop} {w':World} {Z':Nat→Prop},P' w' Z'→Gw w w' Z Z'→∃U',Both P' Q w' U'∧Gw w w' U U':=by
 obtain⟨Z,Y,h1,h2,h3,h4,h5,h6⟩:=h;refine⟨Z,h1,h4,fun{P' w' Z'} k1 g=> ?_⟩;have hs:=g.fr.size;refine⟨fun i=>Z' i∨U i,⟨Z',Y,k1,hQ.carry h2 g.fr fun i a b=>h3 i b a,fun i a b=> ?_,fun i a=>.inl a,fun i a=>.inr (h5 i a),fun i a=>a.elim (g.lt i) fun a=>Nat.lt_of_lt_of_le (h6 i a) hs⟩,⟨fun i a=>.inr a,fun i a=> ?_,fun i a=>a.elim (g.lt i) fun a=>Nat.lt_of_lt_of_le (h6 i a) hs,g.fr.mono fun i _=>h4 i⟩⟩
 ·rcases g.new i a with e|e
  ·exact h3 i e b
  ·have:=h6 i (h5 i b);omega
 ·rcases a with a|a
  ·rcases g.new i a with e|e
   ·exact .inl (h4 i e)
   ·exact .inr e
  ·exact .inl a
end
theorem aa.cells{W w:World}{ts:List (World→(Nat→Prop)→Prop)}(h:aa W w ts)(j:Nat){B:Nat}{ob:Obj}(hj:ts[j]? =some (Blk B ob)):w.heap[B]? =some ob:=by
 obtain⟨U,h1,_⟩:=h.get j hj;exact h1.1
theorem aa.setAt{W w:World}{ts:List (World→(Nat→Prop)→Prop)}(h:aa W w ts)(j:Nat){B:Nat}{cs:Array Value}{T:TypeId}(hj:ts[j]? =some (Blk B (.cells cs T (0,0))))(i:Nat)(v:Value):aa W (w.setCell ⟨B,i,none⟩ v) (ts.set j (Blk B (.cells (cs.setIfInBounds i v) T (0,0)))):=by
 obtain⟨U,h1,_,h2⟩:=h.turn j hj;have f:Fr U w (w.setCell ⟨B,i,none⟩ v):=Fr.setCell (p:=⟨B,i,none⟩) (Fr.refl _ _) h1.2.1 v;refine h2 _ _ U (Blk.good _ _) ⟨?_,h1.2.1,fun i hi=>Nat.lt_of_lt_of_le (h1.2.2 i hi) f.size⟩ (Gw.same h1.2.2 f);simp[World.setCell,Array.getElem?_modify,h1.1]
theorem aa.blk{W w:World}{ts:List (World→(Nat→Prop)→Prop)}(h:aa W w ts)(ob:Obj):aa W (w.alloc ob) (ts++[Blk w.heap.size ob]):=h.more (Blk.good _ _) (Blk.new w ob) ((Fr.refl _ _).alloc _) fun i hi=>by simp only[World.size_alloc];omega
def Bare(w:World):World:={ w with heap:=#[] }
theorem Bare.nw(w:World):Nw (Bare w) w:=⟨rfl,rfl,rfl,Nat.zero_le _,fun i hi=>by simp[Bare] at hi⟩
def Old(w:World)(Z:Nat→Prop)(w':World)(U:Nat→Prop):Prop:=w.heap.size≤w'.heap.size∧(∀i,i<w.heap.size→¬Z i→U i∧w'.heap[i]? =w.heap[i]?)∧∀i,U i→i<w'.heap.size
theorem Old.good(w:World)(Z:Nat→Prop):Good (Old w Z):=
 ⟨fun⟨h0,h1,h2⟩ f hs=>⟨Nat.le_trans h0 f.size,fun i hi hn=>⟨(h1 i hi hn).1,(f.block i (h2 i (h1 i hi hn).1) (hs i (h1 i hi hn).1)).trans (h1 i hi hn).2⟩,fun i hi=>Nat.lt_of_lt_of_le (h2 i hi) f.size⟩,
  fun⟨h0,h1,_⟩ k1 k2=>⟨h0,fun i hi hn=>⟨k1 i (h1 i hi hn).1,(h1 i hi hn).2⟩,k2⟩⟩
theorem aa.begin{w:World}{P:World→(Nat→Prop)→Prop}{Z:Nat→Prop}(hP:Good P)(hp:P w Z)(hz:∀i,Z i→i<w.heap.size):aa (Bare w) w [P,Old w Z]:=by
 classical
 refine⟨fun i=>if Z i then 1 else if i<w.heap.size then 2 else 0,⟨Bare.nw w,fun i hi=>⟨Nat.zero_le _,?_⟩⟩,fun i=> ?_,fun R hR=> ?_,fun j R hj=> ?_⟩
 ·by_cases h1:Z i
  ·exact hz i h1
  ·by_cases h2:i<w.heap.size
   ·exact h2
   ·simp[h1,h2] at hi
 ·show(if Z i then 1 else if i<w.heap.size then 2 else 0)≤2;split
  ·omega
  ·split<;>omega
 ·simp only[List.mem_cons,List.not_mem_nil,or_false] at hR;rcases hR with rfl|rfl
  ·exact hP
  ·exact Old.good w Z
 ·rcases j with _|_|j
  ·simp only[List.getElem?_cons_zero,Option.some.injEq] at hj;subst hj;refine hP.mono hp (fun i hi=>by simp[lab,hi]) fun i hi=> ?_
   by_cases h1:Z i
   ·exact hz i h1
   ·exfalso;simp only[lab,if_neg h1] at hi;split at hi<;>omega
  ·simp only[Nat.zero_add,List.getElem?_cons_succ,List.getElem?_cons_zero,Option.some.injEq] at hj;subst hj;refine⟨Nat.le_refl _,fun i hi hn=>⟨by simp[lab,hi,hn],rfl⟩,fun i hi=> ?_⟩;by_cases h1:Z i
   ·exact hz i h1
   ·by_cases h2:i<w.heap.size
    ·exact h2
    ·simp[lab,h1,h2] at hi
  ·simp at hj
theorem aa.finish{w w':World}{P:World→(Nat→Prop)→Prop}{Z:Nat→Prop}{ts:List (World→(Nat→Prop)→Prop)}(h:aa (Bare w) w' (P::Old w Z::ts))(hz:∀i,Z i→i<w.heap.size):∃Z',P w' Z'∧Gw w w' Z Z':=by
 obtain⟨o,h1,h2,h3,h4⟩:=h;have hP:=h4 0 P rfl;obtain⟨s1,s2,s3⟩:=h4 1 _ rfl;have hg:=h3 P (List.mem_cons_self ..);have hlt:∀i,(lab o 1 i∨Z i)→i<w'.heap.size:=fun i hi=>by
  rcases hi with hi|hi
  ·exact h1.lt (j:=1) (by omega) i hi
  ·exact Nat.lt_of_lt_of_le (hz i hi) s1
 refine⟨fun i=>lab o 1 i∨Z i,hg.mono hP (fun _=>.inl) hlt,⟨fun _=>.inr,fun i hi=> ?_,hlt,⟨h1.nw.os,h1.nw.tape,h1.nw.output,s1,fun i hi hn=>(s2 i hi hn).2⟩⟩⟩;rcases hi with hi|hi
 ·by_cases h5:i<w.heap.size
  ·by_cases h6:Z i
   ·exact .inl h6
   ·have e2:=(s2 i h5 h6).1;unfold lab at hi e2;omega
  ·exact .inr (by omega)
 ·exact .inl hi
end Go.Proofs.YtndhbnhobhkmaaaGreatDoor
