/-
  Which blocks are had: mathematics.
  Blocks stay as their owners wrote them: mathematics.
  What a part of a block's bytes being written leaves of a heap: the same as if the whole block were written, with its other bytes as they were.
  What a tenant's calls leave: the mathematics of one that keeps its word.
-/
import Derived.Test.YtndhbnhobhkmaaaGreatDoorHpView
namespace Go.Proofs.YtndhbnhobhkmaaaGreatDoor
open Go.RowKit
open An
def HadB(L:List Hd)(c s j:Nat):Prop:=∃x∈L,x.kind=c∧x.slot=s∧(c≤7→x.pg.Had j)∧j<(nuI c).toNat
section
variable{C:Nat→Prop}{k:Nat}{M:Ms}{H:Hp}{L:List Hd}{c s j:Nat}
theorem eu(h:c≤7):(nuI c).toNat=pp c:=by
 obtain⟨_,k2,_,_,k5⟩:=ai c h;unfold nuI;rw[k5,if_neg (by omega)];simp
theorem pD(h:8≤c)(h2:c≤23):(nuI c).toNat=1:=by
 have:∀c:Fin 24,8≤(c:Nat)→(nuI c).toNat=1:=by decide
 exact this ⟨c,by omega⟩ h
theorem HadB.there(h:HpOk C M H)(hb:HadB H.L c s j):PlT c s j∧c≤23∧s<sn c:=by
 obtain⟨x,hx,rfl,rfl,_,hj⟩:=hb;obtain⟨c1,c2⟩:=h.at_ x hx;obtain⟨_,_,_,_,p5,_⟩:=aj c1;have f3:=(bf (c:=x.kind) (by omega) (by omega)).2.2.1;exact⟨⟨by omega,by rw[p5];omega,by omega,by omega⟩,c1,c2⟩
theorem Pg.Ok.xA{g:Pg}{bs:List UInt8}(h:g.Ok bs){i:Nat}(hi:g.Had i):0<g.used:=by
 have:=aE g.fresh (i::(g.R++g.D)) (List.nodup_cons.2 ⟨fun e=>(List.mem_append.1 e).elim hi.2.1 hi.2.2,h.nd⟩) fun x hx=>by
  rcases List.mem_cons.1 hx with rfl|e
  ·exact hi.1
  ·exact h.lt x e
 rw[List.length_cons,List.length_append] at this;unfold Pg.used;omega
theorem hF_had(h:HpOk C M H)(hb:HadB H.L c s j):(hF M H c s j).2.2=0∧∀c' s' j',HadB (hF M H c s j).2.1.L c' s' j'↔HadB H.L c' s' j'∧¬(c'=c∧s'=s∧j'=j):=by
 obtain⟨x,hx,rfl,rfl,hh,hj⟩:=hb;obtain⟨c1,c2⟩:=h.at_ x hx;have hat:=fE h.nd hx;have hhad:hHad H.L x.kind x.slot j=some x:=by
  unfold hHad;rw[hat];dsimp only;rw[if_neg];rintro⟨h7,hn⟩;have hs:=h.sm x hx h7;exact hn ⟨⟨by omega,by rw[hs.kd,←eu h7];omega⟩,by simpa using hh h7⟩
 have hdel:∀c' s' j',HadB (hDel H.L x.kind x.slot) c' s' j'↔HadB H.L c' s' j'∧¬(c'=x.kind∧s'=x.slot):=fun c' s' j'=>by
  constructor
  ·rintro⟨y,hy,rfl,rfl,y3⟩;have:=aN.1 hy;exact⟨⟨y,this.1,rfl,rfl,y3⟩,this.2⟩
  ·rintro⟨⟨y,hy,rfl,rfl,y3⟩,hn⟩;exact⟨y,aN.2 ⟨hy,hn⟩,rfl,rfl,y3⟩
 unfold hF;rw[hhad];dsimp only;by_cases h8:8≤x.kind
 ·rw[if_pos h8];refine⟨rfl,fun c' s' j'=> ?_⟩;rw[hdel];refine⟨fun⟨a,b⟩=>⟨a,fun e=>b ⟨e.1,e.2.1⟩⟩,fun⟨a,b⟩=>⟨a,fun e=>b ⟨e.1,e.2,?_⟩⟩⟩;obtain⟨y,_,y1,_,_,y4⟩:=a;rw[e.1,pD h8 c1] at y4;rw[pD h8 c1] at hj;omega
 ·rw[if_neg h8];have h7:x.kind≤7:=by omega
  have hs:=h.sm x hx h7;have hm:x.pg.May j:=⟨⟨by omega,by rw[hs.kd,←eu h7];omega⟩,by simpa using hh h7⟩;have hpf:pfS x.pg j=⟨x.pg.base,x.pg.kind,x.pg.fresh,x.pg.R,j::x.pg.D⟩:=by unfold pfS;rw[if_pos hm];simp
  have hhd:∀i,(pfS x.pg j).Had i↔x.pg.Had i∧i≠j:=fun i=>by
   rw[hpf];unfold Pg.Had;simp only[List.mem_cons,not_or];exact⟨fun⟨a,b,d,e⟩=>⟨⟨a,b,e⟩,d⟩,fun⟨⟨a,b,e⟩,d⟩=>⟨a,b,d,e⟩⟩
  by_cases hu:(pfS x.pg j).used=0
  ·rw[if_pos hu];refine⟨rfl,fun c' s' j'=> ?_⟩;rw[hdel];refine⟨fun⟨a,b⟩=>⟨a,fun e=>b ⟨e.1,e.2.1⟩⟩,fun⟨a,b⟩=>⟨a,fun e=> ?_⟩⟩;obtain⟨y,hy,rfl,rfl,y3,y4⟩:=a;obtain rfl:=cH h.nd hy hx e.1 e.2;have hi:=(hhd j').2 ⟨y3 h7,fun e5=>b ⟨rfl,rfl,e5⟩⟩;have:=(hs.ok.free j).1.xA hi;omega
  ·rw[if_neg hu];refine⟨rfl,fun c' s' j'=> ?_⟩;constructor
   ·rintro⟨y,hy,rfl,rfl,y3,y4⟩;rcases(aV h.nd hx).1 hy with rfl|e
    ·have:=(hhd j').1 (y3 h7);exact⟨⟨x,hx,rfl,rfl,fun _=>this.1,y4⟩,fun e=>this.2 e.2.2⟩
    ·exact⟨⟨y,e.1,rfl,rfl,y3,y4⟩,fun e2=>e.2 ⟨e2.1,e2.2.1⟩⟩
   ·rintro⟨⟨y,hy,rfl,rfl,y3,y4⟩,hn⟩;by_cases e:y.kind=x.kind∧y.slot=x.slot
    ·obtain rfl:=cH h.nd hy hx e.1 e.2;exact⟨⟨y.kind,y.slot,pfS y.pg j⟩,(aV h.nd hx).2 (.inl rfl),rfl,rfl,fun h7=>(hhd j').2 ⟨y3 h7,fun e5=>hn ⟨rfl,rfl,e5⟩⟩,y4⟩
    ·exact⟨y,(aV h.nd hx).2 (.inr ⟨hy,e⟩),rfl,rfl,y3,y4⟩
theorem pX{g:Pg}{c' s' j':Nat}:HadB (L++[⟨c,s,g⟩]) c' s' j'↔HadB L c' s' j'∨(c'=c∧s'=s∧(c≤7→g.Had j')∧j'<(nuI c).toNat):=by
 constructor
 ·rintro⟨y,hy,rfl,rfl,y3,y4⟩;rcases List.mem_append.1 hy with e|e
  ·exact .inl ⟨y,e,rfl,rfl,y3,y4⟩
  ·simp only[List.mem_singleton] at e;subst e;exact .inr ⟨rfl,rfl,y3,y4⟩
 ·rintro(⟨y,hy,r⟩|⟨rfl,rfl,r3,r4⟩)
  ·exact⟨y,List.mem_append_left _ hy,r⟩
  ·exact⟨⟨c',s',g⟩,List.mem_append_right _ (List.mem_singleton.2 rfl),rfl,rfl,r3,r4⟩
structure Gave(C:Nat→Prop)(M:Ms)(H:Hp)(n:Int)(M':Ms)(H':Hp)(a:Int)(c s j:Nat):Prop where
 kd:ofI n=(c:Int)
 at_:a=adI c s j
 new:¬HadB H.L c s j
 had:∀c' s' j',HadB H'.L c' s' j'↔HadB H.L c' s' j'∨(c'=c∧s'=s∧j'=j)
 zero:∀i:Nat,i<(ah c).toNat→lb H'.T M'.bs (a+i)=0
theorem tS{T:Tb}{bs:List UInt8}{a:Int}{q:Nat}(hq:tbF T (a / 512)=(q:Int))(hw:win bs (q * 512)=nz 512):lb T bs a=0:=by
 unfold lb phys;rw[hq,show((q:Int) * 512+a % 512).toNat=q * 512+(a % 512).toNat by omega,←aZ bs (q * 512) _ (by omega),hw];exact lF _ _
theorem zv(h:HpOk C M H)(ok:MsOk M){n:Int}{r:Ms×Hp×Int×Int}(w:MWay C k M H n r):(r.2.2.2≠0∧r.1=M∧r.2.1=H∧r.2.2.1=0)∨(r.2.2.2=0∧∃c s j,Gave C M H n r.1 r.2.1 r.2.2.1 c s j):=by
 have hnone:∀{c s:Nat},¬Held H.L c s→∀j,¬HadB H.L c s j:=fun hn j ⟨y,hy,y1,y2,_⟩=>hn ⟨y,hy,y1,y2⟩
 rcases w with⟨_,rfl⟩|⟨_,rfl,_⟩|⟨c,hc,h8,s,m',H',g,f,rfl⟩|⟨c,hc,h7,hln,s,m',H',q,f,hm,hq,rfl⟩|⟨c,hc,h7,x,hx,rfl,hf,_,rfl⟩
 ·exact .inl ⟨by show(2:Int)≠0;decide,rfl,rfl,rfl⟩
 ·exact .inl ⟨by show(13:Int)≠0;decide,rfl,rfl,rfl⟩
 ·refine .inr ⟨rfl,c,s,0,hc,rfl,hnone f.free 0,fun c' s' j'=> ?_,fun i hi=> ?_⟩
  ·rw[f.eH,pX,pD h8 f.fc];constructor
   ·rintro(e|⟨e1,e2,_,e4⟩)
    ·exact .inl e
    ·exact .inr ⟨e1,e2,by omega⟩
   ·rintro(e|⟨e1,e2,e3⟩)
    ·exact .inl e
    ·exact .inr ⟨e1,e2,fun e=>by omega,by omega⟩
  ·obtain⟨t,ht,e⟩:=qn (x:=⟨c,s,g⟩) (j:=0) f.fc f.fs (by rw[pD h8 f.fc];omega) hi;have hg:=f.took.got t ht;have hm:=f.took.ok.tb.aQ hg;obtain⟨q,hq⟩:∃q:Nat,tbF H'.T (lo c s+t)=(q:Int):=⟨(tbF H'.T (lo c s+t)).toNat,by omega⟩;rw[hq] at hm;have hql:q<M.has.length:=by have:=f.took.ok.lt ⟨_,hm⟩;rw[f.took.len] at this;exact this
   have hqf:M.has.getD q true=false:=by
    rcases f.took.new _ hm with e5|e5
    ·exfalso;obtain⟨z,hz,i',hi',e6⟩:=h.dom _ e5;obtain⟨b1,b2⟩:=h.at_ z hz;have:=cE b1 b2 f.fc f.fs hi' ht e6.symm;exact f.free ⟨z,hz,this.1,this.2.1⟩
    ·simpa using e5.2
   rw[f.em];exact tS (q:=q) (by have e:(adI c s ((0:Nat):Int)+i) / 512=lo c s+t:=e;rw[show(adI (c:Int) (s:Int) 0+(i:Int))=adI c s ((0:Nat):Int)+i from rfl,e];exact hq) (ok.cl q hql hqf)
 ·obtain⟨_,⟨hp2,_⟩,_⟩:=ai c h7;have hfresh:∀j',Pg.Had ⟨q * 512,c,1,[],[]⟩ j'↔j'=0:=fun j'=>by unfold Pg.Had;simp
  refine .inr ⟨rfl,c,s,0,hc,rfl,hnone f.free 0,fun c' s' j'=> ?_,fun i hi=> ?_⟩
  ·rw[f.eH,pX,eu h7];constructor
   ·rintro(e|⟨e1,e2,e3,_⟩)
    ·exact .inl e
    ·exact .inr ⟨e1,e2,(hfresh j').1 (e3 h7)⟩
   ·rintro(e|⟨e1,e2,e3⟩)
    ·exact .inl e
    ·exact .inr ⟨e1,e2,fun _=>(hfresh j').2 e3,by omega⟩
  ·obtain⟨t,ht,e⟩:=qn (x:=⟨c,s,⟨0,0,0,[],[]⟩⟩) (j:=0) f.fc f.fs (by rw[eu h7];omega) hi;have hp1:pn c=1:=((aj f.fc).2.2.2.2.2 h7).1;have ht0:t=0:=by have ht:t<pn c:=ht;omega
   subst ht0;have hql:q<M.has.length:=by have:=f.took.ok.lt ⟨_,hm⟩;rw[f.took.len] at this;exact this
   rw[f.em];exact tS (q:=q) (by have e:(adI c s ((0:Nat):Int)+i) / 512=lo c s+((0:Nat):Int):=e;rw[show(adI (c:Int) (s:Int) 0+(i:Int))=adI c s ((0:Nat):Int)+i from rfl,e];simp only[Int.natCast_zero,Int.add_zero];exact aO f.took.ok.tb hm) (ok.cl q hql hq)
 ·have hs:=h.sm x hx h7;have hg:=hs.ok.given hs.cl hf;have hv:paV x.pg=(paK x.pg:Int):=if_neg hf;have hkd:=hs.kd;have hz:=hg.zero hs.cl hs.ok ⟨rfl,rfl,rfl⟩ hf;have hlt:paK x.pg<(nuI x.kind).toNat:=by rw[eu h7,←hkd];exact hg.lt
  refine .inr ⟨rfl,x.kind,x.slot,paK x.pg,hc,by show adI _ _ (paV x.pg)=_;rw[hv],fun⟨y,hy,y1,y2,y3,_⟩=> ?_,fun c' s' j'=> ?_,fun i hi=> ?_⟩
  ·obtain rfl:=cH h.nd hy hx y1 y2;exact hg.was (y3 h7)
  ·constructor
   ·rintro⟨y,hy,rfl,rfl,y3,y4⟩;rcases(aV h.nd hx).1 hy with rfl|e
    ·rcases(hg.had j').1 (y3 h7) with e|e
     ·exact .inl ⟨x,hx,rfl,rfl,fun _=>e,y4⟩
     ·exact .inr ⟨rfl,rfl,e⟩
    ·exact .inl ⟨y,e.1,rfl,rfl,y3,y4⟩
   ·rintro(⟨y,hy,rfl,rfl,y3,y4⟩|⟨rfl,rfl,rfl⟩)
    ·by_cases e:y.kind=x.kind∧y.slot=x.slot
     ·obtain rfl:=cH h.nd hy hx e.1 e.2;exact⟨⟨y.kind,y.slot,paS y.pg⟩,(aV h.nd hx).2 (.inl rfl),rfl,rfl,fun h7=>(hg.had j').2 (.inl (y3 h7)),y4⟩
     ·exact⟨y,(aV h.nd hx).2 (.inr ⟨hy,e⟩),rfl,rfl,y3,y4⟩
    ·exact⟨⟨x.kind,x.slot,paS x.pg⟩,(aV h.nd hx).2 (.inl rfl),rfl,rfl,fun _=>(hg.had _).2 (.inr rfl),hlt⟩
  ·show lb H.T (paB x.pg M.bs) (adI x.kind x.slot (paV x.pg)+i)=0
   have hi:i<pu x.kind:=hi;unfold lb;rw[hv,qD h hx h7 (by rw[←hkd];exact hg.lt) hi,Int.toNat_natCast,←gw x.pg (paB x.pg M.bs) (paK x.pg) i (by rw[hkd];exact hi),hz];exact lF _ _
end
section
variable{C:Nat→Prop}{k:Nat}{M M':Ms}{H:Hp}{T T':Tb}{bs bs':List UInt8}
theorem BF{L:List Hd}{v:Int}{b c s j:Nat}:HadB (hMv L v b) c s j↔HadB L c s j:=by
 have hhd:∀x:Hd,(mvd v b x).pg.Had j↔x.pg.Had j:=fun x=>by
  unfold mvd;split<;>exact Iff.rfl
 constructor
 ·rintro⟨y,hy,rfl,rfl,y3,y4⟩;obtain⟨x,hx,rfl⟩:=bF.1 hy;obtain⟨m1,m2,_⟩:=au (v:=v) b x;refine⟨x,hx,m1.symm,m2.symm,fun h7=>(hhd x).1 (y3 h7),y4⟩
 ·rintro⟨x,hx,rfl,rfl,x3,x4⟩;obtain⟨m1,m2,_⟩:=au (v:=v) b x;exact⟨mvd v b x,bF.2 ⟨x,hx,rfl⟩,m1,m2,fun h7=>(hhd x).2 (x3 h7),x4⟩
theorem lR{W:List Int}:∀(vs:List Int) (m:Ms) (T:Tb) (L:List Hd) {c s j:Nat},HadB (aw k W vs m T L).2.2 c s j↔HadB L c s j
 |[],_,_,_,_,_,_=>Iff.rfl
 |v::r,m,T,L,c,s,j=>by
  unfold aw;rw[lR r];unfold dE;split
  ·exact Iff.rfl
  ·exact BF
theorem uD(W:List Int){c s j:Nat}:HadB (hMo k M H W).2.1.L c s j↔HadB H.L c s j:=by
 unfold hMo;split
 ·exact Iff.rfl
 ·exact lR _ _ _ _
end
def patch(o ds:List UInt8)(f:Nat):List UInt8:=o.take f++ds++o.drop (f+ds.length)
theorem fJ{o ds:List UInt8}{f:Nat}(h:f+ds.length≤o.length):(patch o ds f).length=o.length:=by
 unfold patch;simp only[List.length_append,List.length_take,List.length_drop];omega
theorem wD{o ds:List UInt8}{f i:Nat}(h:f+ds.length≤o.length)(h1:f≤i)(h2:i<f+ds.length):(patch o ds f)[i]? =ds[i - f]? :=by
 unfold patch;rw[List.append_assoc,List.getElem?_append_right (by simp;omega),List.getElem?_append_left (by simp;omega)];congr 1;simp only[List.length_take];omega
theorem th{o ds:List UInt8}{f i:Nat}(h:f+ds.length≤o.length)(h1:i<f∨f+ds.length≤i):(patch o ds f)[i]? =o[i]? :=by
 unfold patch;rcases h1 with h1|h1
 ·rw[List.append_assoc,List.getElem?_append_left (by simp;omega),List.getElem?_take_of_lt h1]
 ·rw[List.getElem?_append_right (by simp;omega),List.getElem?_drop];congr 1;simp only[List.length_append,List.length_take];omega
section
variable{T:Tb}{a:Int}{N n f m:Nat}{bs ds:List UInt8}
theorem aT.part(h:aT T N a n)(hm:f+m≤n):aT T N (a+f) m:=by
 have hw:InWt a n:=(fX h.ok.1).1;refine sJ ⟨by omega,by omega,by omega,by omega⟩ fun i hi=> ?_
 have:=h.at_ (f+i) (by omega);rw[show a+((f+i:Nat):Int)=a+f+i by omega] at this;exact⟨this.1,this.2.2⟩
theorem aT.here(h:aT T bs.length a n)(ok:TbOk T)(hd:ds.length=n){i:Nat}(hi:i<n):lb T (vwB T bs a ds) (a+i)=ds[i]:=by
 have hs:=h.same ok hd;have h2:((List.range n).map fun i:Nat=>lb T (vwB T bs a ds) (a+i))[i]? =ds[i]? :=by rw[hs]
 rw[List.getElem?_map,List.getElem?_range hi,List.getElem?_eq_getElem (by omega)] at h2;exact Option.some.inj h2
theorem aT.Cp(h:aT T bs.length a n){i:Nat}(hi:i<n){q:Nat}(e:(q:Int)=phys T (a+i)):bs[q]? =some (lb T bs (a+i)):=by
 have h1:=(h.at_ i hi).2.2;unfold lb;rw[←e,Int.toNat_natCast,List.getElem?_eq_getElem (by omega)];rfl
theorem qt(h:aT T bs.length a n)(ok:TbOk T)(hf:f+ds.length≤n):vwB T bs (a+f) ds=vwB T bs a (patch ((List.range n).map fun i:Nat=>lb T bs (a+i)) ds f):=by
 have hp:=h.part (f:=f) (m:=ds.length) hf;have hlo:((List.range n).map fun i:Nat=>lb T bs (a+i)).length=n:=by simp
 have hlp:=fJ (o:=(List.range n).map fun i:Nat=>lb T bs (a+i)) (ds:=ds) (f:=f) (by rw[hlo];exact hf);rw[hlo] at hlp;have l1:=hp.wlen ok rfl;have l2:=h.wlen ok hlp;apply List.ext_getElem?;intro q;by_cases hq:∃i:Nat,i<n∧(q:Int)=phys T (a+i)
 ·obtain⟨i,hi,e⟩:=hq;have h2:aT T (vwB T bs a (patch ((List.range n).map fun i:Nat=>lb T bs (a+i)) ds f)).length a n:=by rw[l2];exact h
  rw[h2.Cp hi e,h.here ok hlp hi];by_cases hin:f≤i∧i<f+ds.length
  ·have e2:(q:Int)=phys T (a+f+((i - f:Nat):Int)):=by rw[e];congr 1;omega
   have h3:aT T (vwB T bs (a+f) ds).length (a+f) ds.length:=by rw[l1];exact hp
   rw[h3.Cp (by omega) e2,hp.here ok rfl (by omega)];have:=wD (o:=(List.range n).map fun i:Nat=>lb T bs (a+i)) (by rw[hlo];exact hf) hin.1 hin.2;rw[List.getElem?_eq_getElem (by omega),List.getElem?_eq_getElem (by omega)] at this;exact this.symm
  ·rw[hp.far ok rfl q fun i' hi' e3=>hin ?_,h.Cp hi e]
   ·have:=th (o:=(List.range n).map fun i:Nat=>lb T bs (a+i)) (ds:=ds) (f:=f) (i:=i) (by rw[hlo];exact hf) (by omega);rw[List.getElem?_eq_getElem (by omega),List.getElem?_map,List.getElem?_range hi] at this;exact this.symm
   ·have:=wv ok (a:=a+i) (b:=a+f+i') (h.at_ i hi).1 (hp.at_ i' hi').1 (by omega);omega
 ·rw[hp.far ok rfl q fun i hi e=>hq ⟨f+i,by omega,by rw[e];congr 1;omega⟩,h.far ok hlp q fun i hi e=>hq ⟨i,hi,e⟩]
end
section
variable{C:Nat→Prop}{M:Ms}{H:Hp}{c s j f m k:Nat}{ds:List UInt8}
theorem HadB.seen(hb:HadB H.L c s j)(h:HpOk C M H)(ok:MsOk M):aT H.T M.bs.length (adI c s j) (ah c).toNat:=by
 obtain⟨x,hx,rfl,rfl,_,hj⟩:=hb;exact kJ h ok hx hj
theorem HpOk.rT(h:HpOk C M H)(ok:MsOk M)(hb:HadB H.L c s j)(hf:f+ds.length≤(ah c).toNat){ss':List Sp}:eX C M H ⟨M.has,vwB H.T M.bs (adI c s j+f) ds,ss'⟩ H:=by
 obtain⟨x,hx,rfl,rfl,hh,hj⟩:=hb;rw[qt (kJ h ok hx hj) h.tp.tb hf];exact h.write ok hx hj hh (by rw[fJ (by simpa using hf)];simp)
theorem mz{T:Tb}(ok:TbOk T)(N:Nat)(ss:List Sp)(x:Int){n:Int}(hn:n≤16384):(vrT T N ss x n).length≤ss.length+34∧(vwT T N ss x n).length≤ss.length+34:=by
 unfold vrT vwT;split
 ·rename_i hv;have:=(hv.apt ok).2.2.1;simp only[List.length_append,tch,List.length_map];omega
 ·omega
theorem Hc.wrote(h:Hc k M H)(hb:HadB H.L c s j)(hf:f+ds.length≤(ah c).toNat){ss':List Sp}(hs:ss'.length≤890000):Hc k ⟨M.has,vwB H.T M.bs (adI c s j+f) ds,ss'⟩ H:=by
 have l:=h.ok.rT h.ms hb hf (ss':=ss');exact⟨l.ok,l.ms,h.k1,h.k2,hs,h.W⟩
theorem Hc.notes(h:Hc k M H){ss':List Sp}(hs:ss'.length≤890000):Hc k ⟨M.has,M.bs,ss'⟩ H:=
 ⟨⟨⟨h.ok.tp.tb,h.ok.tp.tk⟩,h.ok.nd,h.ok.at_,h.ok.dom,h.ok.cov,h.ok.sm,h.ok.ln⟩,⟨h.ms.len,h.ms.cap,h.ms.cl⟩,h.k1,h.k2,hs,h.W⟩
theorem HadB.ans(hb:HadB H.L c s j)(h:HpOk C M H)(ok:MsOk M)(hf:f+m≤(ah c).toNat):vwE H.T M.bs.length (adI c s j+f) m=0∧vrV H.T M.bs (adI c s j+f) m=(((List.range (ah c).toNat).map fun i:Nat=>lb H.T M.bs (adI c s j+i)).drop f).take m:=by
 have hp:=(hb.seen h ok).part (f:=f) (m:=m) hf;refine⟨if_pos hp.ok,?_⟩;rw[hp.read];apply List.ext_getElem?;intro i;by_cases hi:i<m
 ·rw[List.getElem?_map,List.getElem?_range hi,List.getElem?_take_of_lt hi,List.getElem?_drop,List.getElem?_map,List.getElem?_range (by omega)];simp only[Option.map_some];congr 2;omega
 ·rw[List.getElem?_eq_none (by simp;omega),List.getElem?_eq_none (by simp;omega)]
end
structure Plain(s:Qt.QS):Prop where
 ok:s.Ok
 rb:s.rb=0
 rp:s.rp=0
 cp:s.cp=0
 lp:s.lp=0
def Qt.QS.chg(s:Qt.QS)(a:Int):Qt.QS:=⟨s.lb,s.lp,s.cb+a,s.cp,s.rb,s.rp⟩
section
variable{s:Qt.QS}{a:Int}{k:Nat}{S:TnS}{n:Int}
theorem Plain.res(h:Plain s):Qt.resE s a 0=(if s.cb+a≤s.lb then 0 else 3)∧Qt.resS s a 0=(if s.cb+a≤s.lb then⟨s.lb,s.lp,s.cb,s.cp,a,0⟩ else s):=by
 have e1:=h.rb;have e2:=h.rp;have e3:=h.cp;have e4:=h.lp;obtain⟨lb,lp,cb,cp,rb,rp⟩:=s;simp only at e1 e2 e3 e4;subst e1 e2 e3 e4;have hr:(⟨lb,0,cb,0,0,0⟩:Qt.QS).Room a 0↔cb+a≤lb:=by
  show(cb+0+a≤lb∧(0:Int)+0+0≤0)↔_;omega
 unfold Qt.resE Qt.resS;by_cases h2:cb+a≤lb
 ·rw[if_pos (hr.2 h2),if_pos (hr.2 h2),if_pos h2,if_pos h2];simp
 ·rw[if_neg fun e=>h2 (hr.1 e),if_neg fun e=>h2 (hr.1 e),if_neg h2,if_neg h2];simp
theorem Plain.com(h:Plain s):Qt.comE ⟨s.lb,s.lp,s.cb,s.cp,a,0⟩ a 0=0∧Qt.comS ⟨s.lb,s.lp,s.cb,s.cp,a,0⟩ a 0=s.chg a:=by
 have e1:=h.rb;have e2:=h.rp;have e3:=h.cp;have e4:=h.lp;obtain⟨lb,lp,cb,cp,rb,rp⟩:=s;simp only at e1 e2 e3 e4;subst e1 e2 e3 e4;unfold Qt.comE Qt.comS Qt.QS.chg;simp
theorem Plain.can(h:Plain s):Qt.canS ⟨s.lb,s.lp,s.cb,s.cp,a,0⟩ a 0=s:=by
 have e1:=h.rb;have e2:=h.rp;have e3:=h.cp;have e4:=h.lp;obtain⟨lb,lp,cb,cp,rb,rp⟩:=s;simp only at e1 e2 e3 e4;subst e1 e2 e3 e4;unfold Qt.canS;simp
theorem Plain.ref(h:Plain s)(ha:a≤s.cb):Qt.refS s a 0=s.chg (-a):=by
 have e1:=h.rb;have e2:=h.rp;have e3:=h.cp;have e4:=h.lp;obtain⟨lb,lp,cb,cp,rb,rp⟩:=s;simp only at e1 e2 e3 e4 ha;subst e1 e2 e3 e4;unfold Qt.refS Qt.QS.chg;rw[if_pos (show a≤cb∧(0:Int)≤0 from⟨ha,Int.le_refl _⟩)];simp only[Qt.QS.mk.injEq,Int.sub_zero,and_self,and_true,true_and];omega
theorem Plain.chg(h:Plain s)(h0:0≤s.cb+a)(h1:s.cb+a≤s.lb):Plain (s.chg a):=by
 have e1:=h.rb;have e2:=h.rp;have e3:=h.cp;have e4:=h.lp;have e5:=h.ok;obtain⟨lb,lp,cb,cp,rb,rp⟩:=s;simp only at e1 e2 e3 e4 h0 h1;subst e1 e2 e3 e4;exact⟨⟨e5.lim,h0,e5.cp0,e5.rb0,e5.rp0,by show cb+a+0≤lb;omega,e5.fp1⟩,rfl,rfl,rfl,rfl⟩
theorem Plain.new{q:Int}(h:May q):Plain (Qt.newQ (okA q 0) (okB q 0))∧(Qt.newQ (okA q 0) (okB q 0)).lb=q:=by
 have r:Rt q 0:=by unfold Rt;omega
 have h1:okA q 0=q:=if_pos r;have h2:okB q 0=0:=if_pos r;rw[h1,h2];exact⟨⟨Qt.tF r,rfl,rfl,rfl,rfl⟩,rfl⟩
def TnS.took(S:TnS)(M:Ms)(H:Hp)(a:Int):TnS:={ S with M:=M,H:=H,s:=S.s.chg a }
theorem tk_no(hp:Plain S.s)(hc:Hc k S.M S.H)(hE:tkE k S n≠0):tkS k S n=S∧(tkE k S n=2∧ofI n<0∨0≤ofI n∧tkE k S n=3∧S.s.lb<S.s.cb+ag n∨0≤ofI n∧tkE k S n=10∧S.s.cb+ag n≤S.s.lb∧(S.c.nx=17592186044416∨(hM k S.M S.H n).2.2.2≠0)):=by
 obtain⟨r1,r2⟩:=hp.res (a:=ag n);obtain⟨c1,c2⟩:=hp.com (a:=ag n);have r3:=hp.can (a:=ag n);by_cases h1:ofI n<0
 ·have e1:tkE k S n=2:=if_pos h1;exact⟨if_pos h1,.inl ⟨e1,h1⟩⟩
 ·have e1:tkE k S n=(if Qt.resE S.s (ag n) 0=0 then(if blE k (tk1 S n) n=0 then Qt.comE (Qt.resS S.s (ag n) 0) (ag n) 0 else blE k (tk1 S n) n) else Qt.resE S.s (ag n) 0):=if_neg h1;have e2:tkS k S n=(if Qt.resE S.s (ag n) 0=0 then(if blE k (tk1 S n) n=0 then{ blS k (tk1 S n) n with s:=Qt.comS (Qt.resS S.s (ag n) 0) (ag n) 0 } else{ blS k (tk1 S n) n with s:=Qt.canS (Qt.resS S.s (ag n) 0) (ag n) 0 }) else tk1 S n):=if_neg h1;by_cases h2:S.s.cb+ag n≤S.s.lb
  ·rw[if_pos h2] at r1 r2;rw[if_pos r1,r2] at e1 e2;by_cases h3:blE k (tk1 S n) n=0
   ·rw[if_pos h3,c1] at e1;exact(hE e1).elim
   ·rw[if_neg h3] at e1 e2;rw[r3] at e2;have hw:=zv hc.ok hc.ms (iB (fun _=>id) hc.ok hc.ms n);have hd:blE k (tk1 S n) n=10∧(S.c.nx=17592186044416∨(hM k S.M S.H n).2.2.2≠0)∧blS k (tk1 S n) n=tk1 S n:=by
     unfold blE at h3 ⊢;unfold blS;by_cases h4:(tk1 S n).c.nx=17592186044416
     ·rw[if_pos h4,if_pos h4];exact⟨rfl,.inl h4,rfl⟩
     ·rw[if_neg h4] at h3 ⊢;rw[if_neg h4];by_cases h5:(hM k S.M S.H n).2.2.2=0
      ·exact(h3 (if_pos h5)).elim
      ·refine⟨if_neg h5,.inr h5,?_⟩;rcases hw with⟨_,w1,w2,_⟩|⟨w0,_⟩
       ·show({ tk1 S n with M:=(hM k S.M S.H n).1,H:=(hM k S.M S.H n).2.1 }:TnS)=tk1 S n;rw[w1,w2];rfl
       ·exact(h5 w0).elim
    refine⟨?_,.inr (.inr ⟨by omega,by rw[e1];exact hd.1,h2,hd.2.1⟩)⟩;rw[e2,hd.2.2];rfl
  ·rw[if_neg h2] at r1 r2;rw[if_neg (by rw[r1];omega)] at e1 e2;refine⟨?_,.inr (.inl ⟨by omega,by rw[e1,r1],by omega⟩)⟩;rw[e2];unfold tk1;rw[r2]
theorem vQ(hp:Plain S.s)(hc:Hc k S.M S.H)(hE:tkE k S n=0):∃(c s j:Nat) (M':Ms) (H':Hp),hM k S.M S.H n=(M',H',adI c s j,0)∧Gave (fun q=>Cq.inW k S.H.W q=true) S.M S.H n M' H' (adI c s j) c s j∧tkV k S n=adI c s j∧tkS k S n=S.took M' H' (ag n)∧S.s.cb+ag n≤S.s.lb∧S.c.nx≠17592186044416∧0≤ofI n:=by
 obtain⟨r1,r2⟩:=hp.res (a:=ag n);obtain⟨c1,c2⟩:=hp.com (a:=ag n);by_cases h1:ofI n<0
 ·have e1:tkE k S n=2:=if_pos h1;omega
 ·have e1:tkE k S n=(if Qt.resE S.s (ag n) 0=0 then(if blE k (tk1 S n) n=0 then Qt.comE (Qt.resS S.s (ag n) 0) (ag n) 0 else blE k (tk1 S n) n) else Qt.resE S.s (ag n) 0):=if_neg h1;have e2:tkS k S n=(if Qt.resE S.s (ag n) 0=0 then(if blE k (tk1 S n) n=0 then{ blS k (tk1 S n) n with s:=Qt.comS (Qt.resS S.s (ag n) 0) (ag n) 0 } else{ blS k (tk1 S n) n with s:=Qt.canS (Qt.resS S.s (ag n) 0) (ag n) 0 }) else tk1 S n):=if_neg h1;have e3:tkV k S n=(if Qt.resE S.s (ag n) 0=0 then(if blE k (tk1 S n) n=0 then blV k (tk1 S n) n else 0) else 0):=if_neg h1;by_cases h2:S.s.cb+ag n≤S.s.lb
  ·rw[if_pos h2] at r1 r2;rw[if_pos r1,r2] at e1 e2;rw[if_pos r1] at e3;by_cases h3:blE k (tk1 S n) n=0
   ·rw[if_pos h3] at e2 e3;rw[c2] at e2;have h4:(tk1 S n).c.nx≠17592186044416:=fun e=>by
     unfold blE at h3;rw[if_pos e] at h3;omega
    have h5:(hM k S.M S.H n).2.2.2=0:=by
     unfold blE at h3;rw[if_neg h4] at h3;by_cases e:(hM k S.M S.H n).2.2.2=0
     ·exact e
     ·have:(if(hM k S.M S.H n).2.2.2=0 then(0:Int) else 10)=0:=h3;rw[if_neg e] at this;omega
    rcases zv hc.ok hc.ms (iB (fun _=>id) hc.ok hc.ms n) with⟨w0,_⟩|⟨_,c,s,j,g⟩
    ·exact(w0 h5).elim
    ·have ha:=g.at_;have hv:blV k (tk1 S n) n=(hM k S.M S.H n).2.2.1:=by
      unfold blV;rw[if_neg h4];exact if_pos h5
     have hs:blS k (tk1 S n) n={ tk1 S n with M:=(hM k S.M S.H n).1,H:=(hM k S.M S.H n).2.1 }:=if_neg h4;refine⟨c,s,j,(hM k S.M S.H n).1,(hM k S.M S.H n).2.1,?_,by rw[ha] at g;exact g,by rw[e3,hv,ha],by rw[e2,hs];rfl,h2,h4,by omega⟩;rw[←ha,←h5]
   ·rw[if_neg h3] at e1;exact(h3 (e1.symm.trans hE)).elim
  ·rw[if_neg h2] at r1;rw[if_neg (by rw[r1];omega),r1] at e1;omega
theorem zV(hp:Plain S.s)(hc:Hc k S.M S.H){M':Ms}{H':Hp}{a E:Int}(h:hM k S.M S.H n=(M',H',a,E))(hs:S.M.ss.length≤800000)(h1:S.s.cb+ag n≤S.s.lb)(h0:0≤ag n):Plain (S.took M' H' (ag n)).s∧Hc k M' H'∧M'.ss.length≤S.M.ss.length+2:=by
 have hm:=hc.zc n hs;rw[h] at hm;have:=hp.ok.cb0;exact⟨hp.chg (by omega) h1,hm.1,hm.2⟩
end
end Go.Proofs.YtndhbnhobhkmaaaGreatDoor
