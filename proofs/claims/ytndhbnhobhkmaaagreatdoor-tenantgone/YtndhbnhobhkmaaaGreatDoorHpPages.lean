/-
  Numbers that stand in a row, each once: mathematics. What each call of a line answers, and what it leaves.
  Pages by their colours: which are taken, what each call answers and leaves: plain mathematics off the document. Nothing of the program is named here.
  What taking does to a window: counts, the lowest page; windows without a common colour. Nothing of the program is named here.
  A tenant's blocks: mathematics off the document. What a heap holds, what each call answers and leaves; how pages are taken and let go of.
  How local pages are held and let go of: mathematics.
-/
import Derived.Test.YtndhbnhobhkmaaaGreatDoorTaBase
namespace Go.Proofs.YtndhbnhobhkmaaaGreatDoor
def liP(L:List Int)(k:Int):List Int:=if k<0∨k∈L then L else L++[k]
def liPE(L:List Int)(k:Int):Int:=if k<0 then 12 else if k∈L then 7 else 0
def liR(L:List Int)(k:Int):List Int:=L.filter fun x=>decide (x≠k)
def liRE(L:List Int)(k:Int):Int:=if k∈L then 0 else 13
def liF:List Int→Int
 |[]=> -1
 |x::_=>x
structure LiOk(L:List Int):Prop where
 nd:L.Nodup
 at_:∀x∈L,0≤x∧x≤9223372036854775807
section
variable{L:List Int}{k:Int}
theorem LiOk.none:LiOk []:=⟨List.nodup_nil,fun x h=>by simp at h⟩
theorem tI(x:Int):x∈liR L k↔x∈L∧x≠k:=by simp[liR]
theorem xc(h:(k::L).Nodup):liR (k::L) k=L:=by
 have h1:k∉L:=(List.nodup_cons.1 h).1;unfold liR;rw[List.filter_cons_of_neg (by simp)];exact List.filter_eq_self.2 fun x hx=>by simp;exact fun e=>h1 (e▸hx)
theorem pP(h:k∉L):liR L k=L:=List.filter_eq_self.2 fun x hx=>by simp;exact fun e=>h (e▸hx)
theorem LiOk.front(h:LiOk L):I64 (liF L):=by
 cases L with
 |nil=>exact⟨by decide,by decide⟩
 |cons x L=>have:=h.at_ x (by simp);exact⟨by show _≤x;omega,this.2⟩
end
end Go.Proofs.YtndhbnhobhkmaaaGreatDoor
namespace Go.Proofs.YtndhbnhobhkmaaaGreatDoor.Cq
def low(f:Nat→Bool)(n:Nat):Nat:=((List.range n).find? f).getD n
theorem bO(f:Nat→Bool)(n p:Nat)(h0:p<n)(h1:f p=true)(h2:∀i,i<p→f i=false):low f n=p:=by
 have:(List.range n).find? f=some p:=by
  rw[List.find?_range_eq_some];refine⟨h1,by simpa using h0,fun j hj=> ?_⟩;rw[h2 j hj];rfl
 unfold low;rw[this];rfl
theorem gj(f:Nat→Bool)(n:Nat)(h:∀i,i<n→f i=false):low f n=n:=by
 have:(List.range n).find? f=none:=by
  rw[List.find?_range_eq_none];intro i hi;rw[h i hi];rfl
 unfold low;rw[this];rfl
theorem bG(f:Nat→Bool)(n:Nat):(low f n<n∧f (low f n)=true∧∀i,i<low f n→f i=false)∨(low f n=n∧∀i,i<n→f i=false):=by
 cases h:(List.range n).find? f with
 |none=>
  right;rw[List.find?_range_eq_none] at h;exact⟨gj f n fun i hi=>by simpa using h i hi,fun i hi=>by simpa using h i hi⟩
 |some p=>
  left;rw[List.find?_range_eq_some] at h;have e:=bO f n p (by simpa using h.2.1) h.1 fun i hi=>by simpa using h.2.2 i hi
  rw[e];exact⟨by simpa using h.2.1,h.1,fun i hi=>by simpa using h.2.2 i hi⟩
def cnt(f:Nat→Bool)(n:Nat):Nat:=(List.range n).countP f
theorem eO(f:Nat→Bool)(n:Nat):cnt f (n+1)=cnt f n+(if f n then 1 else 0):=by
 unfold cnt;rw[List.range_succ,List.countP_append];simp[List.countP_cons]
theorem cnt_le(f:Nat→Bool)(n:Nat):cnt f n≤n:=by
 unfold cnt;have:=List.countP_le_length (p:=f) (l:=List.range n);simpa using this
def inW(k:Nat)(win:List Int)(p:Nat):Bool:=win.any fun x=>x==((p % k:Nat):Int)
def aX(k:Nat)(has:List Bool)(win:List Int)(p:Nat):Bool:= !(has.getD p true)&&inW k win p
def takP(k:Nat)(has:List Bool)(win:List Int):Nat:=low (aX k has win) has.length
def takV(k:Nat)(has:List Bool)(win:List Int):Int:=if takP k has win<has.length then(takP k has win:Int) else 0
def takE(k:Nat)(has:List Bool)(win:List Int):Int:=if takP k has win<has.length then 0 else 13
def takS(k:Nat)(has:List Bool)(win:List Int):List Bool:=has.set (takP k has win) true
def giE(has:List Bool)(p:Int):Int:=if 0≤p∧p<has.length then(if has.getD p.toNat false then 0 else 13) else 12
def giS(has:List Bool)(p:Int):List Bool:=if 0≤p∧p<has.length then has.set p.toNat false else has
def isT(has:List Bool)(p:Int):Bool:=decide (0≤p∧p<has.length)&&has.getD p.toNat false
def colI(n k:Nat)(p:Int):Int:=if 0≤p∧p<n then((p.toNat % k:Nat):Int) else -1
def frI(k:Nat)(has:List Bool)(win:List Int):Nat:=cnt (aX k has win) has.length
abbrev Cfg(n k:Int):Prop:=1≤k∧k≤32∧1≤n∧n≤4096∧n % k=0
theorem bX(k:Nat)(has:List Bool)(win:List Int):(takS k has win).length=has.length:=by simp[takS]
theorem jo(has:List Bool)(p:Int):(giS has p).length=has.length:=by unfold giS;split<;>simp
theorem kH(f:Nat→Bool):∀n:Nat,(∀i,i<n→f i=false)→cnt f n=0
 |0,_=>rfl
 |n+1,h=>by rw[eO,kH f n (fun i hi=>h i (by omega)),h n (by omega)];rfl
theorem BR(f:Nat→Bool)(n:Nat)(h:0<cnt f n):low f n<n∧f (low f n)=true∧∀i,i<low f n→f i=false:=by
 rcases bG f n with h1|⟨_,h1⟩
 ·exact h1
 ·rw[kH f n h1] at h;omega
theorem kI{f g:Nat→Bool}:∀n:Nat,(∀i,i<n→f i=g i)→cnt f n=cnt g n
 |0,_=>rfl
 |n+1,h=>by rw[eO,eO,kI n (fun i hi=>h i (by omega)),h n (by omega)]
theorem eQ{f g:Nat→Bool}{p:Nat}:∀n:Nat,p<n→f p=true→g p=false→(∀i,i<n→i≠p→f i=g i)→cnt f n=cnt g n+1
 |0,h,_,_,_=>by omega
 |n+1,h,h1,h2,h3=>by
  rw[eO,eO];by_cases e:p=n
  ·subst e;rw[h1,h2,kI p (fun i hi=>h3 i (by omega) (by omega))];simp
  ·rw[eQ n (by omega) h1 h2 (fun i hi=>h3 i (by omega)),h3 n (by omega) (by omega)];omega
section
variable{k:Nat}{has:List Bool}{l:List Int}
theorem dH(p:Nat):aX k (has.set p true) l p=false:=by
 by_cases hp:p<has.length
 ·simp[aX,List.getD,hp]
 ·simp[aX,List.getD,hp]
theorem de{p i:Nat}(h:i≠p):aX k (has.set p true) l i=aX k has l i:=by
 simp[aX,List.getD,Ne.symm h]
theorem cu(h:0<frI k has l):∃p:Nat,p<has.length∧aX k has l p=true∧takV k has l=(p:Int)∧takE k has l=0∧takS k has l=has.set p true∧isT (takS k has l) (p:Int)=true∧frI k (takS k has l) l+1=frI k has l∧∀i,i≤p→aX k (takS k has l) l i=false:=by
 obtain⟨h1,h2,h3⟩:=BR _ _ h;refine⟨takP k has l,h1,h2,?_,?_,rfl,?_,?_,?_⟩
 ·unfold takV;exact if_pos h1
 ·unfold takE;exact if_pos h1
 ·have h1':takP k has l<has.length:=h1;unfold isT takS;simp only[List.length_set,List.getD,Int.toNat_natCast,List.getElem?_set,h1'];simp;omega
 ·unfold frI;rw[bX];refine(eQ (p:=takP k has l) has.length h1 h2 (dH _) fun i _ hi=> ?_).symm;exact(de hi).symm
 ·intro i hi;by_cases e:i=takP k has l
  ·subst e;exact dH _
  ·unfold takS;rw[de e];exact h3 i (by have:i≤low _ _:=hi;have:i≠low _ _:=e;omega)
theorem zY(h:frI k has l=0):takV k has l=0∧takE k has l=13∧takS k has l=has:=by
 have h1:takP k has l=has.length:=by
  rcases bG (aX k has l) has.length with⟨h1,h2,_⟩|⟨h1,_⟩
  ·have:=eQ (f:=aX k has l) (g:=fun i=>aX k has l i&&decide (i≠low (aX k has l) has.length)) has.length h1 h2 (by simp) (fun i _ hi=>by simp[hi]);unfold frI at h;omega
  ·exact h1
 refine⟨?_,?_,?_⟩
 ·unfold takV;exact if_neg (by omega)
 ·unfold takE;exact if_neg (by omega)
 ·unfold takS;rw[h1];exact List.set_eq_of_length_le (Nat.le_refl _)
end
end Go.Proofs.YtndhbnhobhkmaaaGreatDoor.Cq
namespace Go.Proofs.YtndhbnhobhkmaaaGreatDoor
open Go.RowKit
open An
structure Hd where
 kind:Nat
 slot:Nat
 pg:Pg
structure Hp where
 W:List Int
 T:Tb
 L:List Hd
 ln:Nat→List Int
structure Ms where
 has:List Bool
 bs:List UInt8
 ss:List Sp
def pn(c:Nat):Nat:=(aI c).toNat
def sn(c:Nat):Nat:=(slI c).toNat
def lo(c s:Nat):Int:=adI c s 0 / 512
theorem aj{c:Nat}(h:c≤23):(1≤pn c∧pn c≤16)∧(1≤sn c∧sn c≤256)∧sn c * pn c≤256∧aI c=(pn c:Int)∧slI c=(sn c:Int)∧(c≤7→pn c=1∧sn c=256):=by
 have:∀c:Fin 24,(1≤pn c∧pn c≤16)∧(1≤sn c∧sn c≤256)∧sn c * pn c≤256∧aI c=(pn c:Int)∧slI c=(sn c:Int)∧((c:Nat)≤7→pn c=1∧sn c=256):=by decide+kernel
 exact this ⟨c,by omega⟩
theorem qU{c:Nat}(h:c≤23)(s:Nat):lo c s=((c+1) * 256+s * pn c:Nat):=by
 have e:=(aj h).2.2.2.1;unfold lo adI sbI;rw[e,show(s:Int) * ((pn c:Int) * 512)=((s * pn c:Nat):Int) * 512 by rw[Int.natCast_mul,Int.mul_assoc]];omega
theorem sE{c s:Nat}(h:c≤23)(hs:s<sn c):s * pn c+pn c≤256:=by
 have:=(aj h).2.2.1;have h2:(s+1) * pn c≤sn c * pn c:=Nat.mul_le_mul_right _ hs;rw[Nat.add_mul,Nat.one_mul] at h2;omega
theorem nO{c s:Nat}(h:c≤23)(hs:s<sn c){i:Nat}(hi:i<pn c):((c+1) * 256:Nat)≤lo c s+i∧lo c s+i<((c+2) * 256:Nat)∧VOk (lo c s+i):=by
 have h1:=qU h s;have h2:=sE h hs;unfold VOk;omega
theorem cE{c s c' s':Nat}(h:c≤23)(hs:s<sn c)(h':c'≤23)(hs':s'<sn c'){i i':Nat}(hi:i<pn c)(hi':i'<pn c')(e:lo c s+i=lo c' s'+i'):c=c'∧s=s'∧i=i':=by
 have l1:=nO h hs hi;have l2:=nO h' hs' hi';obtain rfl:c=c':=by omega
 rw[qU h,qU h] at e;have e2:s * pn c+i=s' * pn c+i':=by omega
 have e3:s=s':=by
  have h1:(s * pn c+i) / pn c=s:=by rw[Nat.mul_comm,Nat.mul_add_div (by omega),Nat.div_eq_of_lt hi,Nat.add_zero]
  have h2:(s' * pn c+i') / pn c=s':=by rw[Nat.mul_comm,Nat.mul_add_div (by omega),Nat.div_eq_of_lt hi',Nat.add_zero]
  rw[←h1,←h2,e2]
 subst e3;exact⟨rfl,rfl,by omega⟩
abbrev Held(L:List Hd)(c s:Nat):Prop:=∃x∈L,x.kind=c∧x.slot=s
def bq(L:List Hd)(c s:Nat):Bool:=L.any fun x=>decide (x.kind=c∧x.slot=s)
theorem bT{L:List Hd}{c s:Nat}:bq L c s=true↔Held L c s:=by simp[bq,Held]
def hSl(L:List Hd)(c:Nat):Nat:=Cq.low (fun s=> !bq L c s) (sn c)
def hAt(L:List Hd)(c s:Nat):Option Hd:=L.find? fun x=>decide (x.kind=c∧x.slot=s)
def hSet(L:List Hd)(c s:Nat)(g:Pg):List Hd:=L.map fun x=>if x.kind=c∧x.slot=s then⟨x.kind,x.slot,g⟩ else x
def hDel(L:List Hd)(c s:Nat):List Hd:=L.filter fun x=>decide (¬(x.kind=c∧x.slot=s))
def takN(k:Nat)(W:List Int):Nat→Int→List Bool→Tb→List Bool×Tb
 |0,_,has,T=>(has,T)
 |m+1,v,has,T=>takN k W m (v+1) (Cq.takS k has W) (tbM T v (Cq.takV k has W))
def drM(m:Ms)(T:Tb)(v:Int):Ms:=⟨Cq.giS m.has (tbUV T v),over m.bs ((tbUV T v).toNat * 512) (nz 512),m.ss++[(tbUV T v * 512,512,true)]⟩
def letN:Nat→Int→Ms→Tb→Ms×Tb
 |0,_,m,T=>(m,T)
 |n+1,v,m,T=>letN n (v+1) (drM m T v) (tbU T v)
structure TpOk(C:Nat→Prop)(has:List Bool)(T:Tb):Prop where
 tb:TbOk T
 tk:∀y∈T,0≤y.2∧y.2.toNat<has.length∧has.getD y.2.toNat false=true∧C y.2.toNat
structure MsOk(m:Ms):Prop where
 len:m.bs.length=m.has.length * 512
 cap:m.has.length≤4096
 cl:∀q,q<m.has.length→m.has.getD q true=false→win m.bs (q * 512)=nz 512
abbrev Pgs(T:Tb)(q:Nat):Prop:=∃v,(v,(q:Int))∈T
structure Stp(m:Ms)(T:Tb)(m':Ms)(T':Tb):Prop where
 len:m'.has.length=m.has.length
 bl:m'.bs.length=m.bs.length
 out:∀q,q<m.has.length→¬Pgs T q→¬Pgs T' q→m'.has.getD q true=m.has.getD q true∧win m'.bs (q * 512)=win m.bs (q * 512)
 new:∀q,Pgs T' q→¬Pgs T q→m.has.getD q true=false
 old:∀q,Pgs T q→¬Pgs T' q→m'.has.getD q true=false
section
variable{m m' m'':Ms}{T T' T'':Tb}{k:Nat}{W:List Int}
theorem Stp.refl(m:Ms)(T:Tb):Stp m T m T:=⟨rfl,rfl,fun _ _ _ _=>⟨rfl,rfl⟩,fun _ h h'=>(h' h).elim,fun _ h h'=>(h' h).elim⟩
theorem Stp.trans(h:Stp m T m' T')(k:Stp m' T' m'' T'')(ok:MsOk m)(ok'':MsOk m''):Stp m T m'' T'':=by
 refine⟨k.len.trans h.len,k.bl.trans h.bl,fun q hq h1 h3=> ?_,fun q h3 h1=> ?_,fun q h1 h3=> ?_⟩
 ·by_cases h2:Pgs T' q
  ·have e1:=h.new q h2 h1;have e2:=k.old q h2 h3;refine⟨by rw[e1,e2],?_⟩;rw[ok.cl q hq e1,ok''.cl q (by rw[k.len,h.len];exact hq) e2]
  ·have e1:=h.out q hq h1 h2;have e2:=k.out q (by rw[h.len];exact hq) h2 h3;exact⟨e2.1.trans e1.1,e2.2.trans e1.2⟩
 ·by_cases h2:Pgs T' q
  ·exact h.new q h2 h1
  ·have e2:=k.new q h3 h2;by_cases hq:q<m.has.length
   ·have:=(h.out q hq h1 h2).1;rw[←this];exact e2
   ·exfalso;rw[List.getD_eq_getElem?_getD,List.getElem?_eq_none (by rw[h.len];omega)] at e2;cases e2
 ·by_cases h2:Pgs T' q
  ·exact k.old q h2 h3
  ·have e1:=h.old q h1 h2;by_cases hq:q<m'.has.length
   ·rw[(k.out q hq h2 h3).1];exact e1
   ·exfalso;rw[List.getD_eq_getElem?_getD,List.getElem?_eq_none (by omega)] at e1;cases e1
end
section
variable{m:Ms}{T:Tb}{k:Nat}{W:List Int}{has:List Bool}{v:Int}{C:Nat→Prop}
theorem bI{has:List Bool}{p q:Nat}{b d:Bool}(hp:p<has.length):(has.set p b).getD q d=if q=p then b else has.getD q d:=by
 simp only[List.getD_eq_getElem?_getD,List.getElem?_set,hp];by_cases e:p=q
 ·subst e;simp
 ·rw[if_neg e,if_neg (fun e2=>e e2.symm)]
theorem kD{has:List Bool}{q:Nat}{d d':Bool}(hq:q<has.length):has.getD q d=has.getD q d':=by simp[List.getD_eq_getElem?_getD,hq]
theorem TpOk.lt(h:TpOk C has T){q:Nat}(hq:Pgs T q):q<has.length:=by
 obtain⟨v,hv⟩:=hq;have:=(h.tk _ hv).2.1;simpa using this
theorem TpOk.on(h:TpOk C has T){q:Nat}(hq:Pgs T q):has.getD q true=true∧C q:=by
 have hl:=h.lt hq;obtain⟨v,hv⟩:=hq;have:=h.tk _ hv;simp only[Int.toNat_natCast] at this;exact⟨by rw[kD hl (d':=false)];exact this.2.2.1,this.2.2.2⟩
theorem TpOk.ux(h:TpOk C has T){q:Nat}(hq:has.getD q true=false):tbH T q<0:=by
 by_cases e:tbH T q<0
 ·exact e
 ·have:=h.on ⟨_,h.tb.zr e⟩;rw[hq] at this;cases this.1
theorem TpOk.free(h:TpOk C has T){q:Nat}(hq:has.getD q true=false):¬Pgs T q:=fun e=>by
 have:=(h.on e).1;rw[hq] at this;cases this
theorem zZ(hC:∀q,Cq.inW k W q=true→C q)(h:TpOk C has T)(hc:has.length≤4096)(hf:0<Cq.frI k has W)(hv:VOk v)(hn:tbF T v<0):
  ∃p:Nat,p<has.length∧has.getD p true=false∧Cq.inW k W p=true∧Cq.takV k has W=(p:Int)∧Cq.takE k has W=0∧Cq.takS k has W=has.set p true∧tbME T v p=0∧tbM T v p=tbI T v p∧¬Pgs T p∧TpOk C (has.set p true) (tbI T v p)∧Cq.frI k (Cq.takS k has W) W+1=Cq.frI k has W:=by
 obtain⟨p,h1,h2,h3,h4,h5,_,h7,_⟩:=Cq.cu hf;unfold Cq.aX at h2;simp only[Bool.and_eq_true,Bool.not_eq_true'] at h2;have hh:=h.ux h2.1;have hm:tbME T v p=0:=kW.2 ⟨⟨hv,by unfold POk;omega⟩,hn,hh⟩;refine⟨p,h1,h2.1,h2.2,h3,h4,h5,hm,zX hm,h.free h2.1,⟨h.tb.ins hv (by unfold POk;omega) hn hh,fun y hy=> ?_⟩,h7⟩;rw[List.length_set,bI h1];rcases bN.1 hy with rfl|hy
 ·simp[h1];exact hC _ h2.2
 ·have:=h.tk y hy;refine⟨this.1,this.2.1,?_,this.2.2.2⟩;split
  ·rfl
  ·exact this.2.2.1
theorem f_tbI(h:TbOk T)(hn:tbF T v<0){p:Int}(hI:TbOk (tbI T v p))(u:Int):tbF (tbI T v p) u=if u=v then p else tbF T u:=by
 by_cases e:u=v
 ·rw[if_pos e];subst e;exact aO hI (bN.2 (.inl rfl))
 ·rw[if_neg e];by_cases hu:tbF T u<0
  ·have h1:=h.eJ hu;by_cases hu2:tbF (tbI T v p) u<0
   ·rw[(hI.eJ hu2).1,h1.1]
   ·rcases bN.1 (hI.aQ hu2) with e2|e2
    ·simp only[Prod.mk.injEq] at e2;exact(e e2.1).elim
    ·exact(h1.2 _ e2 rfl).elim
  ·exact aO hI (bN.2 (.inr (h.aQ hu)))
structure Took(C:Nat→Prop)(k:Nat)(W:List Int)(n:Nat)(v:Int)(has:List Bool)(T:Tb)(has':List Bool)(T':Tb):Prop where
 ok:TpOk C has' T'
 len:has'.length=has.length
 sub:∀y∈T,y∈T'
 new:∀y∈T',y∈T∨((∃i:Nat,i<n∧y.1=v+i)∧has.getD y.2.toNat true=false)
 got:∀i:Nat,i<n→¬tbF T' (v+i)<0
 far:∀u,(∀i:Nat,i<n→u≠v+i)→tbF T' u=tbF T u
 out:∀q,¬Pgs T' q→has'.getD q true=has.getD q true
 up:∀q,has'.getD q true=false→has.getD q true=false
 tl:T'.length=T.length+n
 fr:Cq.frI k has' W+n=Cq.frI k has W
theorem lh(hC:∀q,Cq.inW k W q=true→C q):∀(n:Nat) (v:Int) (has:List Bool) (T:Tb),TpOk C has T→has.length≤4096→n≤Cq.frI k has W→(∀i:Nat,i<n→VOk (v+i)∧tbF T (v+i)<0)→Took C k W n v has T (takN k W n v has T).1 (takN k W n v has T).2
 |0,v,has,T,h,_,_,_=>⟨h,rfl,fun _=>id,fun _=>.inl,fun i hi=>by omega,fun _ _=>rfl,fun _ _=>rfl,fun _=>id,rfl,rfl⟩
 |n+1,v,has,T,h,hc,hn,hv=>by
  have hv0:=hv 0 (by omega);simp only[Int.natCast_zero,Int.add_zero] at hv0;obtain⟨p,h1,h2,h3,h4,_,h5,h6,h7,h8,h9,h10⟩:=zZ hC h hc (by omega) hv0.1 hv0.2;unfold takN;rw[h4,h7,h5];rw[h5] at h10;have hF:=f_tbI h.tb hv0.2 h9.tb;have ih:=lh hC n (v+1) (has.set p true) (tbI T v p) h9 (by rw[List.length_set];exact hc) (by omega) fun i hi=>by
   have:=hv (i+1) (by omega);rw[show v+((i+1:Nat):Int)=v+1+i by omega] at this;refine⟨this.1,?_⟩;rw[hF,if_neg (by omega)];exact this.2
  refine⟨ih.ok,by rw[ih.len,List.length_set],fun y hy=>ih.sub y (bN.2 (.inr hy)),fun y hy=> ?_,fun i hi=> ?_,fun u hu=> ?_,fun q hq=> ?_,fun q hq=> ?_,by rw[ih.tl,mZ];omega,by have:=ih.fr;omega⟩
  ·rcases ih.new y hy with e|⟨⟨i,hi,e⟩,e2⟩
   ·rcases bN.1 e with rfl|e
    ·exact .inr ⟨⟨0,by omega,by simp⟩,by simpa using h2⟩
    ·exact .inl e
   ·refine .inr ⟨⟨i+1,by omega,by omega⟩,?_⟩;rw[bI h1] at e2;split at e2
    ·cases e2
    ·exact e2
  ·by_cases e:i=0
   ·subst e;rw[ih.far _ (by intro j _;omega),hF,if_pos (by simp)];omega
   ·have:=ih.got (i - 1) (by omega);rw[show v+1+((i - 1:Nat):Int)=v+i by omega] at this;exact this
  ·rw[ih.far u (by intro i hi;have:=hu (i+1) (by omega);omega),hF,if_neg (by have:=hu 0 (by omega);simpa using this)]
  ·rw[ih.out q hq,bI h1,if_neg];intro e;subst e;exact hq ⟨v,ih.sub _ (bN.2 (.inl rfl))⟩
  ·have:=ih.up q hq;rw[bI h1] at this;split at this
   ·cases this
   ·exact this
theorem Took.stp{n:Nat}{has':List Bool}{T':Tb}{bs:List UInt8}{ss ss':List Sp}(h:Took C k W n v has T has' T'):Stp ⟨has,bs,ss⟩ T ⟨has',bs,ss'⟩ T':=
 ⟨h.len,rfl,fun q _ _ h2=>⟨h.out q h2,rfl⟩,fun q ⟨u,h1⟩ h2=>by
  rcases h.new _ h1 with e|e
  ·exact(h2 ⟨u,e⟩).elim
  ·simpa using e.2,fun q ⟨u,h1⟩ h2=>(h2 ⟨u,h.sub _ h1⟩).elim⟩
theorem Took.ms{n:Nat}{has':List Bool}{T':Tb}{bs:List UInt8}{ss ss':List Sp}(h:Took C k W n v has T has' T')(ok:MsOk ⟨has,bs,ss⟩):MsOk ⟨has',bs,ss'⟩:=
 ⟨by rw[ok.len];show _=has'.length * 512;rw[h.len],by show has'.length≤4096;rw[h.len];exact ok.cap,fun q hq hf=>ok.cl q (by have hq:q<has'.length:=hq;rw[h.len] at hq;exact hq) (h.up q hf)⟩
theorem yD{bs:List UInt8}{b:Nat}(h:b+512≤bs.length):win (over bs b (nz 512)) b=nz 512:=by
 have:=cq (bs:=bs) (ds:=nz 512) (b:=b) (q:=0) h (by rw[aB];omega);rw[Nat.add_zero] at this;rw[this];unfold over;simp[bu h,aB]
structure Went(C:Nat→Prop)(n:Nat)(v:Int)(m:Ms)(T:Tb)(m':Ms)(T':Tb):Prop where
 ok:TpOk C m'.has T'
 ms:MsOk m'
 stp:Stp m T m' T'
 mem:∀y,y∈T'↔y∈T∧∀i:Nat,i<n→y.1≠v+i
 tl:T'.length+n=T.length
 far:∀u,(∀i:Nat,i<n→u≠v+i)→tbF T' u=tbF T u
 win:∀q,Pgs T' q→win m'.bs (q * 512)=win m.bs (q * 512)
theorem fC{y:Int×Int}:y∈tbU T v↔y∈T∧y.1≠v:=by simp[tbU]
theorem jH:∀(T:Tb) (u:Int),u≠v→tbF (tbU T v) u=tbF T u
 |[],_,_=>rfl
 |x::r,u,h=>by
  have ih:=jH r u h;unfold tbU at ih ⊢;by_cases e:x.1=v
  ·rw[List.filter_cons_of_neg (by simp[e]),ih];unfold tbF;rw[if_neg (by rw[e];exact fun e2=>h e2.symm)];cases r<;>rfl
  ·rw[List.filter_cons_of_pos (by simp[e])];unfold tbF;rw[ih]
theorem nZ(h:TbOk T){p:Int}(hm:(v,p)∈T):(tbU T v).length+1=T.length:=by
 induction T with
 |nil=>simp at hm
 |cons x r ih=>
  have hup:=List.pairwise_cons.1 h.up;rcases List.mem_cons.1 hm with e|e
  ·subst e;unfold tbU;rw[List.filter_cons_of_neg (by simp),List.length_cons,List.filter_eq_self.2];intro y hy;have:=hup.1 y hy;simp at this ⊢;omega
  ·have:=ih h.tail e;have h1:=hup.1 _ e;unfold tbU at this ⊢;rw[List.filter_cons_of_pos (by simp at h1 ⊢;omega),List.length_cons,List.length_cons,this]
theorem drop_one(h:TpOk C m.has T)(ok:MsOk m)(hv:¬tbF T v<0):∃p:Nat,(v,(p:Int))∈T∧tbUV T v=(p:Int)∧tbUE T v=0∧p * 512+512≤m.bs.length∧Cq.giE m.has p=0∧Went C 1 v m T (drM m T v) (tbU T v):=by
 have hmem:=h.tb.aQ hv;obtain⟨p,hp⟩:∃p:Nat,tbF T v=(p:Int):=⟨(tbF T v).toNat,by omega⟩;rw[hp] at hmem;have hpl:p<m.has.length:=h.lt ⟨v,hmem⟩;have hon:=(h.on ⟨v,hmem⟩).1;have hU:tbUV T v=(p:Int):=by unfold tbUV;rw[if_neg hv,hp]
 have hb:p * 512+512≤m.bs.length:=by have:=ok.len;omega
 have hg:Cq.giS m.has (p:Int)=m.has.set p false:=by unfold Cq.giS;rw[if_pos ⟨by omega,by omega⟩];rfl
 have hE:Cq.giE m.has (p:Int)=0:=by unfold Cq.giE;rw[if_pos ⟨by omega,by omega⟩,if_pos (by rw[Int.toNat_natCast,kD hpl (d':=true)];exact hon)]
 refine⟨p,hmem,hU,by unfold tbUE;rw[if_neg hv],hb,hE,?_⟩;have hone:∀y∈tbU T v,y.2≠(p:Int):=fun y hy e=>by
  have h1:=(fC.1 hy);have h2:=aW h.tb hmem;have h3:=aW (v:=y.1) (p:=y.2) h.tb h1.1;rw[e,h2] at h3;exact h1.2 h3.symm
 unfold drM;rw[hU,hg,Int.toNat_natCast];have hfar:∀q:Nat,q≠p→win (over m.bs (p * 512) (nz 512)) (q * 512)=win m.bs (q * 512):=fun q hq=>dJ (by rw[aB];exact hb) (by rw[aB];omega)
 have hol:(over m.bs (p * 512) (nz 512)).length=m.bs.length:=al _ _ _ (by rw[aB];exact hb);refine⟨⟨h.tb.vJ v,fun y hy=> ?_⟩,⟨?_,by rw[List.length_set];exact ok.cap,fun q hq hf=> ?_⟩,⟨by simp,hol,fun q hq h1 h2=> ?_,fun q ⟨u,h1⟩ h2=>(h2 ⟨u,(fC.1 h1).1⟩).elim,fun q ⟨u,h1⟩ h2=> ?_⟩,fun y=> ?_,nZ h.tb hmem,fun u hu=>jH T u (by have:=hu 0 (by omega);simpa using this),fun q ⟨u,h1⟩=>hfar q fun e=>hone _ h1 (by simp[e])⟩
 ·have h1:=h.tk y (fC.1 hy).1;refine⟨h1.1,by rw[List.length_set];exact h1.2.1,?_,h1.2.2.2⟩;show(m.has.set p false).getD y.2.toNat false=true;rw[bI hpl,if_neg (fun e=>hone y hy (by omega))];exact h1.2.2.1
 ·show(over m.bs (p * 512) (nz 512)).length=(m.has.set p false).length * 512;rw[hol,List.length_set];exact ok.len
 ·rw[List.length_set] at hq;rw[bI hpl] at hf;by_cases e:q=p
  ·subst e;exact yD hb
  ·rw[if_neg e] at hf;show win (over m.bs (p * 512) (nz 512)) (q * 512)=_;rw[hfar q e];exact ok.cl q hq hf
 ·have e:q≠p:=fun e=>h1 (by subst e;exact⟨v,hmem⟩)
  exact⟨by show(m.has.set p false).getD q true=_;rw[bI hpl,if_neg e],hfar q e⟩
 ·have e:q=p:=by
   by_cases e:u=v
   ·subst e;have h3:=aO h.tb h1;rw[hp] at h3;omega
   ·exact(h2 ⟨u,fC.2 ⟨h1,e⟩⟩).elim
  show(m.has.set p false).getD q true=false;rw[bI hpl,if_pos e]
 ·rw[fC];constructor
  ·rintro⟨h1,h2⟩;exact⟨h1,fun i hi=>by
    obtain rfl:i=0:=by omega
    simpa using h2⟩
  ·rintro⟨h1,h2⟩;exact⟨h1,by have:=h2 0 (by omega);simpa using this⟩
theorem iu:∀(n:Nat) (v:Int) (m:Ms) (T:Tb),TpOk C m.has T→MsOk m→(∀i:Nat,i<n→¬tbF T (v+i)<0)→Went C n v m T (letN n v m T).1 (letN n v m T).2
 |0,v,m,T,h,ok,_=>⟨h,ok,Stp.refl _ _,fun y=>⟨fun e=>⟨e,fun i hi=>by omega⟩,fun e=>e.1⟩,rfl,fun _ _=>rfl,fun _ _=>rfl⟩
 |n+1,v,m,T,h,ok,hv=>by
  have hv0:=hv 0 (by omega);simp only[Int.natCast_zero,Int.add_zero] at hv0;obtain⟨p,_,_,_,_,_,h1⟩:=drop_one h ok hv0;unfold letN;have ih:=iu n (v+1) (drM m T v) (tbU T v) h1.ok h1.ms fun i hi=>by
   have:=hv (i+1) (by omega);rw[show v+((i+1:Nat):Int)=v+1+i by omega] at this;rw[jH _ _ (by omega)];exact this
  refine⟨ih.ok,ih.ms,h1.stp.trans ih.stp ok ih.ms,fun y=> ?_,by have:=ih.tl;have:=h1.tl;omega,fun u hu=> ?_,fun q hq=> ?_⟩
  ·rw[ih.mem,fC];constructor
   ·rintro⟨⟨a1,a2⟩,a3⟩;refine⟨a1,fun i hi=> ?_⟩;by_cases e:i=0
    ·subst e;simpa using a2
    ·have:=a3 (i - 1) (by omega);omega
   ·rintro⟨a1,a2⟩;exact⟨⟨a1,by have:=a2 0 (by omega);simpa using this⟩,fun i hi=>by have:=a2 (i+1) (by omega);omega⟩
  ·rw[ih.far u (fun i hi=>by have:=hu (i+1) (by omega);omega),jH _ _ (by have:=hu 0 (by omega);simpa using this)]
  ·obtain⟨u,hu⟩:=hq;have h2:=(ih.mem _).1 hu;rw[ih.win q ⟨u,hu⟩,h1.win q ⟨u,h2.1⟩]
end
end Go.Proofs.YtndhbnhobhkmaaaGreatDoor
