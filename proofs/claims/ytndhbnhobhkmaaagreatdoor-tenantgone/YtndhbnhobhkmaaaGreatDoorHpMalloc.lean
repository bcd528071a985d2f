/-
  A heap and what each call leaves of it: mathematics. Malloc.
  Malloc, Free, Usable: what they leave: mathematics.
-/
import Derived.Test.YtndhbnhobhkmaaaGreatDoorHpPages
namespace Go.Proofs.YtndhbnhobhkmaaaGreatDoor
open Go.RowKit
open An
structure SmOk(bs:List UInt8)(T:Tb)(x:Hd):Prop where
 ok:x.pg.Ok bs
 cl:x.pg.Clean bs
 kd:x.pg.kind=x.kind
 at_:(x.pg.base:Int)=tbF T (lo x.kind x.slot) * 512
structure HpOk(C:Nat→Prop)(m:Ms)(H:Hp):Prop where
 tp:TpOk C m.has H.T
 nd:(H.L.map fun x=>(x.kind,x.slot)).Nodup
 at_:∀x∈H.L,x.kind≤23∧x.slot<sn x.kind
 dom:∀y∈H.T,∃x∈H.L,∃i:Nat,i<pn x.kind∧y.1=lo x.kind x.slot+i
 cov:∀x∈H.L,∀i:Nat,i<pn x.kind→¬tbF H.T (lo x.kind x.slot+i)<0
 sm:∀x∈H.L,x.kind≤7→SmOk m.bs H.T x
 ln:∀c,(H.ln c).Nodup∧∀v,v∈H.ln c↔∃x∈H.L,x.kind=c∧c≤7∧v=lo c x.slot∧¬x.pg.Full
section
variable{C:Nat→Prop}{k:Nat}{m m':Ms}{H:Hp}{bs bs':List UInt8}{g:Pg}{T T':Tb}{L:List Hd}{c s:Nat}
theorem Pg.Ok.ext(h:g.Ok bs)(hl:bs'.length=bs.length)(hw:win bs' g.base=win bs g.base):g.Ok bs':=
 ⟨h.kind,h.mod,by rw[hl];exact h.fit,gT h.kind hw h.lr h.r,gT h.kind hw h.ld h.d,h.nd,h.lt,h.fr⟩
theorem yj{b i:Nat}(hw:win bs' b=win bs b)(h1:b≤i)(h2:i<b+512):bs'[i]? =bs[i]? :=by
 have e1:=aZ bs b (i - b) (by omega);have e2:=aZ bs' b (i - b) (by omega);rw[show b+(i - b)=i by omega] at e1 e2;rw[←e1,←e2,hw]
theorem Pg.Clean.ext(h:g.Clean bs)(hw:win bs' g.base=win bs g.base):g.Clean bs':=fun i h1 h2 hne=>h i h1 h2 (by rw[yj hw h1 h2] at hne;exact hne)
theorem SmOk.ext{x:Hd}(h:SmOk bs T x)(hl:bs'.length=bs.length)(hw:win bs' x.pg.base=win bs x.pg.base)(hf:tbF T' (lo x.kind x.slot)=tbF T (lo x.kind x.slot)):SmOk bs' T' x:=
 ⟨h.ok.ext hl hw,h.cl.ext hw,h.kd,by rw[hf];exact h.at_⟩
theorem SmOk.page{x:Hd}(h:SmOk bs T x)(tb:TbOk T):∃q:Nat,x.pg.base=q * 512∧(lo x.kind x.slot,(q:Int))∈T:=by
 have h1:=h.at_;have h2:=h.ok.mod;refine⟨x.pg.base / 512,by omega,?_⟩;have h3:tbF T (lo x.kind x.slot)=((x.pg.base / 512:Nat):Int):=by omega
 have:=tb.aQ (v:=lo x.kind x.slot) (by omega);rw[h3] at this;exact this
theorem fE{x:Hd}(nd:(L.map fun x=>(x.kind,x.slot)).Nodup)(hx:x∈L):hAt L x.kind x.slot=some x:=by
 unfold hAt
 induction L with
 |nil=>simp at hx
 |cons y r ih=>
  rw[List.map_cons,List.nodup_cons] at nd;rcases List.mem_cons.1 hx with rfl|e
  ·rw[List.find?_cons_of_pos (by simp)]
  ·rw[List.find?_cons_of_neg,ih nd.2 e];intro h;simp only[decide_eq_true_eq] at h;exact nd.1 (List.mem_map.2 ⟨x,e,by rw[h.1,h.2]⟩)
theorem ky{x:Hd}(h:hAt L c s=some x):x∈L∧x.kind=c∧x.slot=s:=by
 unfold hAt at h;have:=List.find?_some h;simp only[decide_eq_true_eq] at this;exact⟨List.mem_of_find?_eq_some h,this⟩
theorem pZ(h:hAt L c s=none):¬Held L c s:=by
 unfold hAt at h;rw[List.find?_eq_none] at h;rintro⟨x,hx,e⟩;exact h x hx (by simpa using e)
theorem cH{x y:Hd}(nd:(L.map fun x=>(x.kind,x.slot)).Nodup)(hx:x∈L)(hy:y∈L)(h1:x.kind=y.kind)(h2:x.slot=y.slot):x=y:=by
 have e1:=fE nd hx;have e2:=fE nd hy;rw[h1,h2,e2] at e1;exact(Option.some.inj e1).symm
theorem gq(h:hSl L c<sn c):¬Held L c (hSl L c):=by
 rcases Cq.bG (fun s=> !bq L c s) (sn c) with⟨_,h2,_⟩|⟨h2,_⟩
 ·intro e;have:(!bq L c (hSl L c))=true:=h2;rw[bT.2 e] at this;cases this
 ·have:hSl L c=sn c:=h2;omega
theorem aV{y:Hd}(_nd:(L.map fun x=>(x.kind,x.slot)).Nodup){x:Hd}(hx:x∈L):y∈hSet L x.kind x.slot g↔y=⟨x.kind,x.slot,g⟩∨(y∈L∧¬(y.kind=x.kind∧y.slot=x.slot)):=by
 unfold hSet;rw[List.mem_map];constructor
 ·rintro⟨z,hz,rfl⟩;by_cases e:z.kind=x.kind∧z.slot=x.slot
  ·rw[if_pos e,e.1,e.2];exact .inl rfl
  ·rw[if_neg e];exact .inr ⟨hz,e⟩
 ·rintro(rfl|⟨h1,h2⟩)
  ·exact⟨x,hx,by rw[if_pos ⟨rfl,rfl⟩]⟩
  ·exact⟨y,h1,by rw[if_neg h2]⟩
theorem mC:(hSet L c s g).map (fun x=>(x.kind,x.slot))=L.map fun x=>(x.kind,x.slot):=by
 unfold hSet;rw[List.map_map];apply List.map_congr_left;intro x _;by_cases e:x.kind=c∧x.slot=s
 ·simp[e]
 ·simp[e]
theorem aN{y:Hd}:y∈hDel L c s↔y∈L∧¬(y.kind=c∧y.slot=s):=by unfold hDel;rw[List.mem_filter,decide_eq_true_eq]
theorem Like.refl(h:g.Ok bs):Like g g bs bs:=⟨rfl,rfl,rfl,rfl,rfl,h.mod,h.fit⟩
theorem HpOk.Co(h:HpOk C m H){x y:Hd}(hx:x∈H.L)(hy:y∈H.L)(hk:x.kind≤7)(hk2:y.kind≤7)(hne:¬(y.kind=x.kind∧y.slot=x.slot)):y.pg.base+512≤x.pg.base∨x.pg.base+512≤y.pg.base:=by
 obtain⟨q,e1,m1⟩:=(h.sm x hx hk).page h.tp.tb;obtain⟨r,e2,m2⟩:=(h.sm y hy hk2).page h.tp.tb;have:q≠r:=fun e=>by
  subst e;have h1:=aW h.tp.tb m1;rw[aW h.tp.tb m2] at h1;obtain⟨a1,a2⟩:=h.at_ x hx;obtain⟨b1,b2⟩:=h.at_ y hy;have p1:=(aj a1).1.1;have p2:=(aj b1).1.1;have:=cE b1 b2 a1 a2 (i:=0) (i':=0) (by omega) (by omega) (by simpa using h1);exact hne ⟨this.1,this.2.1⟩
 omega
theorem HpOk.page(h:HpOk C m H)(ok:MsOk m){x:Hd}(hx:x∈H.L)(hk:x.kind≤7){g':Pg}{bs':List UInt8}{ss':List Sp}{ln':Nat→List Int}(p1:g'.Ok bs')(p2:g'.Clean bs')(p3:g'.base=x.pg.base)(p4:g'.kind=x.kind)(p6:bs'.length=m.bs.length)
  (p7:∀b,(b+512≤x.pg.base∨x.pg.base+512≤b)→win bs' b=win m.bs b)(hl:∀c,(ln' c).Nodup∧∀v,v∈ln' c↔if c=x.kind∧v=lo x.kind x.slot then ¬g'.Full else v∈H.ln c):
  HpOk C ⟨m.has,bs',ss'⟩ ⟨H.W,H.T,hSet H.L x.kind x.slot g',ln'⟩∧MsOk ⟨m.has,bs',ss'⟩∧Stp m H.T ⟨m.has,bs',ss'⟩ H.T:=by
 obtain⟨q,e1,m1⟩:=(h.sm x hx hk).page h.tp.tb;have hon:=(h.tp.on ⟨_,m1⟩).1;have hfar:∀r:Nat,r≠q→win bs' (r * 512)=win m.bs (r * 512):=fun r hr=>p7 _ (by omega)
 have hms:MsOk ⟨m.has,bs',ss'⟩:=⟨by rw[←ok.len];exact p6,ok.cap,fun r hr hf=>by
  have:r≠q:=fun e=>by subst e;have hf:m.has.getD r true=false:=hf;rw[hon] at hf;cases hf
  show win bs' (r * 512)=_
  rw[hfar r this];exact ok.cl r hr hf⟩
 have hmem:=fun y=>aV (y:=y) (g:=g') h.nd hx
 refine⟨⟨h.tp,by rw[mC];exact h.nd,fun y hy=> ?_,fun y hy=> ?_,fun y hy i hi=> ?_,fun y hy hy7=> ?_,fun c=>⟨(hl c).1,fun v=> ?_⟩⟩,hms,⟨rfl,p6,fun r hr h1 _=>⟨rfl,hfar r fun e=>h1 (by subst e;exact⟨_,m1⟩)⟩,fun r h1 h2=>(h2 h1).elim,fun r h1 h2=>(h2 h1).elim⟩⟩
 ·rcases(hmem y).1 hy with rfl|e
  ·exact h.at_ x hx
  ·exact h.at_ y e.1
 ·obtain⟨z,hz,i,hi,e⟩:=h.dom y hy;by_cases e2:z.kind=x.kind∧z.slot=x.slot
  ·exact⟨⟨x.kind,x.slot,g'⟩,(hmem _).2 (.inl rfl),i,by rw[←e2.1];exact hi,by rw[←e2.1,←e2.2];exact e⟩
  ·exact⟨z,(hmem _).2 (.inr ⟨hz,e2⟩),i,hi,e⟩
 ·rcases(hmem y).1 hy with rfl|e
  ·exact h.cov x hx i hi
  ·exact h.cov y e.1 i hi
 ·rcases(hmem y).1 hy with rfl|e
  ·exact⟨p1,p2,p4,by show(g'.base:Int)=_;rw[p3];exact(h.sm x hx hk).at_⟩
  ·exact(h.sm y e.1 hy7).ext p6 (p7 _ (h.Co hx e.1 hk hy7 e.2)) rfl
 ·have hlv:=(hl c).2 v;rw[hlv];obtain⟨a1,a2⟩:=h.at_ x hx;have p1':=(aj a1).1.1;by_cases e:c=x.kind∧v=lo x.kind x.slot
  ·rw[if_pos e];constructor
   ·intro hf;exact⟨⟨x.kind,x.slot,g'⟩,(hmem _).2 (.inl rfl),e.1.symm,by omega,by rw[e.1];exact e.2,hf⟩
   ·rintro⟨y,hy,y1,y2,y3,y4⟩;rcases(hmem y).1 hy with rfl|e3
    ·exact y4
    ·exfalso;obtain⟨b1,b2⟩:=h.at_ y e3.1;have p2':=(aj b1).1.1;have:=cE b1 b2 a1 a2 (i:=0) (i':=0) (by omega) (by omega) (by rw[y1,←y3,e.2]);exact e3.2 ⟨this.1,this.2.1⟩
  ·rw[if_neg e,(h.ln c).2 v];constructor
   ·rintro⟨y,hy,y1,y2,y3,y4⟩;refine⟨y,(hmem y).2 (.inr ⟨hy,fun e3=>e ⟨by rw[←y1,e3.1],by rw[←e3.1,←e3.2,y1];exact y3⟩⟩),y1,y2,y3,y4⟩
   ·rintro⟨y,hy,y1,y2,y3,y4⟩;rcases(hmem y).1 hy with rfl|e3
    ·exact(e ⟨y1.symm,by rw[y3,←y1]⟩).elim
    ·exact⟨y,e3.1,y1,y2,y3,y4⟩
theorem HpOk.del(h:HpOk C m H)(ok:MsOk m){x:Hd}(hx:x∈H.L){ln':Nat→List Int}(hl:∀c,(ln' c).Nodup∧∀v,v∈ln' c↔v∈H.ln c∧¬(c=x.kind∧v=lo x.kind x.slot)):
  HpOk C (letN (pn x.kind) (lo x.kind x.slot) m H.T).1 ⟨H.W,(letN (pn x.kind) (lo x.kind x.slot) m H.T).2,hDel H.L x.kind x.slot,ln'⟩∧Went C (pn x.kind) (lo x.kind x.slot) m H.T (letN (pn x.kind) (lo x.kind x.slot) m H.T).1 (letN (pn x.kind) (lo x.kind x.slot) m H.T).2:=by
 have w:=iu (C:=C) (pn x.kind) (lo x.kind x.slot) m H.T h.tp ok fun i hi=>h.cov x hx i hi
 obtain⟨a1,a2⟩:=h.at_ x hx;generalize (letN (pn x.kind) (lo x.kind x.slot) m H.T).1=m' at *;generalize (letN (pn x.kind) (lo x.kind x.slot) m H.T).2=T' at *;have hfar:∀y∈H.L,¬(y.kind=x.kind∧y.slot=x.slot)→∀i:Nat,i<pn y.kind→∀j:Nat,j<pn x.kind→lo y.kind y.slot+i≠lo x.kind x.slot+j:=fun y hy hne i hi j hj e=>by
  obtain⟨b1,b2⟩:=h.at_ y hy;have:=cE b1 b2 a1 a2 hi hj e;exact hne ⟨this.1,this.2.1⟩
 refine⟨⟨w.ok,?_,fun y hy=>h.at_ y (aN.1 hy).1,fun y hy=> ?_,fun y hy i hi=> ?_,fun y hy hy7=> ?_,fun c=>⟨(hl c).1,fun v=> ?_⟩⟩,w⟩
 ·unfold hDel;exact List.Nodup.sublist (List.Sublist.map _ List.filter_sublist) h.nd
 ·have hy2:=(w.mem y).1 hy;obtain⟨z,hz,i,hi,e⟩:=h.dom y hy2.1;refine⟨z,aN.2 ⟨hz,fun e2=> ?_⟩,i,hi,e⟩;exact hy2.2 i (by rw[←e2.1];exact hi) (by rw[e,e2.1,e2.2])
 ·have hy2:=aN.1 hy;rw[w.far _ fun j hj=>hfar y hy2.1 hy2.2 i hi j hj];exact h.cov y hy2.1 i hi
 ·have hy2:=aN.1 hy;have p:=(aj (h.at_ y hy2.1).1).1.1;have hs:=h.sm y hy2.1 hy7;have hff:tbF T' (lo y.kind y.slot)=tbF H.T (lo y.kind y.slot):=w.far _ fun j hj=>by have:=hfar y hy2.1 hy2.2 0 (by omega) j hj;simpa using this
  obtain⟨q,e1,m1⟩:=hs.page h.tp.tb;have m2:(lo y.kind y.slot,(q:Int))∈T':=(w.mem _).2 ⟨m1,fun j hj=>by have:=hfar y hy2.1 hy2.2 0 (by omega) j hj;simpa using this⟩;exact hs.ext w.stp.bl (by rw[e1];exact w.win q ⟨_,m2⟩) hff
 ·rw[(hl c).2 v,(h.ln c).2 v];constructor
  ·rintro⟨⟨y,hy,y1,y2,y3,y4⟩,e⟩;exact⟨y,aN.2 ⟨hy,fun e2=>e ⟨by rw[←y1,e2.1],by rw[y3,←y1,e2.1,e2.2]⟩⟩,y1,y2,y3,y4⟩
  ·rintro⟨y,hy,y1,y2,y3,y4⟩;have hy2:=aN.1 hy;refine⟨⟨y,hy2.1,y1,y2,y3,y4⟩,fun e=> ?_⟩;obtain⟨b1,b2⟩:=h.at_ y hy2.1;have q1:=(aj a1).1.1;have q2:=(aj b1).1.1;have:=cE b1 b2 a1 a2 (i:=0) (i':=0) (by omega) (by omega) (by rw[y1,←y3,e.2]);exact hy2.2 ⟨this.1,this.2.1⟩
theorem HpOk.add(h:HpOk C m H)(_:MsOk m){has':List Bool}{T':Tb}(hc:c≤23)(hs:s<sn c)(hn:¬Held H.L c s)(tk:Took C k H.W (pn c) (lo c s) m.has H.T has' T')(hg:c≤7→SmOk m.bs T' ⟨c,s,g⟩){ln':Nat→List Int}{ss':List Sp}
  (hl:∀d,(ln' d).Nodup∧∀v,v∈ln' d↔v∈H.ln d∨(d=c∧c≤7∧v=lo c s∧¬g.Full)):HpOk C ⟨has',m.bs,ss'⟩ ⟨H.W,T',H.L++[⟨c,s,g⟩],ln'⟩:=by
 have hfar:∀y∈H.L,∀i:Nat,i<pn y.kind→∀j:Nat,j<pn c→lo y.kind y.slot+i≠lo c s+j:=fun y hy i hi j hj e=>by
  obtain⟨b1,b2⟩:=h.at_ y hy;have:=cE b1 b2 hc hs hi hj e;exact hn ⟨y,hy,this.1,this.2.1⟩
 have hmem:∀y:Hd,y∈H.L++[⟨c,s,g⟩]↔y∈H.L∨y=⟨c,s,g⟩:=fun y=>by simp
 refine⟨tk.ok,?_,fun y hy=> ?_,fun y hy=> ?_,fun y hy i hi=> ?_,fun y hy hy7=> ?_,fun d=>⟨(hl d).1,fun v=> ?_⟩⟩
 ·rw[List.map_append,List.nodup_append];refine⟨h.nd,by simp,fun a ha b hb e=> ?_⟩;obtain⟨y,hy,rfl⟩:=List.mem_map.1 ha;simp only[List.map_cons,List.map_nil,List.mem_singleton] at hb;rw[hb] at e;simp only[Prod.mk.injEq] at e;exact hn ⟨y,hy,e.1,e.2⟩
 ·rcases(hmem y).1 hy with e|rfl
  ·exact h.at_ y e
  ·exact⟨hc,hs⟩
 ·rcases tk.new y hy with e|⟨⟨i,hi,e⟩,_⟩
  ·obtain⟨z,hz,i,hi,e2⟩:=h.dom y e;exact⟨z,(hmem z).2 (.inl hz),i,hi,e2⟩
  ·exact⟨⟨c,s,g⟩,(hmem _).2 (.inr rfl),i,hi,e⟩
 ·rcases(hmem y).1 hy with e|rfl
  ·rw[tk.far _ fun j hj=>hfar y e i hi j hj];exact h.cov y e i hi
  ·exact tk.got i hi
 ·rcases(hmem y).1 hy with e|rfl
  ·have p:=(aj (h.at_ y e).1).1.1;exact(h.sm y e hy7).ext rfl rfl (tk.far _ fun j hj=>by have:=hfar y e 0 (by omega) j hj;simpa using this)
  ·exact hg hy7
 ·rw[(hl d).2 v,(h.ln d).2 v];constructor
  ·rintro(⟨y,hy,r⟩|⟨rfl,r1,r2,r3⟩)
   ·exact⟨y,(hmem y).2 (.inl hy),r⟩
   ·exact⟨⟨d,s,g⟩,(hmem _).2 (.inr rfl),rfl,r1,r2,r3⟩
  ·rintro⟨y,hy,r1,r2,r3,r4⟩;rcases(hmem y).1 hy with e|rfl
   ·exact .inl ⟨y,e,r1,r2,r3,r4⟩
   ·have r1:c=d:=r1;subst r1;exact .inr ⟨rfl,r2,r3,r4⟩
end
def lnS(ln:Nat→List Int)(c:Nat)(x:List Int):Nat→List Int:=fun d=>if d=c then x else ln d
def od(k:Nat)(m:Ms)(H:Hp)(c:Nat):Option (Ms×Hp):=
 if hSl H.L c<sn c∧pn c≤Cq.frI k m.has H.W then
  some (⟨(takN k H.W (pn c) (lo c (hSl H.L c)) m.has H.T).1,m.bs,m.ss⟩,⟨H.W,(takN k H.W (pn c) (lo c (hSl H.L c)) m.has H.T).2,H.L++[⟨c,hSl H.L c,⟨(tbF (takN k H.W (pn c) (lo c (hSl H.L c)) m.has H.T).2 (lo c (hSl H.L c))).toNat * 512,c,0,[],[]⟩⟩],H.ln⟩)
 else none
def hSm(m:Ms)(H:Hp)(c:Nat)(v:Int):Ms×Hp×Int:=
 match hAt H.L c (v - lo c 0).toNat with
 |none=>(m,H,0)
 |some x=>(⟨m.has,paB x.pg m.bs,paT x.pg m.ss⟩,⟨H.W,H.T,hSet H.L c x.slot (paS x.pg),if(paS x.pg).Full then lnS H.ln c (liR (H.ln c) v) else H.ln⟩,adI c x.slot (paV x.pg))
def hM(k:Nat)(m:Ms)(H:Hp)(n:Int):Ms×Hp×Int×Int:=
 if ofI n<0 then(m,H,0,2)
 else if 8≤(ofI n).toNat then
  match od k m H (ofI n).toNat with
  |none=>(m,H,0,13)
  |some r=>(r.1,r.2,adI (ofI n) (hSl H.L (ofI n).toNat) 0,0)
 else match H.ln (ofI n).toNat with
  |v::_=>((hSm m H (ofI n).toNat v).1,(hSm m H (ofI n).toNat v).2.1,(hSm m H (ofI n).toNat v).2.2,0)
  |[]=>match od k m H (ofI n).toNat with
   |none=>(m,H,0,13)
   |some r=>
    let v:=lo (ofI n).toNat (hSl H.L (ofI n).toNat)
    let H':Hp:=⟨r.2.W,r.2.T,r.2.L,lnS r.2.ln (ofI n).toNat [v]⟩
    ((hSm r.1 H' (ofI n).toNat v).1,(hSm r.1 H' (ofI n).toNat v).2.1,(hSm r.1 H' (ofI n).toNat v).2.2,0)
section
variable{C:Nat→Prop}{k:Nat}{m:Ms}{H:Hp}{bs:List UInt8}{g:Pg}{T:Tb}{L:List Hd}{c s:Nat}
theorem km(h:c≤7)(s:Nat):lo c s=((c+1) * 256+s:Nat):=by
 rw[qU (by omega),((aj (show c≤23 by omega)).2.2.2.2.2 h).1,Nat.mul_one]
theorem cU(h:c≤7)(s:Nat):(lo c s - lo c 0).toNat=s:=by rw[km h,km h];omega
theorem iC{b:Nat}(h:c≤7):paS ⟨b,c,0,[],[]⟩=⟨b,c,1,[],[]⟩∧paV ⟨b,c,0,[],[]⟩=0∧(∀bs,paB ⟨b,c,0,[],[]⟩ bs=bs)∧(∀ss,paT ⟨b,c,0,[],[]⟩ ss=ss)∧¬Pg.Full ⟨b,c,1,[],[]⟩:=by
 obtain⟨_,⟨h2,_⟩,_⟩:=ai c h;have hf:¬Pg.Full ⟨b,c,0,[],[]⟩:=by unfold Pg.Full Pg.used;simp;omega
 have h1:¬Pg.Full ⟨b,c,1,[],[]⟩:=by unfold Pg.Full Pg.used;simp;omega
 obtain⟨_,e2,e3,_,e5⟩:=pa_F (bs:=[]) hf rfl rfl;exact⟨e3,by rw[e2];rfl,fun bs=>(pa_F (bs:=bs) hf rfl rfl).2.2.2.1,e5,h1⟩
theorem xH(ok:MsOk m)(hc:c≤7){q:Nat}(hq:q<m.has.length)(hf:m.has.getD q true=false)(ht:tbF T (lo c s)=(q:Int)):SmOk m.bs T ⟨c,s,⟨q * 512,c,1,[],[]⟩⟩:=by
 obtain⟨_,⟨h2,_⟩,_⟩:=ai c hc;have hb:q * 512+512≤m.bs.length:=by have:=ok.len;omega
 refine⟨⟨hc,by show q * 512 % 512=0;omega,hb,trivial,trivial,List.nodup_nil,fun x hx=>by simp at hx,by show 1≤pp c;omega⟩,fun i h1 h2 hne=> ?_,rfl,by rw[ht];show((q * 512:Nat):Int)=_;omega⟩;exfalso;have hw:=ok.cl q hq hf;have e1:=aZ m.bs (q * 512) (i - q * 512) (by have h2:i<q * 512+512:=h2;omega);rw[show q * 512+(i - q * 512)=i by have h1:q * 512≤i:=h1;omega,hw] at e1;rw[←e1] at hne;exact hne (lF _ _)
structure Fresh(C:Nat→Prop)(k:Nat)(m:Ms)(H:Hp)(c s:Nat)(g:Pg)(ln':Nat→List Int)(m':Ms)(H':Hp):Prop where
 fc:c≤23
 fs:s<sn c
 free:¬Held H.L c s
 low:s=hSl H.L c
 took:Took C k H.W (pn c) (lo c s) m.has H.T m'.has H'.T
 em:m'=⟨m'.has,m.bs,m.ss⟩
 eH:H'=⟨H.W,H'.T,H.L++[⟨c,s,g⟩],ln'⟩
def MWay(C:Nat→Prop)(k:Nat)(m:Ms)(H:Hp)(n:Int)(r:Ms×Hp×Int×Int):Prop:=
 (ofI n<0∧r=(m,H,0,2))∨
 (0≤ofI n∧r=(m,H,0,13)∧(8≤ofI n∨H.ln (ofI n).toNat=[])∧(sn (ofI n).toNat≤hSl H.L (ofI n).toNat∨Cq.frI k m.has H.W<pn (ofI n).toNat))∨
 (∃c:Nat,ofI n=(c:Int)∧8≤c∧∃s m' H' g,Fresh C k m H c s g H.ln m' H'∧r=(m',H',adI c s 0,0))∨
 (∃c:Nat,ofI n=(c:Int)∧c≤7∧H.ln c=[]∧∃s m' H' q,Fresh C k m H c s ⟨q * 512,c,1,[],[]⟩ (lnS H.ln c [lo c s]) m' H'∧(lo c s,(q:Int))∈H'.T∧m.has.getD q true=false∧r=(m',H',adI c s 0,0))∨
 (∃c:Nat,ofI n=(c:Int)∧c≤7∧∃x∈H.L,x.kind=c∧¬x.pg.Full∧(∃t,H.ln c=lo c x.slot::t)∧r=(⟨m.has,paB x.pg m.bs,paT x.pg m.ss⟩,⟨H.W,H.T,hSet H.L c x.slot (paS x.pg),if(paS x.pg).Full then lnS H.ln c (liR (H.ln c) (lo c x.slot)) else H.ln⟩,adI c x.slot (paV x.pg),0))
theorem mr(hC:∀q,Cq.inW k H.W q=true→C q)(h:HpOk C m H)(ok:MsOk m)(hc:c≤23)(hs:hSl H.L c<sn c)(hf:pn c≤Cq.frI k m.has H.W):
  Took C k H.W (pn c) (lo c (hSl H.L c)) m.has H.T (takN k H.W (pn c) (lo c (hSl H.L c)) m.has H.T).1 (takN k H.W (pn c) (lo c (hSl H.L c)) m.has H.T).2:=
 lh hC _ _ _ _ h.tp ok.cap hf fun i hi=>by
  have l:=nO hc hs hi;refine⟨l.2.2,?_⟩;by_cases e:tbF H.T (lo c (hSl H.L c)+i)<0
  ·exact e
  ·exfalso;obtain⟨x,hx,j,hj,e2⟩:=h.dom _ (h.tp.tb.aQ e);obtain⟨b1,b2⟩:=h.at_ x hx;have:=cE hc hs b1 b2 hi hj e2;exact gq hs ⟨x,hx,this.1.symm,this.2.1.symm⟩
theorem qd(hn:¬Held L c s):hAt (L++[⟨c,s,g⟩]) c s=some ⟨c,s,g⟩:=by
 unfold hAt;rw[List.find?_append,List.find?_eq_none.2 fun x hx e=>hn ⟨x,hx,by simpa using e⟩];simp
theorem mB(hn:¬Held L c s)(g':Pg):hSet (L++[⟨c,s,g⟩]) c s g'=L++[⟨c,s,g'⟩]:=by
 unfold hSet;rw[List.map_append];congr 1
 ·conv=>rhs;rw[←List.map_id L]
  apply List.map_congr_left;intro x hx;rw[if_neg fun e=>hn ⟨x,hx,e⟩];rfl
 ·simp
theorem iB(hC:∀q,Cq.inW k H.W q=true→C q)(h:HpOk C m H)(ok:MsOk m)(n:Int):MWay C k m H n (hM k m H n):=by
 unfold hM;by_cases h0:ofI n<0
 ·rw[if_pos h0];exact Or.inl ⟨h0,rfl⟩
 rw[if_neg h0];have hr:ofI n≤23:=by
  have:¬(n<1∨8192<n):=fun e=>h0 (by rw[(cy n).2 e];decide)
  exact(bY n (by omega) (by omega)).2
 obtain⟨c,hc⟩:∃c:Nat,ofI n=(c:Int):=⟨(ofI n).toNat,by omega⟩;have hcc:c≤23:=by omega
 rw[hc,Int.toNat_natCast];by_cases hroom:hSl H.L c<sn c∧pn c≤Cq.frI k m.has H.W
 case neg=>
  have hno:od k m H c=none:=if_neg hroom;have hor:sn c≤hSl H.L c∨Cq.frI k m.has H.W<pn c:=by omega
  by_cases h8:8≤c
  ·rw[if_pos h8,hno];exact Or.inr (.inl ⟨by omega,rfl,.inl (by omega),by rw[hc,Int.toNat_natCast];exact hor⟩)
  ·rw[if_neg h8];cases hln:H.ln c with
   |nil=>dsimp only;rw[hno];exact Or.inr (.inl ⟨by omega,rfl,.inr (by rw[hc,Int.toNat_natCast];exact hln),by rw[hc,Int.toNat_natCast];exact hor⟩)
   |cons v t=>
    obtain⟨x,hx,x1,x2,x3,x4⟩:=((h.ln c).2 v).1 (by rw[hln];simp);refine Or.inr (.inr (.inr (.inr ⟨c,hc,by omega,x,hx,x1,x4,⟨t,by rw[hln,x3]⟩,?_⟩)));dsimp only;unfold hSm;have:=fE h.nd hx;rw[x1] at this;rw[x3,cU (by omega),this]
 have ht:=mr hC h ok hcc hroom.1 hroom.2;have hno:od k m H c=some _:=if_pos hroom;rw[hno];have hfr:=gq hroom.1;generalize hs:hSl H.L c=s at *;generalize (takN k H.W (pn c) (lo c s) m.has H.T).1=has' at *;generalize (takN k H.W (pn c) (lo c s) m.has H.T).2=T' at *;by_cases h8:8≤c
 ·rw[if_pos h8];exact Or.inr (.inr (.inl ⟨c,hc,h8,s,_,_,_,⟨hcc,hroom.1,hfr,hs.symm,ht,rfl,rfl⟩,rfl⟩))
 ·rw[if_neg h8];cases hln:H.ln c with
  |cons v t=>
   obtain⟨x,hx,x1,x2,x3,x4⟩:=((h.ln c).2 v).1 (by rw[hln];simp);refine Or.inr (.inr (.inr (.inr ⟨c,hc,by omega,x,hx,x1,x4,⟨t,by rw[hln,x3]⟩,?_⟩)));dsimp only;unfold hSm;have:=fE h.nd hx;rw[x1] at this;rw[x3,cU (by omega),this]
  |nil=>
   dsimp only;have h7:c≤7:=by omega
   have hp1:=((aj hcc).2.2.2.2.2 h7).1;have hg:=ht.got 0 (by omega);simp only[Int.natCast_zero,Int.add_zero] at hg;have hmem:=ht.ok.tb.aQ hg;obtain⟨q,hq⟩:∃q:Nat,tbF T' (lo c s)=(q:Int):=⟨(tbF T' (lo c s)).toNat,by omega⟩;rw[hq] at hmem;have hqf:m.has.getD q true=false:=by
    rcases ht.new _ hmem with e|e
    ·exfalso;obtain⟨x,hx,j,hj,e2⟩:=h.dom _ e;obtain⟨b1,b2⟩:=h.at_ x hx;have:=cE hcc hroom.1 b1 b2 (i:=0) (by omega) hj (by simpa using e2);exact hfr ⟨x,hx,this.1.symm,this.2.1.symm⟩
    ·simpa using e.2
   refine Or.inr (.inr (.inr (.inl ⟨c,hc,h7,hln,s,⟨has',m.bs,m.ss⟩,⟨H.W,T',H.L++[⟨c,s,⟨q * 512,c,1,[],[]⟩⟩],lnS H.ln c [lo c s]⟩,q,⟨hcc,hroom.1,hfr,hs.symm,ht,rfl,rfl⟩,hmem,hqf,?_⟩)));unfold hSm;obtain⟨f1,f2,f3,f4,f5⟩:=iC (b:=q * 512) h7;dsimp only;rw[cU h7,hq,Int.toNat_natCast,qd hfr];dsimp only;rw[f1,f2,f3,f4,if_neg f5,mB hfr]
def Us(L:List Hd):Prop:=∀x∈L,x.kind≤7→0<x.pg.used
theorem pO{ln:Nat→List Int}{x:List Int}{d:Nat}{v:Int}:v∈lnS ln c x d↔if d=c then v∈x else v∈ln d:=by
 unfold lnS;split<;>rfl
theorem pN{ln:Nat→List Int}{x:List Int}{d:Nat}(h:(ln d).Nodup)(hx:x.Nodup):(lnS ln c x d).Nodup:=by
 unfold lnS;split
 ·exact hx
 ·exact h
structure eX(C:Nat→Prop)(m:Ms)(H:Hp)(m':Ms)(H':Hp):Prop where
 ok:HpOk C m' H'
 ms:MsOk m'
 stp:Stp m H.T m' H'.T
 us:Us H.L→Us H'.L
theorem HpOk.left(h:HpOk C m H)(ok:MsOk m):eX C m H m H:=⟨h,ok,Stp.refl _ _,id⟩
theorem HpOk.alloc(h:HpOk C m H)(ok:MsOk m){x:Hd}(hx:x∈H.L)(hk:x.kind≤7)(hf:¬x.pg.Full){ss':List Sp}:eX C m H ⟨m.has,paB x.pg m.bs,ss'⟩ ⟨H.W,H.T,hSet H.L x.kind x.slot (paS x.pg),if(paS x.pg).Full then lnS H.ln x.kind (liR (H.ln x.kind) (lo x.kind x.slot)) else H.ln⟩:=by
 have hs:=h.sm x hx hk;have hg:=hs.ok.given hs.cl hf;obtain⟨_,l2,l3⟩:=(Like.refl hs.ok).alloc hs.ok;have hv:lo x.kind x.slot∈H.ln x.kind:=((h.ln x.kind).2 _).2 ⟨x,hx,rfl,hk,rfl,hf⟩;obtain⟨a1,a2,a3⟩:=h.page (ss':=ss') ok hx hk (g':=paS x.pg) (bs':=paB x.pg m.bs) (ln':=if(paS x.pg).Full then lnS H.ln x.kind (liR (H.ln x.kind) (lo x.kind x.slot)) else H.ln) hg.ok hg.clean l2 (by rw[hg.kind,hs.kd]) hs.ok.alloc.2 l3 fun c=>by
  by_cases hF:(paS x.pg).Full
  ·rw[if_pos hF];refine⟨pN (h.ln c).1 ((h.ln _).1.filter _),fun v=> ?_⟩;rw[pO];by_cases e:c=x.kind
   ·subst e;rw[if_pos rfl,tI];by_cases e2:v=lo x.kind x.slot
    ·simp[e2,hF]
    ·simp[e2]
   ·rw[if_neg e,if_neg fun e2=>e e2.1]
  ·rw[if_neg hF];refine⟨(h.ln c).1,fun v=> ?_⟩;by_cases e:c=x.kind∧v=lo x.kind x.slot
   ·rw[if_pos e,e.1,e.2];simp[hF,hv]
   ·rw[if_neg e]
 refine⟨a1,a2,a3,fun u y hy h7=> ?_⟩;rcases(aV h.nd hx).1 hy with rfl|e
 ·show 0<(paS x.pg).used
  rw[hg.used];omega
 ·exact u y e.1 h7
theorem MWay.ok(h:HpOk C m H)(ok:MsOk m){n:Int}{r:Ms×Hp×Int×Int}(w:MWay C k m H n r):eX C m H r.1 r.2.1∧r.2.1.W=H.W∧r.1.ss.length≤m.ss.length+2:=by
 rcases w with⟨_,rfl⟩|⟨_,rfl,_⟩|⟨c,hc,h8,s,m',H',g,f,rfl⟩|⟨c,hc,h7,hln,s,m',H',q,f,hm,hq,rfl⟩|⟨c,hc,h7,x,hx,rfl,hf,_,rfl⟩
 ·exact⟨h.left ok,rfl,by simp⟩
 ·exact⟨h.left ok,rfl,by simp⟩
 ·have hT:=f.took;rw[f.em,f.eH];refine⟨⟨h.add ok f.fc f.fs f.free hT (fun e=>by omega) (fun d=>⟨(h.ln d).1,fun v=>⟨.inl,fun e=>e.elim id fun e=>by omega⟩⟩),hT.ms ok,hT.stp,fun u y hy h7=> ?_⟩,rfl,by simp⟩;rcases List.mem_append.1 hy with e|e
  ·exact u y e h7
  ·simp only[List.mem_singleton] at e;subst e;exact absurd h7 (by show ¬c≤7;omega)
 ·have hT:=f.took;have hlt:=hT.ok.lt ⟨_,hm⟩;rw[hT.len] at hlt;rw[f.em,f.eH];refine⟨⟨h.add ok f.fc f.fs f.free hT (fun e=>xH ok h7 hlt hq (aO hT.ok.tb hm)) (fun d=>⟨pN (h.ln d).1 (by simp),fun v=> ?_⟩),hT.ms ok,hT.stp,fun u y hy h7=> ?_⟩,rfl,by simp⟩
  ·rw[pO];have f5:=(iC (b:=q * 512) h7).2.2.2.2;by_cases e:d=c
   ·subst e;rw[if_pos rfl,hln];simp[h7,f5]
   ·rw[if_neg e];simp[e]
  ·rcases List.mem_append.1 hy with e|e
   ·exact u y e h7
   ·simp only[List.mem_singleton] at e;subst e;show 0<Pg.used ⟨q * 512,c,1,[],[]⟩;simp[Pg.used]
 ·refine⟨h.alloc ok hx h7 hf,rfl,?_⟩;show(paT x.pg m.ss).length≤_;unfold paT;split<;>simp
def hHad(L:List Hd)(c s:Nat)(j:Int):Option Hd:=match hAt L c s with
 |none=>none
 |some x=>if x.kind≤7∧¬x.pg.May j then none else some x
def hF(m:Ms)(H:Hp)(c s:Nat)(j:Int):Ms×Hp×Int:=match hHad H.L c s j with
 |none=>(m,H,13)
 |some x=>
  if 8≤x.kind then((letN (pn x.kind) (lo x.kind x.slot) m H.T).1,⟨H.W,(letN (pn x.kind) (lo x.kind x.slot) m H.T).2,hDel H.L x.kind x.slot,H.ln⟩,0)
  else if(pfS x.pg j).used=0 then
   ((letN (pn x.kind) (lo x.kind x.slot) ⟨m.has,pfB x.pg m.bs j,pfT x.pg m.ss j⟩ H.T).1,⟨H.W,(letN (pn x.kind) (lo x.kind x.slot) ⟨m.has,pfB x.pg m.bs j,pfT x.pg m.ss j⟩ H.T).2,hDel H.L x.kind x.slot,lnS H.ln x.kind (liR (H.ln x.kind) (lo x.kind x.slot))⟩,0)
  else(⟨m.has,pfB x.pg m.bs j,pfT x.pg m.ss j⟩,⟨H.W,H.T,hSet H.L x.kind x.slot (pfS x.pg j),if x.pg.Full then lnS H.ln x.kind (H.ln x.kind++[lo x.kind x.slot]) else H.ln⟩,0)
theorem HpOk.free(h:HpOk C m H)(ok:MsOk m){x:Hd}(hx:x∈H.L)(hk:x.kind≤7){j:Int}(hj:x.pg.May j){ss':List Sp}:HpOk C ⟨m.has,pfB x.pg m.bs j,ss'⟩ ⟨H.W,H.T,hSet H.L x.kind x.slot (pfS x.pg j),if x.pg.Full then lnS H.ln x.kind (H.ln x.kind++[lo x.kind x.slot]) else H.ln⟩∧MsOk ⟨m.has,pfB x.pg m.bs j,ss'⟩∧Stp m H.T ⟨m.has,pfB x.pg m.bs j,ss'⟩ H.T:=by
 have hs:=h.sm x hx hk;obtain⟨f1,_,_,f4⟩:=hs.ok.uJ hs.cl j;obtain⟨_,l2,l3⟩:=(Like.refl hs.ok).free hs.ok j;have f4:=f4 hj;have hkd:(pfS x.pg j).kind=x.pg.kind:=by unfold pfS;split<;>rfl
 have hnf:¬(pfS x.pg j).Full:=by
  unfold Pg.Full;rw[hkd];have:=hs.ok.free j;have h1:=hs.ok.count;have h2:=hs.ok.fr;unfold Pg.used at f4 ⊢;omega
 refine h.page ok hx hk (hs.ok.free j).1 f1 l2 (by rw[hkd,hs.kd]) (hs.ok.free j).2 l3 fun c=> ?_
 by_cases hF:x.pg.Full
 ·have hv:lo x.kind x.slot∉H.ln x.kind:=fun e=>by
   obtain⟨y,hy,y1,y2,y3,y4⟩:=((h.ln x.kind).2 _).1 e;obtain⟨a1,a2⟩:=h.at_ x hx;obtain⟨b1,b2⟩:=h.at_ y hy;have p1:=(aj a1).1.1;have:=cE a1 a2 b1 b2 (i:=0) (i':=0) (by omega) (by rw[y1];omega) (by rw[y1];simpa using y3);rw[cH h.nd hx hy this.1 this.2.1] at hF;exact y4 hF
  rw[if_pos hF];refine⟨pN (h.ln c).1 ?_,fun v=> ?_⟩
  ·rw[List.nodup_append];exact⟨(h.ln _).1,by simp,fun a ha b hb e=>by simp only[List.mem_singleton] at hb;subst hb;subst e;exact hv ha⟩
  ·rw[pO];by_cases e:c=x.kind
   ·subst e;rw[if_pos rfl,List.mem_append,List.mem_singleton];by_cases e2:v=lo x.kind x.slot
    ·simp[e2,hnf]
    ·simp[e2]
   ·rw[if_neg e,if_neg fun e2=>e e2.1]
 ·rw[if_neg hF];refine⟨(h.ln c).1,fun v=> ?_⟩;by_cases e:c=x.kind∧v=lo x.kind x.slot
  ·rw[if_pos e,e.1,e.2];have hv:lo x.kind x.slot∈H.ln x.kind:=((h.ln x.kind).2 _).2 ⟨x,hx,rfl,hk,rfl,hF⟩;simp[hnf,hv]
  ·rw[if_neg e]
theorem mD{x:Hd}{j:Int}(h:hHad L c s j=some x):x∈L∧x.kind=c∧x.slot=s∧(x.kind≤7→x.pg.May j):=by
 unfold hHad at h;cases e:hAt L c s with
 |none=>rw[e] at h;cases h
 |some y=>
  rw[e] at h;dsimp only at h;split at h
  ·cases h
  case isFalse hn=>
   cases h;obtain⟨a1,a2,a3⟩:=ky e;exact⟨a1,a2,a3,fun h7=>Classical.not_not.1 fun h8=>hn ⟨h7,h8⟩⟩
theorem kp:∀(n:Nat) (v:Int) (m:Ms) (T:Tb),(letN n v m T).1.ss.length=m.ss.length+n
 |0,_,_,_=>rfl
 |n+1,v,m,T=>by
  unfold letN;rw[kp n];show(m.ss++[_]).length+n=_;rw[List.length_append,List.length_singleton];omega
theorem jm(ss:List Sp)(j:Int):(pfT g ss j).length≤ss.length+2:=by unfold pfT;split<;>simp
theorem hF_ok(h:HpOk C m H)(ok:MsOk m)(c s:Nat)(j:Int):eX C m H (hF m H c s j).1 (hF m H c s j).2.1∧(hF m H c s j).2.1.W=H.W∧(hF m H c s j).1.ss.length≤m.ss.length+18:=by
 unfold hF;cases e:hHad H.L c s j with
 |none=>exact⟨h.left ok,rfl,by simp⟩
 |some x=>
  obtain⟨hx,x1,x2,x3⟩:=mD e;obtain⟨a1,a2⟩:=h.at_ x hx;have hp:=(aj a1).1;dsimp only;by_cases h8:8≤x.kind
  ·rw[if_pos h8];obtain⟨d1,d2⟩:=h.del ok hx (ln':=H.ln) fun d=>⟨(h.ln d).1,fun v=>⟨fun hv=>⟨hv,fun e=>by
    obtain⟨y,_,y1,y2,_⟩:=((h.ln d).2 v).1 hv;omega⟩,fun hv=>hv.1⟩⟩
   refine⟨⟨d1,d2.ms,d2.stp,fun u y hy h7=>u y (aN.1 hy).1 h7⟩,rfl,?_⟩;dsimp only;rw[kp];omega
  ·rw[if_neg h8];have hk:x.kind≤7:=by omega
   have hj:=x3 hk;obtain⟨b1,b2,b3⟩:=h.free ok hx hk hj (ss':=pfT x.pg m.ss j);have hpl:=jm (g:=x.pg) m.ss j;by_cases hu:(pfS x.pg j).used=0
   ·rw[if_pos hu];have hx':(⟨x.kind,x.slot,pfS x.pg j⟩:Hd)∈hSet H.L x.kind x.slot (pfS x.pg j):=(aV h.nd hx).2 (.inl rfl);have hnf:¬x.pg.Full:=fun hF=>by
     have hs:=h.sm x hx hk;have:=(hs.ok.uJ hs.cl j).2.2.2 hj;have hp2:=(ai x.pg.kind hs.ok.kind).2.1.1;unfold Pg.Full at hF;omega
    rw[if_neg hnf] at b1;obtain⟨d1,d2⟩:=b1.del b2 hx' (ln':=lnS H.ln x.kind (liR (H.ln x.kind) (lo x.kind x.slot))) fun d=>⟨pN (h.ln d).1 ((h.ln _).1.filter _),fun v=>by
     show _↔v∈H.ln d∧¬(d=x.kind∧v=lo x.kind x.slot)
     rw[pO];by_cases e:d=x.kind
     ·subst e;rw[if_pos rfl,tI];simp
     ·rw[if_neg e];simp[e]⟩
    have hdel:hDel (hSet H.L x.kind x.slot (pfS x.pg j)) x.kind x.slot=hDel H.L x.kind x.slot:=by
     unfold hDel hSet;rw[List.filter_map];have:(H.L.filter ((fun x_1:Hd=>decide (¬(x_1.kind=x.kind∧x_1.slot=x.slot))) ∘ fun x_1=>if x_1.kind=x.kind∧x_1.slot=x.slot then⟨x_1.kind,x_1.slot,pfS x.pg j⟩ else x_1))=H.L.filter fun x_1=>decide (¬(x_1.kind=x.kind∧x_1.slot=x.slot)):=by
      apply List.filter_congr;intro y _;by_cases e:y.kind=x.kind∧y.slot=x.slot
      ·simp[e]
      ·show decide (¬((if y.kind=x.kind∧y.slot=x.slot then(⟨y.kind,y.slot,pfS x.pg j⟩:Hd) else y).kind=x.kind∧(if y.kind=x.kind∧y.slot=x.slot then(⟨y.kind,y.slot,pfS x.pg j⟩:Hd) else y).slot=x.slot))=_
       rw[if_neg e]
     rw[this]
     conv=>rhs;rw[←List.map_id (List.filter _ H.L)]
     apply List.map_congr_left;intro y hy;have:=(List.mem_filter.1 hy).2;simp only[decide_eq_true_eq] at this;rw[if_neg this];rfl
    dsimp only at d1 d2 ⊢;rw[hdel] at d1;refine⟨⟨d1,d2.ms,b3.trans d2.stp ok d2.ms,fun u y hy h7=>u y (aN.1 hy).1 h7⟩,rfl,?_⟩;rw[kp];show(pfT x.pg m.ss j).length+_≤_;omega
   ·rw[if_neg hu];refine⟨⟨b1,b2,b3,fun u y hy h7=> ?_⟩,rfl,by show(pfT x.pg m.ss j).length≤_;omega⟩;rcases(aV h.nd hx).1 hy with rfl|e
    ·show 0<(pfS x.pg j).used
     omega
    ·exact u y e.1 h7
end
end Go.Proofs.YtndhbnhobhkmaaaGreatDoor
