/-
  What lies in memory and the heap that it stands for; a heap as one thing, and as things side by side.
  The program's heap as one thing; opened into things side by side, and closed again.
  Malloc: its ways, over what lies in memory.
-/
import Derived.Test.YtndhbnhobhkmaaaGreatDoorHpCallsE
set_option maxRecDepth 20000
set_option maxHeartbeats 2000000
namespace Go.Proofs.YtndhbnhobhkmaaaGreatDoor
open Go.RowKit
open An
def shL(L:List Hd)(c:Nat):List Bool:=(List.range (sn c)).map (bq L c)
section
variable{L L':List Hd}{c d s t:Nat}{g:Pg}
theorem aA:(shL L c).length=sn c:=by simp[shL]
theorem cU(hs:s<sn c):(shL L c)[s]'(by rw[aA];exact hs)=bq L c s:=by simp[shL]
theorem mZ(hs:s<sn c):Sf.isT (shL L c) s=bq L c s:=by
 unfold Sf.isT Sf.hasN;rw[aA,decide_eq_true ⟨by omega,by omega⟩,Bool.true_and,Int.toNat_natCast,List.getD_eq_getElem?_getD,List.getElem?_eq_getElem (by rw[aA];exact hs),Option.getD_some,cU hs]
theorem sH:Sf.low (shL L c)=hSl L c:=by
 rcases Cq.bF (fun s=> !bq L c s) (sn c) with⟨h1,h2,h3⟩|⟨h1,h2⟩
 ·have h1:hSl L c<sn c:=h1;refine Sf.bM _ _ (by rw[aA];exact h1) ?_ fun i hi=> ?_
  ·rw[cU h1];have h2:(!bq L c (hSl L c))=true:=h2;simpa using h2
  ·have hi:i<hSl L c:=hi;rw[cU (by omega)];have:=h3 i hi;simpa using this
 ·have h1:hSl L c=sn c:=h1;rw[h1,←aA (L:=L)];exact Sf.km _ fun i hi=>by
   rw[aA] at hi;rw[cU hi];have:=h2 i hi;simpa using this
theorem mY(h:hSl L c<sn c):Sf.lowI (shL L c)=(hSl L c:Int):=by unfold Sf.lowI;rw[sH,aA,if_pos h]
theorem shL_no(h:¬hSl L c<sn c):Sf.lowI (shL L c)= -1:=by unfold Sf.lowI;rw[sH,aA,if_neg h]
theorem ri(h:L.map (fun x=>(x.kind,x.slot))=L'.map fun x=>(x.kind,x.slot))(c s:Nat):bq L c s=bq L' c s:=by
 have key:∀L:List Hd,bq L c s=true↔(c,s)∈L.map fun x=>(x.kind,x.slot):=fun L=>by
  rw[bR,List.mem_map];constructor
  ·rintro⟨x,hx,h1,h2⟩;exact⟨x,hx,by rw[h1,h2]⟩
  ·rintro⟨x,hx,h1⟩;simp only[Prod.mk.injEq] at h1;exact⟨x,hx,h1⟩
 have:bq L c s=true↔bq L' c s=true:=by rw[key L,key L',h]
 cases h1:bq L c s<;>cases h2:bq L' c s<;>simp_all
theorem oM(h:L.map (fun x=>(x.kind,x.slot))=L'.map fun x=>(x.kind,x.slot))(c:Nat):shL L c=shL L' c:=by
 unfold shL;apply List.map_congr_left;intro s _;exact ri h c s
theorem taS_in(hs:s<sn c):Sf.taS (shL L c) s=(shL L c).set s true:=by
 unfold Sf.taS Sf.hasN;rw[aA,if_pos (by simp;omega),Int.toNat_natCast]
theorem pV(hs:s<sn c):Sf.giS (shL L c) s=(shL L c).set s false:=by
 unfold Sf.giS Sf.hasN;rw[aA,if_pos (by simp;omega),Int.toNat_natCast]
theorem yQ(hs:s<sn c)(hn:¬Held L c s):Sf.taE (shL L c) s=0:=by
 unfold Sf.taE;rw[mZ hs,if_pos (by unfold Sf.hasN;rw[aA];simp;omega)];have:bq L c s=false:=by
  cases h:bq L c s
  ·rfl
  ·exact(hn (bR.1 h)).elim
 rw[this];rfl
theorem giE_in(hs:s<sn c)(hn:Held L c s):Sf.giE (shL L c) s=0:=by
 unfold Sf.giE;rw[mZ hs,bR.2 hn,if_pos (by unfold Sf.hasN;rw[aA];simp;omega)];rfl
theorem mr:bq (L++[⟨c,s,g⟩]) d t=(bq L d t||decide (c=d∧s=t)):=by simp[bq]
theorem mq:bq (hDel L c s) d t=(bq L d t&&decide (¬(d=c∧t=s))):=by
 have:bq (hDel L c s) d t=true↔(bq L d t&&decide (¬(d=c∧t=s)))=true:=by
  rw[bR,Bool.and_eq_true,bR,decide_eq_true_eq];constructor
  ·rintro⟨x,hx,rfl,rfl⟩;have:=aM.1 hx;exact⟨⟨x,this.1,rfl,rfl⟩,this.2⟩
  ·rintro⟨⟨x,hx,rfl,rfl⟩,h2⟩;exact⟨x,aM.2 ⟨hx,h2⟩,rfl,rfl⟩
 cases h1:bq (hDel L c s) d t<;>cases h2:(bq L d t&&decide (¬(d=c∧t=s)))<;>simp_all
theorem sJ(hs:s<sn c):shL (L++[⟨c,s,g⟩]) d=fset (shL L) c (Sf.taS (shL L c) s) d:=by
 rw[taS_in hs];by_cases e:d=c
 ·subst e;rw[aq];apply List.ext_getElem (by rw[List.length_set,aA,aA]);intro i h1 h2;rw[aA] at h1;rw[cU h1,List.getElem_set,mr];by_cases e2:s=i
  ·subst e2;simp
  ·rw[if_neg e2,cU h1];simp[e2]
 ·rw[aL _ _ e];unfold shL;apply List.map_congr_left;intro i _;rw[mr];simp[show ¬c=d from fun k=>e k.symm]
theorem sI(hs:s<sn c):shL (hDel L c s) d=fset (shL L) c (Sf.giS (shL L c) s) d:=by
 rw[pV hs];by_cases e:d=c
 ·subst e;rw[aq];apply List.ext_getElem (by rw[List.length_set,aA,aA]);intro i h1 h2;rw[aA] at h1;rw[cU h1,List.getElem_set,mq];by_cases e2:s=i
  ·subst e2;simp
  ·rw[if_neg e2,cU h1];simp[show ¬i=s from fun k=>e2 k.symm]
 ·rw[aL _ _ e];unfold shL;apply List.map_congr_left;intro i _;rw[mq];simp[e]
end
structure bm(R:Rs)(H:Hp):Prop where
 W:R.W=H.W
 T:R.T=H.T
 sh:∀c,c<24→R.sh c=shL H.L c
 ln:∀c,c<8→R.ln c=H.ln c
 pg:∀v g,v<6400→((∃p,R.pg v=some (p,g))↔∃x∈H.L,x.kind≤7∧lo x.kind x.slot=(v:Int)∧x.pg=g)
 hi:∀v,6400≤v→R.pg v=none
 cn:R.cnt=pgN R.pg
theorem pa{pg:Nat→Option (Nat×Pg)}{u:Nat}{y:Nat×Pg}(h:(pg u).isSome=true):pgN (fset pg u (some y))=pgN pg:=by
 unfold pgN;apply Cq.kH;intro i _;by_cases e:i=u
 ·subst e;rw[aq,h];rfl
 ·rw[aL _ _ e]
theorem wv{pg:Nat→Option (Nat×Pg)}{u:Nat}{y:Nat×Pg}(hu:u<6400)(h:pg u=none):pgN (fset pg u (some y))=pgN pg+1:=by
 unfold pgN;refine Cq.eU 6400 hu (by rw[aq];rfl) (by rw[h];rfl) fun i _ hne=> ?_
 rw[aL _ _ hne]
theorem wy{pg:Nat→Option (Nat×Pg)}{u:Nat}(hu:u<6400)(h:(pg u).isSome=true):pgN (fset pg u none)=pgN pg - 1:=by
 have:pgN pg=pgN (fset pg u none)+1:=by
  unfold pgN;refine Cq.eU 6400 hu h (by rw[aq];rfl) fun i _ hne=> ?_
  rw[aL _ _ hne]
 omega
section
variable{C:Nat→Prop}{M:Ms}{R:Rs}{H:Hp}{c s p:Nat}{g:Pg}{T':Tb}{ln1 ln2:Nat→List Int}
theorem ko{x:Hd}(h:HpOk C M H)(hx:x∈H.L)(hc:c≤23)(hs:s<sn c)(e:lo x.kind x.slot=lo c s):x.kind=c∧x.slot=s:=by
 obtain⟨a1,a2⟩:=h.at_ x hx;have p1:=(aj a1).1.1;have p2:=(aj hc).1.1;have:=cB a1 a2 hc hs (i:=0) (i':=0) (by omega) (by omega) (by simpa using e);exact⟨this.1,this.2.1⟩
theorem bm.at(r:bm R H)(h:HpOk C M H){x:Hd}(hx:x∈H.L)(h7:x.kind≤7):∃p,R.pg (lo x.kind x.slot).toNat=some (p,x.pg):=by
 obtain⟨l1,l2⟩:=aG h7 (h.at_ x hx).2;exact(r.pg _ x.pg l2).2 ⟨x,hx,h7,l1,rfl⟩
theorem bm.empty(r:bm R H)(h:HpOk C M H)(h7:c≤7)(hs:s<sn c)(hn:¬Held H.L c s):R.pg (lo c s).toNat=none:=by
 obtain⟨l1,l2⟩:=aG h7 hs;cases e:R.pg (lo c s).toNat with
 |none=>rfl
 |some y=>
  exfalso;obtain⟨x,hx,x1,x2,_⟩:=(r.pg _ y.2 l2).1 ⟨y.1,e⟩;rw[←l1] at x2;have:=ko h hx (by omega) hs x2;exact hn ⟨x,hx,this⟩
theorem bm.ok(r:bm R H)(h:HpOk C M H):PgOk M R:=fun v p g e=>by
 by_cases hv:v<6400
 ·obtain⟨x,hx,x1,_,rfl⟩:=(r.pg v g hv).1 ⟨p,e⟩;exact(h.sm x hx x1).ok
 ·rw[r.hi v (by omega)] at e;cases e
theorem ln_ok(h:HpOk C M H)(c:Nat):LiOk (H.ln c)∧(H.ln c).length≤5000:=by
 have key:∀v∈H.ln c,∃s:Nat,c≤7∧s<256∧v=lo c s∧lo c s=((c+1) * 256+s:Nat):=fun v hv=>by
  obtain⟨x,hx,x1,x2,x3,_⟩:=((h.ln c).2 v).1 hv;obtain⟨a1,a2⟩:=h.at_ x hx;subst x1;have:=(aj a1).2.1.2;exact⟨x.slot,x2,by omega,x3,kn x2 _⟩
 refine⟨⟨(h.ln c).1,fun v hv=> ?_⟩,?_⟩
 ·obtain⟨s,h1,h2,h3,h4⟩:=key v hv;omega
 ·have hn:((H.ln c).map Int.toNat).Nodup:=by
   rw[List.nodup_iff_pairwise_ne,List.pairwise_map];refine List.Pairwise.imp_of_mem ?_ (List.nodup_iff_pairwise_ne.1 (h.ln c).1);intro a b ha hb hne e;obtain⟨s,h1,h2,h3,h4⟩:=key a ha;obtain⟨s',k1,k2,k3,k4⟩:=key b hb;exact hne (by omega)
  have:=aF 2304 _ hn fun v hv=>by
   obtain⟨a,ha,rfl⟩:=List.mem_map.1 hv;obtain⟨s,h1,h2,h3,h4⟩:=key a ha;omega
  rw[List.length_map] at this;omega
theorem bm.page(r:bm R H)(h:HpOk C M H){x:Hd}(hx:x∈H.L)(h7:x.kind≤7)(hp:R.pg (lo x.kind x.slot).toNat=some (p,x.pg))(hl:∀c,c<8→ln1 c=ln2 c):bm ⟨R.W,R.T,R.sh,ln1,fset R.pg (lo x.kind x.slot).toNat (some (p,g)),R.cnt⟩ ⟨H.W,H.T,hSet H.L x.kind x.slot g,ln2⟩:=by
 obtain⟨a1,a2⟩:=h.at_ x hx;obtain⟨l1,l2⟩:=aG h7 a2;refine⟨r.W,r.T,fun c hc=> ?_,hl,fun v g' hv=> ?_,fun v hv=> ?_,?_⟩
 ·rw[r.sh c hc];exact(oM my c).symm
 ·show(∃p',fset R.pg (lo x.kind x.slot).toNat (some (p,g)) v=some (p',g'))↔∃y∈hSet H.L x.kind x.slot g,_;by_cases e:v=(lo x.kind x.slot).toNat
  ·subst e;rw[aq];constructor
   ·rintro⟨p',e⟩;simp only[Option.some.injEq,Prod.mk.injEq] at e;exact⟨⟨x.kind,x.slot,g⟩,(aU h.nd hx).2 (.inl rfl),h7,l1,e.2⟩
   ·rintro⟨y,hy,y1,y2,y3⟩;rcases(aU h.nd hx).1 hy with rfl|⟨e1,e2⟩
    ·exact⟨p,by rw[←y3]⟩
    ·rw[←l1] at y2;exact(e2 (ko h e1 a1 a2 y2)).elim
  ·rw[aL _ _ e,r.pg v g' hv];constructor
   ·rintro⟨y,hy,y1,y2,y3⟩;exact⟨y,(aU h.nd hx).2 (.inr ⟨hy,fun e2=>e (by rw[e2.1,e2.2] at y2;omega)⟩),y1,y2,y3⟩
   ·rintro⟨y,hy,y1,y2,y3⟩;rcases(aU h.nd hx).1 hy with rfl|⟨e1,e2⟩
    ·exact(e (by have y2:lo x.kind x.slot=v:=y2;omega)).elim
    ·exact⟨y,e1,y1,y2,y3⟩
 ·show fset R.pg (lo x.kind x.slot).toNat (some (p,g)) v=none
  rw[aL _ _ (by omega)];exact r.hi v hv
 ·show R.cnt=pgN (fset R.pg _ _)
  rw[pa (by rw[hp];rfl)];exact r.cn
theorem bm.run(r:bm R H)(h8:8≤c)(hc:c≤23)(hs:s<sn c):bm ⟨R.W,T',fset R.sh c (Sf.taS (R.sh c) s),R.ln,R.pg,R.cnt⟩ ⟨H.W,T',H.L++[⟨c,s,g⟩],H.ln⟩:=by
 refine⟨r.W,rfl,fun d hd=> ?_,r.ln,fun v g' hv=> ?_,r.hi,r.cn⟩
 ·show fset R.sh c (Sf.taS (R.sh c) s) d=shL (H.L++[⟨c,s,g⟩]) d
  rw[sJ hs,r.sh c (by omega)];by_cases e:d=c
  ·subst e;rw[aq,aq]
  ·rw[aL _ _ e,aL _ _ e,r.sh d hd]
 ·rw[r.pg v g' hv];constructor
  ·rintro⟨y,hy,rest⟩;exact⟨y,List.mem_append_left _ hy,rest⟩
  ·rintro⟨y,hy,y1,rest⟩;rcases List.mem_append.1 hy with e|e
   ·exact⟨y,e,y1,rest⟩
   ·simp only[List.mem_singleton] at e;subst e;have y1:c≤7:=y1;omega
theorem bm.small(r:bm R H)(h:HpOk C M H)(h7:c≤7)(hs:s<sn c)(hn:¬Held H.L c s)(hl:∀c,c<8→ln1 c=ln2 c):bm ⟨R.W,T',fset R.sh c (Sf.taS (R.sh c) s),ln1,fset R.pg (lo c s).toNat (some (p,g)),R.cnt+1⟩ ⟨H.W,T',H.L++[⟨c,s,g⟩],ln2⟩:=by
 obtain⟨l1,l2⟩:=aG h7 hs;refine⟨r.W,rfl,fun d hd=> ?_,hl,fun v g' hv=> ?_,fun v hv=> ?_,?_⟩
 ·show fset R.sh c (Sf.taS (R.sh c) s) d=shL (H.L++[⟨c,s,g⟩]) d
  rw[sJ hs,r.sh c (by omega)];by_cases e:d=c
  ·subst e;rw[aq,aq]
  ·rw[aL _ _ e,aL _ _ e,r.sh d hd]
 ·show(∃p',fset R.pg (lo c s).toNat (some (p,g)) v=some (p',g'))↔∃y∈H.L++[⟨c,s,g⟩],_;by_cases e:v=(lo c s).toNat
  ·subst e;rw[aq];constructor
   ·rintro⟨p',e⟩;simp only[Option.some.injEq,Prod.mk.injEq] at e;exact⟨⟨c,s,g⟩,by simp,h7,l1,e.2⟩
   ·rintro⟨y,hy,y1,y2,y3⟩;rcases List.mem_append.1 hy with e|e
    ·rw[←l1] at y2;exact(hn ⟨y,e,ko h e (by omega) hs y2⟩).elim
    ·simp only[List.mem_singleton] at e;subst e;exact⟨p,by rw[←y3]⟩
  ·rw[aL _ _ e,r.pg v g' hv];constructor
   ·rintro⟨y,hy,rest⟩;exact⟨y,List.mem_append_left _ hy,rest⟩
   ·rintro⟨y,hy,y1,y2,y3⟩;rcases List.mem_append.1 hy with e2|e2
    ·exact⟨y,e2,y1,y2,y3⟩
    ·simp only[List.mem_singleton] at e2;subst e2;exact(e (by have y2:lo c s=v:=y2;omega)).elim
 ·show fset R.pg (lo c s).toNat (some (p,g)) v=none
  rw[aL _ _ (by omega)];exact r.hi v hv
 ·show R.cnt+1=pgN (fset R.pg _ _)
  rw[wv l2 (r.empty h h7 hs hn),r.cn]
theorem bm.delRun(r:bm R H){x:Hd}(h8:8≤x.kind)(hc:x.kind≤23)(hs:x.slot<sn x.kind):bm ⟨R.W,T',fset R.sh x.kind (Sf.giS (R.sh x.kind) x.slot),R.ln,R.pg,R.cnt⟩ ⟨H.W,T',hDel H.L x.kind x.slot,H.ln⟩:=by
 refine⟨r.W,rfl,fun d hd=> ?_,r.ln,fun v g' hv=> ?_,r.hi,r.cn⟩
 ·show fset R.sh x.kind (Sf.giS (R.sh x.kind) x.slot) d=shL (hDel H.L x.kind x.slot) d
  rw[sI hs,r.sh x.kind (by omega)];by_cases e:d=x.kind
  ·subst e;rw[aq,aq]
  ·rw[aL _ _ e,aL _ _ e,r.sh d hd]
 ·rw[r.pg v g' hv];constructor
  ·rintro⟨y,hy,y1,rest⟩;exact⟨y,aM.2 ⟨hy,fun e=>by omega⟩,y1,rest⟩
  ·rintro⟨y,hy,rest⟩;exact⟨y,(aM.1 hy).1,rest⟩
theorem bm.xO(r:bm R H)(h:HpOk C M H){x:Hd}(hx:x∈H.L)(h7:x.kind≤7)(hp:R.pg (lo x.kind x.slot).toNat=some (p,x.pg))(hl:∀c,c<8→ln1 c=ln2 c):bm ⟨R.W,T',fset R.sh x.kind (Sf.giS (R.sh x.kind) x.slot),ln1,fset R.pg (lo x.kind x.slot).toNat none,R.cnt - 1⟩ ⟨H.W,T',hDel H.L x.kind x.slot,ln2⟩:=by
 obtain⟨a1,a2⟩:=h.at_ x hx;obtain⟨l1,l2⟩:=aG h7 a2;refine⟨r.W,rfl,fun d hd=> ?_,hl,fun v g' hv=> ?_,fun v hv=> ?_,?_⟩
 ·show fset R.sh x.kind (Sf.giS (R.sh x.kind) x.slot) d=shL (hDel H.L x.kind x.slot) d
  rw[sI a2,r.sh x.kind (by omega)];by_cases e:d=x.kind
  ·subst e;rw[aq,aq]
  ·rw[aL _ _ e,aL _ _ e,r.sh d hd]
 ·show(∃p',fset R.pg (lo x.kind x.slot).toNat none v=some (p',g'))↔∃y∈hDel H.L x.kind x.slot,_;by_cases e:v=(lo x.kind x.slot).toNat
  ·subst e;rw[aq];constructor
   ·rintro⟨p',e⟩;cases e
   ·rintro⟨y,hy,y1,y2,y3⟩;rw[←l1] at y2;exact((aM.1 hy).2 (ko h (aM.1 hy).1 a1 a2 y2)).elim
  ·rw[aL _ _ e,r.pg v g' hv];constructor
   ·rintro⟨y,hy,y1,y2,y3⟩;exact⟨y,aM.2 ⟨hy,fun e2=>e (by rw[e2.1,e2.2] at y2;omega)⟩,y1,y2,y3⟩
   ·rintro⟨y,hy,rest⟩;exact⟨y,(aM.1 hy).1,rest⟩
 ·show fset R.pg (lo x.kind x.slot).toNat none v=none
  rw[aL _ _ (by omega)];exact r.hi v hv
 ·show R.cnt - 1=pgN (fset R.pg _ _)
  rw[wy l2 (by rw[hp];rfl),r.cn]
end
def Hy(x:Px)(R:Rs):World→(Nat→Prop)→Prop:=Both (Blk x.h (hob x R.W.length)) (Both (Lv x.ad R.W) (Both (Fam 24 (shf x R.sh)) (Both (Fam 8 (lnf x R.ln)) (Both (Mg x.pb R.cnt (pgm R.pg)) (Fam 6400 (pgf x R.pg))))))
theorem Hy.good(x:Px)(R:Rs):Good (Hy x R):=Both.good (Blk.good ..) (Both.good (Lv.good ..) (Both.good (Fam.good (cF _ _)) (Both.good (Fam.good (cu _ _)) (Both.good (Mg.good ..) (Fam.good (bB _ _))))))
def Hx(h a m t k:Nat)(H:Hp)(w:World)(Z:Nat→Prop):Prop:=∃(x:Px) (R:Rs),(x.h=h∧x.a=a∧x.m=m∧x.t=t∧x.k=k)∧bm R H∧Hy x R w Z
theorem Hx.good(h a m t k:Nat)(H:Hp):Good (Hx h a m t k H):=
 ⟨fun⟨x,R,e,r,p⟩ f hs=>⟨x,R,e,r,(Hy.good x R).carry p f hs⟩,fun⟨x,R,e,r,p⟩ k1 k2=>⟨x,R,e,r,(Hy.good x R).mono p k1 k2⟩⟩
def Hm(h a m t k:Nat)(H:Hp):World→(Nat→Prop)→Prop:=Both (Hx h a m t k H) (Tm t H.T)
theorem Hm.good(h a m t k:Nat)(H:Hp):Good (Hm h a m t k H):=Both.good (Hx.good ..) (Tm.good ..)
def Ac(a m k:Nat)(M:Ms):World→(Nat→Prop)→Prop:=Both (Am 111 a M.bs M.ss) (Ct m k M.has)
theorem Ac.good(a m k:Nat)(M:Ms):Good (Ac a m k M):=Both.good (Am.good _ _ _ _) (Ct.good _ _ _)
def Hs(a m h t k:Nat)(M:Ms)(H:Hp):World→(Nat→Prop)→Prop:=Both (Ac a m k M) (Hm h a m t k H)
theorem Hs.good(a m h t k:Nat)(M:Ms)(H:Hp):Good (Hs a m h t k M H):=Both.good (Ac.good ..) (Hm.good ..)
def Hz(x:Px)(M:Ms)(R:Rs):World→(Nat→Prop)→Prop:=Both (Ac x.a x.m x.k M) (Both (Hy x R) (Tm x.t R.T))
theorem Hz.good(x:Px)(M:Ms)(R:Rs):Good (Hz x M R):=Both.good (Ac.good ..) (Both.good (Hy.good ..) (Tm.good ..))
theorem Hs.into{a m h t k:Nat}{M:Ms}{H:Hp}{w:World}{U:Nat→Prop}(q:Hs a m h t k M H w U):∃(x:Px) (R:Rs),(x.h=h∧x.a=a∧x.m=m∧x.t=t∧x.k=k)∧bm R H∧Hz x M R w U:=by
 obtain⟨Z,Y,h1,⟨Z2,Y2,⟨x,R,⟨rfl,rfl,rfl,rfl,rfl⟩,r,p⟩,g2,g3,g4,g5,g6⟩,h3,h4,h5,h6⟩:=q;exact⟨x,R,⟨rfl,rfl,rfl,rfl,rfl⟩,r,Z,Y,h1,⟨Z2,Y2,p,by rw[r.T];exact g2,g3,g4,g5,g6⟩,h3,h4,h5,h6⟩
theorem Hz.back{x:Px}{M:Ms}{R:Rs}{H:Hp}{w:World}{U:Nat→Prop}(q:Hz x M R w U)(r:bm R H):Hs x.a x.m x.h x.t x.k M H w U:=by
 obtain⟨Z,Y,h1,⟨Z2,Y2,p,g2,g3,g4,g5,g6⟩,h3,h4,h5,h6⟩:=q;exact⟨Z,Y,h1,⟨Z2,Y2,⟨x,R,⟨rfl,rfl,rfl,rfl,rfl⟩,r,p⟩,by rw[←r.T];exact g2,g3,g4,g5,g6⟩,h3,h4,h5,h6⟩
section
variable{W w:World}{x:Px}{M:Ms}{R:Rs}{O:World→(Nat→Prop)→Prop}{U:Nat→Prop}
theorem Hz.opened(h:aa W w [Hz x M R,O]):aa W w (hl x M R O []):=by
 have h1:=h.dc 0 (P:=Ac x.a x.m x.k M) (Q:=Both (Hy x R) (Tm x.t R.T)) rfl (Ac.good ..) (Both.good (Hy.good ..) (Tm.good ..));have h2:=h1.dc 0 (P:=Am 111 x.a M.bs M.ss) (Q:=Ct x.m x.k M.has) rfl (Am.good ..) (Ct.good ..);have h3:=h2.dc 2 (P:=Hy x R) (Q:=Tm x.t R.T) rfl (Hy.good ..) (Tm.good ..);have h4:=h3.dc 2 (P:=Blk x.h (hob x R.W.length)) (Q:=Both (Lv x.ad R.W) (Both (Fam 24 (shf x R.sh)) (Both (Fam 8 (lnf x R.ln)) (Both (Mg x.pb R.cnt (pgm R.pg)) (Fam 6400 (pgf x R.pg)))))) rfl (Blk.good ..) (Both.good (Lv.good ..) (Both.good (Fam.good (cF _ _)) (Both.good (Fam.good (cu _ _)) (Both.good (Mg.good ..) (Fam.good (bB _ _))))));have h5:=h4.dc 5 (P:=Lv x.ad R.W) (Q:=Both (Fam 24 (shf x R.sh)) (Both (Fam 8 (lnf x R.ln)) (Both (Mg x.pb R.cnt (pgm R.pg)) (Fam 6400 (pgf x R.pg))))) rfl (Lv.good ..) (Both.good (Fam.good (cF _ _)) (Both.good (Fam.good (cu _ _)) (Both.good (Mg.good ..) (Fam.good (bB _ _)))));have h6:=h5.dc 6 (P:=Fam 24 (shf x R.sh)) (Q:=Both (Fam 8 (lnf x R.ln)) (Both (Mg x.pb R.cnt (pgm R.pg)) (Fam 6400 (pgf x R.pg)))) rfl (Fam.good (cF _ _)) (Both.good (Fam.good (cu _ _)) (Both.good (Mg.good ..) (Fam.good (bB _ _))));have h7:=h6.dc 7 (P:=Fam 8 (lnf x R.ln)) (Q:=Both (Mg x.pb R.cnt (pgm R.pg)) (Fam 6400 (pgf x R.pg))) rfl (Fam.good (cu _ _)) (Both.good (Mg.good ..) (Fam.good (bB _ _)));exact h7.dc 8 (P:=Mg x.pb R.cnt (pgm R.pg)) (Q:=Fam 6400 (pgf x R.pg)) rfl (Mg.good ..) (Fam.good (bB _ _))
theorem Hz.closed(h:aa W w (hl x M R O [])):aa W w [Hz x M R,O]:=by
 have h1:aa W w ([Am 111 x.a M.bs M.ss,O,Blk x.h (hob x R.W.length),Ct x.m x.k M.has,Tm x.t R.T,Lv x.ad R.W,Fam 24 (shf x R.sh),Fam 8 (lnf x R.ln),Mg x.pb R.cnt (pgm R.pg)]++[Fam 6400 (pgf x R.pg)]):=h;have h2:=h1.join 8 rfl;have h3:aa W w ([Am 111 x.a M.bs M.ss,O,Blk x.h (hob x R.W.length),Ct x.m x.k M.has,Tm x.t R.T,Lv x.ad R.W,Fam 24 (shf x R.sh),Fam 8 (lnf x R.ln)]++[Both (Mg x.pb R.cnt (pgm R.pg)) (Fam 6400 (pgf x R.pg))]):=h2;have h4:=h3.join 7 rfl;have h5:aa W w ([Am 111 x.a M.bs M.ss,O,Blk x.h (hob x R.W.length),Ct x.m x.k M.has,Tm x.t R.T,Lv x.ad R.W,Fam 24 (shf x R.sh)]++[Both (Fam 8 (lnf x R.ln)) (Both (Mg x.pb R.cnt (pgm R.pg)) (Fam 6400 (pgf x R.pg)))]):=h4;have h6:=h5.join 6 rfl;have h7:aa W w ([Am 111 x.a M.bs M.ss,O,Blk x.h (hob x R.W.length),Ct x.m x.k M.has,Tm x.t R.T,Lv x.ad R.W]++[Both (Fam 24 (shf x R.sh)) (Both (Fam 8 (lnf x R.ln)) (Both (Mg x.pb R.cnt (pgm R.pg)) (Fam 6400 (pgf x R.pg))))]):=h6;have h8:=h7.join 5 rfl;have h9:aa W w ([Am 111 x.a M.bs M.ss,O,Blk x.h (hob x R.W.length),Ct x.m x.k M.has,Tm x.t R.T]++[Both (Lv x.ad R.W) (Both (Fam 24 (shf x R.sh)) (Both (Fam 8 (lnf x R.ln)) (Both (Mg x.pb R.cnt (pgm R.pg)) (Fam 6400 (pgf x R.pg)))))]):=h8;have h10:=h9.join 2 rfl;have h11:aa W w ([Am 111 x.a M.bs M.ss,O,Hy x R,Ct x.m x.k M.has]++[Tm x.t R.T]):=h10;have h12:=h11.join 2 rfl;have h13:aa W w ([Am 111 x.a M.bs M.ss,O,Both (Hy x R) (Tm x.t R.T)]++[Ct x.m x.k M.has]):=h12;have h14:=h13.join 0 rfl
 have h15:aa W w ([Ac x.a x.m x.k M,O]++[Both (Hy x R) (Tm x.t R.T)]):=h14;exact h15.join 0 rfl
def cM(U:Nat→Prop):Prop:=¬U 0∧¬U 2
theorem jv{w0:World}(gr:G17 w0)(fu:cM U):Cx (Bare w0) (Old w0 U):=⟨fun{w ts} h hj=>by
 obtain⟨Z,⟨_,h2,_⟩,_⟩:=h.get 1 hj;refine⟨?_,?_⟩
 ·intro j hj;rw[World.cell?_of_block (h2 0 (Tab.pos gr.1) fu.1).2];exact gr.1 j hj
 ·intro j hj;rw[World.cell?_of_block (h2 2 (Sf.Tab.pos gr.2) fu.2).2];exact gr.2 j hj⟩
theorem Hz.begin{w0:World}(q:Hz x M R w0 U):aa (Bare w0) w0 (hl x M R (Old w0 U) []):=Hz.opened (aa.begin (Hz.good ..) q q.lt)
theorem Hz.finish{w0:World}{M':Ms}{R':Rs}{H':Hp}(h:aa (Bare w0) w (hl x M' R' (Old w0 U) []))(hz:∀i,U i→i<w0.heap.size)(r:bm R' H'):∃U',Hs x.a x.m x.h x.t x.k M' H' w U'∧Gw w0 w U U':=by
 obtain⟨U',h1,h2⟩:=aa.finish (ts:=[]) (Hz.closed h) hz;exact⟨U',h1.back r,h2⟩
end
structure Hc(k:Nat)(M:Ms)(H:Hp):Prop where
 ok:HpOk (fun q=>Cq.inW k H.W q=true) M H
 ms:MsOk M
 k1:1≤k
 k2:k≤32
 ss:M.ss.length≤890000
 W:H.W.length≤17592186044416
def hFr(M:Ms)(H:Hp)(c s j E:Int):Ms×Hp×Int:=if E=0 then hF M H c.toNat s.toNat j else(M,H,13)
theorem xw{C:Nat→Prop}{M:Ms}{R:Rs}{H:Hp}(r:bm R H)(h:HpOk C M H){c s:Nat}(hc:c≤23)(hs:s<sn c)(j:Int):hasR R c s j=(hHad H.L c s j).isSome:=by
 unfold hasR hHad;by_cases h7:c≤7
 ·rw[if_pos h7];cases e:hAt H.L c s with
  |none=>
   rw[r.empty h h7 hs (pT e)];rfl
  |some x=>
   obtain⟨x1,rfl,rfl⟩:=kz e;obtain⟨p,hp⟩:=r.at h x1 h7;rw[hp];show decide (x.pg.May j)=(if x.kind≤7∧¬x.pg.May j then none else some x).isSome;by_cases hm:x.pg.May j
   ·rw[if_neg fun e=>e.2 hm];simp[hm]
   ·rw[if_pos ⟨h7,hm⟩];simp[hm]
 ·rw[if_neg h7,r.sh c (by omega),mZ hs];cases e:hAt H.L c s with
  |none=>
   cases e2:bq H.L c s
   ·rfl
   ·exact(pT e (bR.1 e2)).elim
  |some x=>
   obtain⟨x1,rfl,rfl⟩:=kz e;show bq H.L x.kind x.slot=(if x.kind≤7∧¬x.pg.May j then none else some x).isSome;rw[if_neg fun e=>h7 e.1,bR.2 ⟨x,x1,rfl,rfl⟩];rfl
section
variable{W w:World}{x:Px}{M:Ms}{R:Rs}{O:World→(Nat→Prop)→Prop}{ts:List (World→(Nat→Prop)→Prop)}
theorem kt(cx:Cx W O)(h:aa W w (hl x M R O ts)){n:Int}(hn:ofI n<0):Calls Tryz.prog 127 #[.pointer (some ⟨x.h,0,none⟩),.int .i64 n] w fun e w'=>e=.returned (.tuple #[.int .i64 0,.int .i64 2])∧aa W w' (hl x M R O ts):=by
 have H1:Hid (Calls Tryz.prog 45 #[.int .i64 n] w fun e w'=>e=.returned (.int .i64 (ofI n))∧aa W w' (hl x M R O ts)):=(k_of n (cx.at h).k).mono fun e w' ⟨he,k⟩=>⟨he,h.kept k.fr⟩
 clear cx h;generalize ofI n=o at *;go_enter Tryz.func127,Tryz.ntmps127;go_wp2_with fail;refine wp_scope_jumps 0 (fun _ _=>False) (fun _ _=>0) rfl ?first (fun _ _ h=>h.elim)
 case first=>
  go_wp2_with fail;refine H1.out.mono ?_;rintro e w1 ⟨rfl,h1⟩;have T1:=hid h1;clear h1 H1;go_wp2;rw[ao];go_ret2;exact⟨by simp,T1.out⟩
theorem fO(cx:Cx W O)(h:aa W w (hl x M R O ts)){n:Int}{c:Nat}(hn:ofI n=c)(h8:¬c≤7)(hc:c≤23){a E:Int}{P:World→Prop}(hr:∀w1,aa W w1 (hl x M R O ts)→Calls Tryz.prog 174 #[.pointer (some ⟨x.h,0,none⟩),.int .i64 (c:Int)] w1 fun e w'=>e=.returned (.tuple #[.int .i64 a,.int .i64 E])∧P w'):Calls Tryz.prog 127 #[.pointer (some ⟨x.h,0,none⟩),.int .i64 n] w fun e w'=>e=.returned (.tuple #[.int .i64 a,.int .i64 E])∧P w':=by
 have H1:Hid (Calls Tryz.prog 45 #[.int .i64 n] w fun e w'=>e=.returned (.int .i64 (c:Int))∧aa W w' (hl x M R O ts)):=(k_of n (cx.at h).k).mono fun e w' ⟨he,k⟩=>⟨by rw[he,hn],h.kept k.fr⟩
 have H2:Hid (∀w1,aa W w1 (hl x M R O ts)→Calls Tryz.prog 129 #[.int .i64 (c:Int)] w1 fun e w'=>e=.returned (.bool false)∧w'=w1):=fun w1 h1=>by
  have:=dR (cx.at h1) hc;rw[decide_eq_false h8] at this;exact this
 have H3:=hid hr;clear cx h hr hn hc h8;go_enter Tryz.func127,Tryz.ntmps127;go_wp2_with fail;refine wp_scope_jumps 0 (fun _ _=>False) (fun _ _=>0) rfl ?first (fun _ _ h=>h.elim)
 case first=>
  go_wp2_with fail;refine H1.out.mono ?_;rintro e w1 ⟨rfl,h1⟩;have H4:=hid (H2.out _ h1);have H5:=hid (H3.out _ h1);clear h1 H1 H2 H3;go_wp2_with fail;refine H4.out.mono ?_;rintro e w2 ⟨rfl,hw2⟩;obtain rfl:=hw2.symm;clear H4 hw2;go_wp2_with fail;refine H5.out.mono ?_;rintro e w3 ⟨rfl,h3⟩;have T3:=hid h3;clear h3 H5;go_wp2;rw[ao];go_ret2;exact⟨by simp,T3.out⟩
theorem ja(cx:Cx W O)(h:aa W w (hl x M R O ts)){n v:Int}{c:Nat}(hn:ofI n=c)(h7:c≤7)(lk:LiOk (R.ln c))(hv:liF (R.ln c)=v)(hv0:0≤v){a E:Int}{P:World→Prop}(hr:∀w1,aa W w1 (hl x M R O ts)→Calls Tryz.prog 176 #[.pointer (some ⟨x.h,0,none⟩),.int .i64 (c:Int),.int .i64 v] w1 fun e w'=>e=.returned (.tuple #[.int .i64 a,.int .i64 E])∧P w'):Calls Tryz.prog 127 #[.pointer (some ⟨x.h,0,none⟩),.int .i64 n] w fun e w'=>e=.returned (.tuple #[.int .i64 a,.int .i64 E])∧P w':=by
 have H1:Hid (Calls Tryz.prog 45 #[.int .i64 n] w fun e w'=>e=.returned (.int .i64 (c:Int))∧aa W w' (hl x M R O ts)):=(k_of n (cx.at h).k).mono fun e w' ⟨he,k⟩=>⟨by rw[he,hn],h.kept k.fr⟩
 have H2:Hid (∀w1,aa W w1 (hl x M R O ts)→Calls Tryz.prog 129 #[.int .i64 (c:Int)] w1 fun e w'=>e=.returned (.bool true)∧w'=w1):=fun w1 h1=>by
  have:=dR (cx.at h1) (c:=c) (by omega);rw[decide_eq_true h7] at this;exact this
 have HF:Hid (∀w1,aa W w1 (hl x M R O ts)→w1.cell? ⟨x.h,28+c,none⟩=some (.pointer (some ⟨x.N c,0,none⟩))∧Calls Tryz.prog 175 #[.pointer (some ⟨x.N c,0,none⟩)] w1 fun e w'=>e=.returned (.int .i64 v)∧aa W w' (hl x M R O ts)):=fun w1 h1=>⟨mn (aI h1) (by omega),(jA h1 (c:=c) (by omega) lk).mono fun e w' ⟨he,f⟩=>⟨by rw[he,hv],h1.kept f⟩⟩
 have hc8:(c:Int)<8:=by omega
 have H3:=hid hr;clear cx h hr hn lk hv;generalize hN:x.N c=N at *;go_enter Tryz.func127,Tryz.ntmps127;go_wp2_with fail;refine wp_scope_jumps 0 (fun _ _=>False) (fun _ _=>0) rfl ?first (fun _ _ h=>h.elim)
 case first=>
  go_wp2_with fail;refine H1.out.mono ?_;rintro e w1 ⟨rfl,h1⟩;have H4:=hid (H2.out _ h1);obtain⟨c5,h5⟩:=HF.out _ h1;have H5:=hid h5;clear h1 h5 H1 H2 HF;go_wp2_with fail;refine H4.out.mono ?_;rintro e w2 ⟨rfl,hw2⟩;obtain rfl:=hw2.symm;clear H4 hw2;go_wp2_with fail;go_step3;go_wp2_with fail;refine H5.out.mono ?_;rintro e w3 ⟨rfl,h3⟩;have H6:=hid (H3.out _ h3);clear h3 H5 H3 c5;go_wp2_with fail;refine H6.out.mono ?_;rintro e w4 ⟨rfl,h4⟩;have T4:=hid h4;clear h4 H6;go_wp2;rw[ao];go_ret2;exact⟨by simp,T4.out⟩
theorem kv(cx:Cx W O)(h:aa W w (hl x M R O ts)){n:Int}{c:Nat}(hn:ofI n=c)(h7:c≤7)(hv:R.ln c=[])(hr:∀w1,aa W w1 (hl x M R O ts)→Calls Tryz.prog 177 #[.pointer (some ⟨x.h,0,none⟩),.int .i64 (c:Int)] w1 fun e w'=>e=.returned (.int .i64 13)∧aa W w' (hl x M R O ts)):Calls Tryz.prog 127 #[.pointer (some ⟨x.h,0,none⟩),.int .i64 n] w fun e w'=>e=.returned (.tuple #[.int .i64 0,.int .i64 13])∧aa W w' (hl x M R O ts):=by
 have H1:Hid (Calls Tryz.prog 45 #[.int .i64 n] w fun e w'=>e=.returned (.int .i64 (c:Int))∧aa W w' (hl x M R O ts)):=(k_of n (cx.at h).k).mono fun e w' ⟨he,k⟩=>⟨by rw[he,hn],h.kept k.fr⟩
 have H2:Hid (∀w1,aa W w1 (hl x M R O ts)→Calls Tryz.prog 129 #[.int .i64 (c:Int)] w1 fun e w'=>e=.returned (.bool true)∧w'=w1):=fun w1 h1=>by
  have:=dR (cx.at h1) (c:=c) (by omega);rw[decide_eq_true h7] at this;exact this
 have HF:Hid (∀w1,aa W w1 (hl x M R O ts)→w1.cell? ⟨x.h,28+c,none⟩=some (.pointer (some ⟨x.N c,0,none⟩))∧Calls Tryz.prog 175 #[.pointer (some ⟨x.N c,0,none⟩)] w1 fun e w'=>e=.returned (.int .i64 (-1))∧aa W w' (hl x M R O ts)):=fun w1 h1=>⟨mn (aI h1) (by omega),(jA h1 (c:=c) (by omega) (by rw[hv];exact LiOk.none)).mono fun e w' ⟨he,f⟩=>⟨by rw[he,hv];rfl,h1.kept f⟩⟩
 have hc8:(c:Int)<8:=by omega
 have H3:=hid hr;clear cx h hr hn hv;generalize hN:x.N c=N at *;go_enter Tryz.func127,Tryz.ntmps127;go_wp2_with fail;refine wp_scope_jumps 0 (fun _ _=>False) (fun _ _=>0) rfl ?first (fun _ _ h=>h.elim)
 case first=>
  go_wp2_with fail;refine H1.out.mono ?_;rintro e w1 ⟨rfl,h1⟩;have H4:=hid (H2.out _ h1);obtain⟨c5,h5⟩:=HF.out _ h1;have H5:=hid h5;clear h1 h5 H1 H2 HF;go_wp2_with fail;refine H4.out.mono ?_;rintro e w2 ⟨rfl,hw2⟩;obtain rfl:=hw2.symm;clear H4 hw2;go_wp2_with fail;go_step3;go_wp2_with fail;refine H5.out.mono ?_;rintro e w3 ⟨rfl,h3⟩;have H6:=hid (H3.out _ h3);clear h3 H5 H3 c5;go_wp2_with fail;refine H6.out.mono ?_;rintro e w4 ⟨rfl,h4⟩;have T4:=hid h4;clear h4 H6;go_wp2;rw[ao];go_ret2;exact⟨by simp,T4.out⟩
theorem ku(cx:Cx W O)(h:aa W w (hl x M R O ts)){n v:Int}{c:Nat}(hn:ofI n=c)(h7:c≤7)(hv:R.ln c=[])(hv0:0≤v)(hvm:v≤6400){M1:Ms}{R1:Nat→Rs}(hl1:∀p,(R1 p).ln c=[v]){a E:Int}{P:World→Prop}(hr:∀w1,aa W w1 (hl x M R O ts)→Calls Tryz.prog 177 #[.pointer (some ⟨x.h,0,none⟩),.int .i64 (c:Int)] w1 fun e w'=>e=.returned (.int .i64 0)∧∃p,aa W w' (hl x M1 (R1 p) O ts))
  (hk:∀w1 p,aa W w1 (hl x M1 (R1 p) O ts)→Calls Tryz.prog 176 #[.pointer (some ⟨x.h,0,none⟩),.int .i64 (c:Int),.int .i64 v] w1 fun e w'=>e=.returned (.tuple #[.int .i64 a,.int .i64 E])∧P w'):Calls Tryz.prog 127 #[.pointer (some ⟨x.h,0,none⟩),.int .i64 n] w fun e w'=>e=.returned (.tuple #[.int .i64 a,.int .i64 E])∧P w':=by
 have H1:Hid (Calls Tryz.prog 45 #[.int .i64 n] w fun e w'=>e=.returned (.int .i64 (c:Int))∧aa W w' (hl x M R O ts)):=(k_of n (cx.at h).k).mono fun e w' ⟨he,k⟩=>⟨by rw[he,hn],h.kept k.fr⟩
 have H2:Hid (∀w1,aa W w1 (hl x M R O ts)→Calls Tryz.prog 129 #[.int .i64 (c:Int)] w1 fun e w'=>e=.returned (.bool true)∧w'=w1):=fun w1 h1=>by
  have:=dR (cx.at h1) (c:=c) (by omega);rw[decide_eq_true h7] at this;exact this
 have HF:Hid (∀w1,aa W w1 (hl x M R O ts)→w1.cell? ⟨x.h,28+c,none⟩=some (.pointer (some ⟨x.N c,0,none⟩))∧Calls Tryz.prog 175 #[.pointer (some ⟨x.N c,0,none⟩)] w1 fun e w'=>e=.returned (.int .i64 (-1))∧aa W w' (hl x M R O ts)):=fun w1 h1=>⟨mn (aI h1) (by omega),(jA h1 (c:=c) (by omega) (by rw[hv];exact LiOk.none)).mono fun e w' ⟨he,f⟩=>⟨by rw[he,hv];rfl,h1.kept f⟩⟩
 have HG:Hid (∀w1 p,aa W w1 (hl x M1 (R1 p) O ts)→w1.cell? ⟨x.h,28+c,none⟩=some (.pointer (some ⟨x.N c,0,none⟩))∧Calls Tryz.prog 175 #[.pointer (some ⟨x.N c,0,none⟩)] w1 fun e w'=>e=.returned (.int .i64 v)∧aa W w' (hl x M1 (R1 p) O ts)):=fun w1 p h1=>⟨mn (aI h1) (by omega),(jA h1 (c:=c) (by omega) (by rw[hl1 p];exact⟨by simp,fun y hy=>by simp only[List.mem_singleton] at hy;subst hy;omega⟩)).mono fun e w' ⟨he,f⟩=>⟨by rw[he,hl1 p];rfl,h1.kept f⟩⟩
 have hc8:(c:Int)<8:=by omega
 have H3:=hid hr;have HK:=hid hk;clear cx h hr hn hv hk hl1 hvm;generalize hN:x.N c=N at *;go_enter Tryz.func127,Tryz.ntmps127;go_wp2_with fail;refine wp_scope_jumps 0 (fun a' w'=>∃(u1 u2 u3 u4 u5 u7 u8 u9 u10 u11 u12 u13 u14 u15 u16 u17 u18 u19 u20 u21 u22 u23 u24 u25 u26 u27 u28 u29 u30 u31 u32 u33 u34 u35 u36 u37 u38 u39 u40 u41 u42 u43 u44 u45 u46:Value),Hid (∃p,aa W w' (hl x M1 (R1 p) O ts))∧a'={ tmps:=#[.pointer (some ⟨x.h,0,none⟩),u1,u2,u3,u4,u5,.int .i64 (c:Int),u7,u8,u9,u10,u11,u12,u13,u14,u15,u16,u17,u18,u19,u20,u21,u22,u23,u24,u25,u26,u27,u28,u29,u30,u31,u32,u33,u34,u35,u36,u37,u38,u39,u40,u41,u42,u43,u44,u45,u46],defers:=[] }) (fun _ _=>0) rfl ?first ?pass
 case first=>
  go_wp2_with fail;refine H1.out.mono ?_;rintro e w1 ⟨rfl,h1⟩;have H4:=hid (H2.out _ h1);obtain⟨c5,h5⟩:=HF.out _ h1;have H5:=hid h5;clear h1 h5 H1 H2 HF HG HK;go_wp2_with fail;refine H4.out.mono ?_;rintro e w2 ⟨rfl,hw2⟩;obtain rfl:=hw2.symm;clear H4 hw2;go_wp2_with fail;go_step3;go_wp2_with fail;refine H5.out.mono ?_;rintro e w3 ⟨rfl,h3⟩;have H6:=hid (H3.out _ h3);clear h3 H5 H3 c5;go_wp2_with fail;refine H6.out.mono ?_;rintro e w4 ⟨rfl,h4⟩;have T4:=hid h4;clear h4 H6;go_wp2;go_step3;exact⟨rfl,_,_,_,_,_,_,_,_,_,_,_,_,_,_,_,_,_,_,_,_,_,_,_,_,_,_,_,_,_,_,_,_,_,_,_,_,_,_,_,_,_,_,_,_,_,T4,rfl⟩
 case pass=>
  rintro a' w1 ⟨u1,u2,u3,u4,u5,u7,u8,u9,u10,u11,u12,u13,u14,u15,u16,u17,u18,u19,u20,u21,u22,u23,u24,u25,u26,u27,u28,u29,u30,u31,u32,u33,u34,u35,u36,u37,u38,u39,u40,u41,u42,u43,u44,u45,u46,T,rfl⟩;obtain⟨p,h1⟩:=T.out;obtain⟨c5,h5⟩:=HG.out _ _ h1;have H5:=hid h5;clear T h1 h5 H1 H2 HF HG H3;go_wp2_with fail;refine H5.out.mono ?_;rintro e w3 ⟨rfl,h3⟩;have H6:=hid (HK.out _ _ h3);clear h3 H5 c5 HK;go_wp2_with fail;refine H6.out.mono ?_;rintro e w4 ⟨rfl,h4⟩;have T4:=hid h4;clear h4 H6;go_wp2;rw[ao];go_ret2;exact⟨by simp,T4.out⟩
end
end Go.Proofs.YtndhbnhobhkmaaaGreatDoor
