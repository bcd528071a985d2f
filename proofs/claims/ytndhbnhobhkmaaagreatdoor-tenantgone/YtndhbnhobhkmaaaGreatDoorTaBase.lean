/-
  A page's bytes seen from its beginning: plain mathematics.
  What those who have blocks have written, and that blocks are 0 when they are given out: plain mathematics.
  Places of blocks as the document has them: plain mathematics. Nothing of the program is named here.
  Local pages and the pages that they are: mathematics. What each call of a table answers, and what it leaves.
-/
import Derived.Test.YtndhbnhobhkmaaaGreatDoorPaBase
namespace Go.Proofs.YtndhbnhobhkmaaaGreatDoor
open Go.RowKit
open An
def win(bs:List UInt8)(b:Nat):List UInt8:=(bs.drop b).take 512
theorem aZ(bs:List UInt8)(b i:Nat)(hi:i<512):(win bs b)[i]? =bs[b+i]? :=by unfold win;rw[List.getElem?_take_of_lt hi,List.getElem?_drop]
theorem bu{bs:List UInt8}{b:Nat}(h:b+512≤bs.length):(win bs b).length=512:=by unfold win;simp;omega
theorem cq{bs ds:List UInt8}{b q:Nat}(h:b+512≤bs.length)(hq:q+ds.length≤512):win (over bs (b+q) ds) b=over (win bs b) q ds:=by
 have hl:(over bs (b+q) ds).length=bs.length:=al _ _ _ (by omega);apply List.ext_getElem?;intro i;by_cases hi:i<512
 ·rw[aZ _ _ _ hi,bD _ _ _ (by omega),bD _ _ _ (by rw[bu h];exact hq),aZ _ _ _ hi];by_cases h1:i<q
  ·rw[if_pos (by omega),if_pos h1]
  ·rw[if_neg (by omega),if_neg h1];by_cases h2:i<q+ds.length
   ·rw[if_pos (by omega),if_pos h2];congr 1;omega
   ·rw[if_neg (by omega),if_neg h2]
 ·rw[List.getElem?_eq_none (by rw[bu (by rw[hl];exact h)];omega),List.getElem?_eq_none (by rw[al _ _ _ (by rw[bu h];exact hq),bu h];omega)]
theorem dJ{bs ds:List UInt8}{b p:Nat}(hp:p+ds.length≤bs.length)(h:p+ds.length≤b∨b+512≤p):win (over bs p ds) b=win bs b:=by
 apply List.ext_getElem?;intro i;by_cases hi:i<512
 ·rw[aZ _ _ _ hi,aZ _ _ _ hi,bD _ _ _ hp];by_cases h1:b+i<p
  ·rw[if_pos h1]
  ·rw[if_neg h1,if_neg (by omega)]
 ·unfold win;rw[List.getElem?_eq_none (by simp;omega),List.getElem?_eq_none (by simp;omega)]
theorem yE(bs:List UInt8)(b q:Nat)(hq:q+8≤512):wd (win bs b) q=wd bs (b+q):=by
 unfold wd;congr 1;apply List.ext_getElem?;intro i;by_cases hi:i<8
 ·rw[List.getElem?_take_of_lt hi,List.getElem?_take_of_lt hi,List.getElem?_drop,List.getElem?_drop,aZ _ _ _ (by omega),Nat.add_assoc]
 ·rw[List.getElem?_eq_none (by simp;omega),List.getElem?_eq_none (by simp;omega)]
structure Like(g g':Pg)(bs bs':List UInt8):Prop where
 kind:g.kind=g'.kind
 fresh:g.fresh=g'.fresh
 r:g.R=g'.R
 d:g.D=g'.D
 same:win bs g.base=win bs' g'.base
 mod:g.base % 512=0
 fit:g.base+512≤bs.length
section
variable{g g':Pg}{bs bs':List UInt8}
theorem gT{kd b b':Nat}(hk:kd≤7)(hw:win bs b=win bs' b'):∀{L:List Nat},(∀x∈L,x<pp kd)→(Rep ⟨b',pu kd,pp kd,0⟩ bs' L→Rep ⟨b,pu kd,pp kd,0⟩ bs L)
 |[],_,_=>trivial
 |y::L,hl,⟨h1,h2⟩=>by
  obtain⟨⟨u1,_⟩,_,u3,_⟩:=ai kd hk;have hy:=hl y (List.mem_cons_self ..);have h3:(y+1) * pu kd≤pp kd * pu kd:=Nat.mul_le_mul_right _ hy;rw[Nat.add_mul,Nat.one_mul,Nat.mul_comm (pp kd)] at h3;refine⟨?_,gT hk hw (fun x hx=>hl x (List.mem_cons_of_mem _ hx)) h2⟩;show wd bs (b+y * pu kd)=_;rw[←yE bs b _ (by omega),hw,yE bs' b' _ (by omega)];exact h1
theorem Like.alloc(h:Like g g' bs bs')(ok:g'.Ok bs'):Like (paS g) (paS g') (paB g bs) (paB g' bs')∧(paS g).base=g.base∧∀b,(b+512≤g.base∨g.base+512≤b)→win (paB g bs) b=win bs b:=by
 obtain⟨b,kd,fr,R,D⟩:=g;obtain⟨b',kd',fr',R',D'⟩:=g';obtain⟨rfl,rfl,rfl,rfl,hw,hm,hf⟩:=h;obtain⟨⟨u1,u2⟩,_,u3,_⟩:=ai kd ok.kind;have key:∀x,x<pp kd→win (over bs (b+x * pu kd) (leb 0 8)) b=win (over bs' (b'+x * pu kd) (leb 0 8)) b'∧b+512≤(over bs (b+x * pu kd) (leb 0 8)).length∧∀c,(c+512≤b∨b+512≤c)→win (over bs (b+x * pu kd) (leb 0 8)) c=win bs c:=fun x hx=>by
  have h3:(x+1) * pu kd≤pp kd * pu kd:=Nat.mul_le_mul_right _ hx;rw[Nat.add_mul,Nat.one_mul,Nat.mul_comm (pp kd)] at h3;have hl:x * pu kd+(leb 0 8).length≤512:=by rw[ar];omega
  have hfb:b+512≤bs.length:=hf;refine⟨?_,?_,fun c hc=>dJ (by omega) (by omega)⟩
  ·rw[cq hf hl,cq ok.fit hl];exact congrArg (fun z=>over z _ _) hw
  ·rw[al _ _ _ (by omega)];exact hf
 by_cases hfl:Pg.Full ⟨b,kd,fr,R,D⟩
 ·obtain⟨_,_,e1,e2⟩:=jU (bs:=bs) hfl;have hfl':Pg.Full ⟨b',kd,fr,R,D⟩:=hfl;obtain⟨_,_,e3,e4⟩:=jU (bs:=bs') hfl';rw[e1,e2,e3,e4];exact⟨⟨rfl,rfl,rfl,rfl,hw,hm,hf⟩,rfl,fun _ _=>rfl⟩
 ·have hfl':¬Pg.Full ⟨b',kd,fr,R,D⟩:=hfl;cases R with
  |cons x R=>
   obtain⟨_,_,e1,e2,_⟩:=pa_R (bs:=bs) hfl rfl;obtain⟨_,_,e3,e4,_⟩:=pa_R (bs:=bs') hfl' rfl;rw[e1,e2,e3,e4];obtain⟨k1,k2,k3⟩:=key x (ok.lr x (List.mem_cons_self ..));exact⟨⟨rfl,rfl,rfl,rfl,k1,hm,k2⟩,rfl,k3⟩
  |nil=>
   cases D with
   |cons x D=>
    obtain⟨_,_,e1,e2,_⟩:=pa_D (bs:=bs) hfl rfl rfl;obtain⟨_,_,e3,e4,_⟩:=pa_D (bs:=bs') hfl' rfl rfl;rw[e1,e2,e3,e4];obtain⟨k1,k2,k3⟩:=key x (ok.ld x (List.mem_cons_self ..));exact⟨⟨rfl,rfl,rfl,rfl,k1,hm,k2⟩,rfl,k3⟩
   |nil=>
    obtain⟨_,_,e1,e2,_⟩:=pa_F (bs:=bs) hfl rfl rfl;obtain⟨_,_,e3,e4,_⟩:=pa_F (bs:=bs') hfl' rfl rfl;rw[e1,e2,e3,e4];exact⟨⟨rfl,rfl,rfl,rfl,hw,hm,hf⟩,rfl,fun _ _=>rfl⟩
theorem Like.free(h:Like g g' bs bs')(ok:g'.Ok bs')(k:Int):Like (pfS g k) (pfS g' k) (pfB g bs k) (pfB g' bs' k)∧(pfS g k).base=g.base∧∀b,(b+512≤g.base∨g.base+512≤b)→win (pfB g bs k) b=win bs b:=by
 obtain⟨b,kd,fr,R,D⟩:=g;obtain⟨b',kd',fr',R',D'⟩:=g';obtain⟨rfl,rfl,rfl,rfl,hw,hm,hf⟩:=h;obtain⟨⟨u1,u2⟩,_,u3,_⟩:=ai kd ok.kind;have hfb:b+512≤bs.length:=hf;have hfb':b'+512≤bs'.length:=ok.fit;by_cases hmy:Pg.May ⟨b,kd,fr,R,D⟩ k
 ·have hmy':Pg.May ⟨b',kd,fr,R,D⟩ k:=hmy;have e1:pfS ⟨b,kd,fr,R,D⟩ k=⟨b,kd,fr,R,k.toNat::D⟩:=if_pos hmy;have e3:pfS ⟨b',kd,fr,R,D⟩ k=⟨b',kd,fr,R,k.toNat::D⟩:=if_pos hmy';have e2:pfB ⟨b,kd,fr,R,D⟩ bs k=over (over bs (b+k.toNat * pu kd) (nz (pu kd))) (b+k.toNat * pu kd) (leb (lnk D) 8):=if_pos hmy;have e4:pfB ⟨b',kd,fr,R,D⟩ bs' k=over (over bs' (b'+k.toNat * pu kd) (nz (pu kd))) (b'+k.toNat * pu kd) (leb (lnk D) 8):=if_pos hmy';have hx:k.toNat<pp kd:=by have h0:0≤k∧k<(pp kd:Int):=hmy.1;omega
  have h3:(k.toNat+1) * pu kd≤pp kd * pu kd:=Nat.mul_le_mul_right _ hx;rw[Nat.add_mul,Nat.one_mul,Nat.mul_comm (pp kd)] at h3;rw[e1,e2,e3,e4];generalize k.toNat * pu kd=q at *;have hl1:q+(nz (pu kd)).length≤512:=by rw[aB];omega
  have hl2:q+(leb (lnk D) 8).length≤512:=by rw[ar];omega
  have hn1:(over bs (b+q) (nz (pu kd))).length=bs.length:=al _ _ _ (by omega);have hn1':(over bs' (b'+q) (nz (pu kd))).length=bs'.length:=al _ _ _ (by omega);refine⟨⟨rfl,rfl,rfl,rfl,?_,hm,?_⟩,rfl,fun c hc=> ?_⟩
  ·show win (over (over bs (b+q) (nz (pu kd))) (b+q) (leb (lnk D) 8)) b=win (over (over bs' (b'+q) (nz (pu kd))) (b'+q) (leb (lnk D) 8)) b'
   rw[cq (by omega) hl2,cq (by omega) hl2,cq hfb hl1,cq hfb' hl1];exact congrArg (fun z=>over (over z _ _) _ _) hw
  ·show b+512≤_
   rw[al _ _ _ (by omega)];omega
  ·simp only at hc;rw[dJ (by omega) (by omega),dJ (by omega) (by omega)]
 ·have hmy':¬Pg.May ⟨b',kd,fr,R,D⟩ k:=hmy;have e1:pfS ⟨b,kd,fr,R,D⟩ k=⟨b,kd,fr,R,D⟩:=if_neg hmy;have e3:pfS ⟨b',kd,fr,R,D⟩ k=⟨b',kd,fr,R,D⟩:=if_neg hmy';have e2:pfB ⟨b,kd,fr,R,D⟩ bs k=bs:=if_neg hmy;have e4:pfB ⟨b',kd,fr,R,D⟩ bs' k=bs':=if_neg hmy';rw[e1,e2,e3,e4];exact⟨⟨rfl,rfl,rfl,rfl,hw,hm,hf⟩,rfl,fun _ _=>rfl⟩
end
def blk(g:Pg)(bs:List UInt8)(x:Nat):List UInt8:=(bs.drop (g.pos x)).take (pu g.kind)
def lU(g:Pg)(bs:List UInt8)(x:Int):Option (List UInt8):=if g.May x then some (blk g bs x.toNat) else none
section
variable{g g':Pg}{bs ds:List UInt8}{x y:Nat}
theorem gw(g:Pg)(bs:List UInt8)(x i:Nat)(hi:i<pu g.kind):(blk g bs x)[i]? =bs[g.pos x+i]? :=by unfold blk;rw[List.getElem?_take_of_lt hi,List.getElem?_drop]
theorem kK(h:g.Ok bs)(hx:x<pp g.kind)(hd:ds.length≤pu g.kind)(hn:y≠x):blk g (over bs (g.pos x) ds) y=blk g bs y:=by
 have hb:=h.block hx;have hf:=h.fit;have ha:=Pg.apart (g:=g) hn;apply List.ext_getElem?;intro i;by_cases hi:i<pu g.kind
 ·rw[gw _ _ _ _ hi,gw _ _ _ _ hi,bD _ _ _ (by omega)];by_cases h1:g.pos y+i<g.pos x
  ·rw[if_pos h1]
  ·rw[if_neg h1,if_neg (by omega)]
 ·unfold blk;rw[List.getElem?_eq_none (by simp;omega),List.getElem?_eq_none (by simp;omega)]
theorem yl(h:g.Ok bs)(hx:x<pp g.kind)(hz:∀i,g.pos x≤i→i<g.pos x+pu g.kind→bs[i]?.getD 0=0):blk g bs x=nz (pu g.kind):=by
 have hb:=h.block hx;have hf:=h.fit;apply List.ext_getElem?;intro i;by_cases hi:i<pu g.kind
 ·have h1:=hz (g.pos x+i) (by omega) (by omega);have hlt:g.pos x+i<bs.length:=by omega
  rw[gw _ _ _ _ hi];unfold nz;rw[List.getElem?_replicate,if_pos hi];rw[List.getElem?_eq_getElem hlt] at h1 ⊢;simpa using h1
 ·rw[List.getElem?_eq_none (by unfold blk;simp;omega),List.getElem?_eq_none (by rw[aB];omega)]
theorem eo(h:x+ds.length≤bs.length)(i:Nat):(over bs x ds)[i]?.getD 0=if i<x then bs[i]?.getD 0 else if i<x+ds.length then ds[i - x]?.getD 0 else bs[i]?.getD 0:=by
 rw[bD _ _ _ h];split
 ·rfl
 ·split<;>rfl
theorem jh(i:Nat):(leb 0 8)[i]?.getD 0=0:=by
 by_cases hi:i<8
 ·have:∀i:Fin 8,(leb 0 8)[i.val]?.getD 0=0:=by decide
  exact this ⟨i,hi⟩
 ·rw[List.getElem?_eq_none (by rw[ar];omega)];rfl
theorem lF(n i:Nat):(nz n)[i]?.getD 0=0:=by
 unfold nz;rw[List.getElem?_replicate];split<;>rfl
structure Cw(g:Pg)(bs:List UInt8)(x:Nat)(g2:Pg)(bs2:List UInt8):Prop where
 lt:x<pp g.kind
 was:¬g.Had x
 base:g2.base=g.base
 kind:g2.kind=g.kind
 had:∀y,g2.Had y↔g.Had y∨y=x
 off:x∉g2.R∧x∉g2.D
 ok:g2.Ok bs2
 clean:g2.Clean bs2
 far:∀y,y≠x→blk g bs2 y=blk g bs y
 used:g2.used=g.used+1
theorem mL(h:g.Ok bs)(hc:g.Clean bs)(hx:x<pp g.kind)(hb:g'.base=g.base)(hk:g'.kind=g.kind)(hhad:∀y,g.Had y→g'.Had y)(hrest:∀y,y≠x→(y∈g.R∨y∈g.D)→(y∈g'.R∨y∈g'.D)):g'.Clean (over bs (g.pos x) (leb 0 8)):=by
 have hbk:=h.block hx;have hf:=h.fit;obtain⟨⟨u1,_⟩,_⟩:=ai g.kind h.kind;have hpos:∀y,g'.pos y=g.pos y:=fun y=>by unfold Pg.pos;rw[hb,hk]
 intro i h1 h2 hne;rw[hb] at h1 h2;rw[eo (by rw[ar];omega),ar] at hne;rw[hk];by_cases hin:g.pos x≤i∧i<g.pos x+8
 ·rw[if_neg (by omega),if_pos (by omega)] at hne;exact(hne (jh _)).elim
 ·have hne2:bs[i]?.getD 0≠0:=by
   split at hne
   ·exact hne
   ·rw[if_neg (by omega)] at hne;exact hne
  obtain⟨y,hy,h3⟩:=hc i h1 h2 hne2;refine⟨y,hy,?_⟩;rw[hpos];rcases h3 with⟨h3,h4⟩|⟨h3,h4⟩
  ·exact .inl ⟨hhad y h3,h4⟩
  ·exact .inr ⟨hrest y (fun e=>by subst e;omega) h3,h4⟩
theorem Pg.Ok.given(h:g.Ok bs)(hc:g.Clean bs)(hf:¬g.Full):Cw g bs (paK g) (paS g) (paB g bs):=by
 have hfit:=h.fit;have hcnt:=h.count;obtain⟨⟨u1,_⟩,_⟩:=ai g.kind h.kind;have hl8:(leb 0 8).length≤pu g.kind:=by rw[ar];omega
 have hnd:=h.nd;have hal:=h.alloc.1;obtain⟨b,kd,fr,R,D⟩:=g;cases R with
 |cons x R=>
  obtain⟨_,_,e1,e2,_⟩:=pa_R (bs:=bs) hf rfl;have hx:x<pp kd:=h.lr x (List.mem_cons_self ..);have hxf:x<fr:=h.lt x (by simp);simp only[List.cons_append,List.nodup_cons,List.mem_append,not_or] at hnd;rw[e1,e2] at hal ⊢;have hk:paK ⟨b,kd,fr,x::R,D⟩=x:=rfl;rw[hk];refine⟨hx,fun hh=>hh.2.1 (List.mem_cons_self ..),rfl,rfl,fun y=> ?_,hnd.1,hal,mL h hc hx rfl rfl (fun y hy=>⟨hy.1,fun m=>hy.2.1 (List.mem_cons_of_mem _ m),hy.2.2⟩) (fun y hn hy=> ?_),fun y hn=>kK h hx hl8 hn,?_⟩
  ·constructor
   ·rintro⟨k1,k2,k3⟩;by_cases e:y=x
    ·exact .inr e
    ·exact .inl ⟨k1,fun m=>by rcases List.mem_cons.1 m with m|m;exact e m;exact k2 m,k3⟩
   ·rintro(⟨k1,k2,k3⟩|rfl)
    ·exact⟨k1,fun m=>k2 (List.mem_cons_of_mem _ m),k3⟩
    ·exact⟨hxf,hnd.1.1,hnd.1.2⟩
  ·rcases hy with hy|hy
   ·rcases List.mem_cons.1 hy with m|m
    ·exact(hn m).elim
    ·exact .inl m
   ·exact .inr hy
  ·show fr - R.length - D.length=fr - (x::R).length - D.length+1
   simp only[List.length_cons] at hcnt ⊢;omega
 |nil=>
  cases D with
  |cons x D=>
   obtain⟨_,_,e1,e2,_⟩:=pa_D (bs:=bs) hf rfl rfl;have hx:x<pp kd:=h.ld x (List.mem_cons_self ..);have hxf:x<fr:=h.lt x (by simp);simp only[List.nil_append,List.nodup_cons] at hnd;rw[e1,e2] at hal ⊢;have hk:paK ⟨b,kd,fr,[],x::D⟩=x:=rfl;rw[hk];refine⟨hx,fun hh=>hh.2.2 (List.mem_cons_self ..),rfl,rfl,fun y=> ?_,⟨hnd.1,by simp⟩,hal,mL h hc hx rfl rfl (fun y hy=>⟨hy.1,fun m=>hy.2.2 (List.mem_cons_of_mem _ m),by simp⟩) (fun y hn hy=> ?_),fun y hn=>kK h hx hl8 hn,?_⟩
   ·constructor
    ·rintro⟨k1,k2,k3⟩;by_cases e:y=x
     ·exact .inr e
     ·exact .inl ⟨k1,by simp,fun m=>by rcases List.mem_cons.1 m with m|m;exact e m;exact k2 m⟩
    ·rintro(⟨k1,k2,k3⟩|rfl)
     ·exact⟨k1,fun m=>k3 (List.mem_cons_of_mem _ m),by simp⟩
     ·exact⟨hxf,hnd.1,by simp⟩
   ·rcases hy with hy|hy
    ·simp at hy
    ·rcases List.mem_cons.1 hy with m|m
     ·exact(hn m).elim
     ·exact .inl m
   ·show fr - D.length - 0=fr - 0 - (x::D).length+1
    simp only[List.length_cons,List.length_nil] at hcnt ⊢;omega
  |nil=>
   obtain⟨_,_,e1,e2,_⟩:=pa_F (bs:=bs) hf rfl rfl;have hx:=h.room hf ⟨rfl,rfl⟩;rw[e1,e2] at hal ⊢;have hk:paK ⟨b,kd,fr,[],[]⟩=fr:=rfl;rw[hk];refine⟨hx,fun hh=>Nat.lt_irrefl _ hh.1,rfl,rfl,fun y=> ?_,⟨by simp,by simp⟩,hal,?_,fun y _=>rfl,by show fr+1 - 0 - 0=fr - 0 - 0+1;omega⟩
   ·constructor
    ·rintro⟨k1,k2,k3⟩;have k1:y<fr+1:=k1;by_cases e:y=fr
     ·exact .inr e
     ·exact .inl ⟨by show y<fr;omega,k2,k3⟩
    ·rintro(⟨k1,k2,k3⟩|rfl)
     ·exact⟨Nat.lt_succ_of_lt k1,k2,k3⟩
     ·exact⟨Nat.lt_succ_self _,by simp,by simp⟩
   ·intro i h1 h2 hne;obtain⟨y,hy,h3⟩:=hc i h1 h2 hne;refine⟨y,hy,?_⟩;rcases h3 with⟨h3,h4⟩|⟨h3,h4⟩
    ·exact .inl ⟨⟨Nat.lt_succ_of_lt h3.1,h3.2⟩,h4⟩
    ·exact .inr ⟨h3,h4⟩
theorem Cw.zero{g2:Pg}{bs2:List UInt8}(h:Cw g bs x g2 bs2)(hc:g.Clean bs)(hok:g.Ok bs)(he:g2=paS g∧bs2=paB g bs∧x=paK g)(hf:¬g.Full):blk g bs2 x=nz (pu g.kind):=by
 obtain⟨rfl,rfl,rfl⟩:=he;have hl:=hok.alloc.2;have hb:=hok.block h.lt;have hfit:=hok.fit;obtain⟨⟨u1,_⟩,_⟩:=ai g.kind hok.kind;have hx:=h.lt;have hpos:∀y,(paS g).pos y=g.pos y:=fun y=>by unfold Pg.pos;rw[h.base,h.kind]
 have e:blk g (paB g bs) (paK g)=blk (paS g) (paB g bs) (paK g):=by unfold blk;rw[hpos,h.kind]
 have hbz:∀i,g.pos (paK g)≤i→i<g.pos (paK g)+pu g.kind→(paB g bs)[i]?.getD 0=0:=by
  intro i h1 h2;by_cases hbare:g.Bare
  ·have e2:paB g bs=bs:=if_pos (.inr hbare);rw[e2];have hn:paK g∉g.R∧paK g∉g.D:=by rw[hbare.1,hbare.2];simp
   exact hc.block hok hx h.was hn.1 hn.2 i h1 h2
  ·have e2:paB g bs=over bs (g.pos (paK g)) (leb 0 8):=if_neg (by rintro(k|k);exact hf k;exact hbare k);rw[e2,eo (by rw[ar];omega),ar,if_neg (by omega)];by_cases h3:i<g.pos (paK g)+8
   ·rw[if_pos h3];exact jh _
   ·rw[if_neg h3];apply Classical.byContradiction;intro hne;obtain⟨y,hy,h4⟩:=hc i (by omega) (by omega) hne;have hyx:y=paK g:=Classical.byContradiction fun hne2=>by
     have:=Pg.apart (g:=g) hne2;omega
    subst hyx;rcases h4 with h4|h4
    ·exact h.was h4.1
    ·omega
 have hok2:=h.ok;rw[e];have:=yl (g:=paS g) (bs:=paB g bs) hok2 (by rw[h.kind];exact hx) (by rw[hpos,h.kind];exact hbz);rw[this,h.kind]
theorem Pg.Ok.uJ(h:g.Ok bs)(hc:g.Clean bs)(k:Int):(pfS g k).Clean (pfB g bs k)∧(∀y:Int,lU (pfS g k) (pfB g bs k) y=if y=k then none else lU g bs y)∧(pfE g k=0↔g.May k)∧(g.May k→(pfS g k).used+1=g.used):=by
 have hcnt:=h.count;have hfit:=h.fit;obtain⟨⟨u1,_⟩,_⟩:=ai g.kind h.kind;have hE:pfE g k=0↔g.May k:=by
  unfold pfE;by_cases h1:g.Block k
  ·by_cases h2:g.Had k.toNat
   ·rw[if_pos h1,if_pos h2];exact⟨fun _=>⟨h1,h2⟩,fun _=>rfl⟩
   ·rw[if_pos h1,if_neg h2];exact⟨fun e=>absurd e (by decide),fun e=>(h2 e.2).elim⟩
  ·rw[if_neg h1];exact⟨fun e=>absurd e (by decide),fun e=>(h1 e.1).elim⟩
 by_cases hm:g.May k
 ·obtain⟨x,rfl⟩:=Int.eq_ofNat_of_zero_le hm.1.1;have hx:x<pp g.kind:=by have:=hm.1.2;omega
  have hhx:g.Had x:=by simpa using hm.2
  have hb:=h.block hx;have e1:pfS g (x:Int)=⟨g.base,g.kind,g.fresh,g.R,x::g.D⟩:=if_pos hm;have e2:pfB g bs (x:Int)=over (over bs (g.pos x) (nz (pu g.kind))) (g.pos x) (leb (lnk g.D) 8):=if_pos hm;have hl1:(over bs (g.pos x) (nz (pu g.kind))).length=bs.length:=al _ _ _ (by rw[aB];omega);have ok1:g.Ok (over bs (g.pos x) (nz (pu g.kind))):=h.lay hx (by rw[aB];omega) hhx.2.1 hhx.2.2;have hhad:∀y,(pfS g (x:Int)).Had y↔g.Had y∧y≠x:=fun y=>by
   rw[e1];constructor
   ·rintro⟨k1,k2,k3⟩;simp only[List.mem_cons,not_or] at k3;exact⟨⟨k1,k2,k3.2⟩,k3.1⟩
   ·rintro⟨⟨k1,k2,k3⟩,k4⟩;exact⟨k1,k2,by simp only[List.mem_cons,not_or];exact⟨k4,k3⟩⟩
  refine⟨?_,fun y=> ?_,hE,fun _=> ?_⟩
  ·rw[e2];intro i h1 h2 hne;rw[e1] at h1 h2 ⊢;rw[eo (by rw[ar,hl1];omega),ar,eo (by rw[aB];omega),aB] at hne;by_cases hin:g.pos x≤i∧i<g.pos x+pu g.kind
   ·by_cases h8:i<g.pos x+8
    ·exact⟨x,hx,.inr ⟨.inr (List.mem_cons_self ..),hin.1,h8⟩⟩
    ·rw[if_neg (by omega),if_neg h8,if_neg (by omega),if_pos hin.2] at hne;exact(hne (lF _ _)).elim
   ·have hne2:bs[i]?.getD 0≠0:=by
     by_cases hlt:i<g.pos x
     ·rw[if_pos hlt,if_pos hlt] at hne;exact hne
     ·rw[if_neg hlt,if_neg (by omega),if_neg hlt,if_neg (by omega)] at hne;exact hne
    obtain⟨y,hy,h3⟩:=hc i h1 h2 hne2;refine⟨y,hy,?_⟩;rcases h3 with⟨h3,h4⟩|⟨h3,h4⟩
    ·have hyx:y≠x:=fun e=>by subst e;exact hin h4
     have:=(hhad y).2 ⟨h3,hyx⟩;rw[e1] at this;exact .inl ⟨this,h4⟩
    ·exact .inr ⟨h3.elim .inl fun m=>.inr (List.mem_cons_of_mem _ m),h4⟩
  ·have hblk:∀(b:List UInt8) z,blk (pfS g (x:Int)) b z=blk g b z:=fun b z=>by rw[e1];rfl
   by_cases hk:y=(x:Int)
   ·subst hk;rw[if_pos rfl];unfold lU;rw[if_neg];intro h2;exact((hhad _).1 h2.2).2 (by simp)
   ·rw[if_neg hk];unfold lU;by_cases hmy:g.May y
    ·have hne:y.toNat≠x:=fun e=>hk (by have:=hmy.1.1;omega)
     rw[if_pos hmy,if_pos ⟨by rw[e1];exact hmy.1,(hhad _).2 ⟨hmy.2,hne⟩⟩,hblk,e2,kK ok1 hx (by rw[ar];omega) hne,kK h hx (by rw[aB];omega) hne]
    ·rw[if_neg hmy,if_neg fun h2=>hmy ⟨by have:=h2.1;rwa [e1] at this,((hhad _).1 h2.2).1⟩]
  ·have hlen:g.R.length+g.D.length<g.fresh:=by
    have h1:=aE g.fresh (x::(g.R++g.D)) (List.nodup_cons.2 ⟨by simp only[List.mem_append,not_or];exact⟨hhx.2.1,hhx.2.2⟩,h.nd⟩) (fun y hy=>by
     rcases List.mem_cons.1 hy with rfl|hy
     ·exact hhx.1
     ·exact h.lt y hy)
    simp only[List.length_cons,List.length_append] at h1;omega
   rw[e1];show g.fresh - g.R.length - (x::g.D).length+1=g.fresh - g.R.length - g.D.length;simp only[List.length_cons];omega
 ·have e1:pfS g k=g:=if_neg hm;have e2:pfB g bs k=bs:=if_neg hm;rw[e1,e2];refine⟨hc,fun y=> ?_,hE,fun h2=>(hm h2).elim⟩;by_cases hk:y=k
  ·subst hk;rw[if_pos rfl];unfold lU;rw[if_neg hm]
  ·rw[if_neg hk]
end
end Go.Proofs.YtndhbnhobhkmaaaGreatDoor
namespace Go.Proofs.YtndhbnhobhkmaaaGreatDoor
def slI(c:Int):Int:=if 0≤c∧c≤23 then 256 / aI c else 0
def nuI(c:Int):Int:=if perI c<1 then 1 else perI c
def sbI(c:Int):Int:=aI c * 512
abbrev PlT(c s k:Int):Prop:=0≤s∧s<slI c∧0≤k∧k<nuI c
def adI(c s k:Int):Int:=(c+1) * 131072+s * sbI c+k * ah c
def ofA(c s k:Int):Int:=if PlT c s k then adI c s k else 0
def ofE(c s k:Int):Int:=if PlT c s k then 0 else 12
def eY(a c s k E:Int):Prop:=(E=0∧PlT c s k∧adI c s k=a)∨(E=4∧(c=0∧s=0∧k=0)∧∀x y z,PlT x y z→adI x y z≠a)
abbrev Win(a:Int):Prop:=131072≤a∧a<3276800
abbrev InW(a n:Int):Prop:=0≤n∧131072≤a∧a≤3276800∧n≤3276800 - a
theorem kinds{P:Int→Prop}(h:∀a:Fin 24,P (a.val:Int)){c:Int}(h0:0≤c)(h1:c≤23):P c:=by
 obtain⟨a,rfl⟩:=uP c h0 h1;exact h a
theorem bf{c:Int}(h0:0≤c)(h1:c≤23):(512≤sbI c∧sbI c≤8192)∧(1≤slI c∧slI c≤256∧slI c * sbI c≤131072)∧(1≤nuI c∧nuI c≤32)∧(16≤ah c∧ah c≤8192∧nuI c * ah c≤sbI c)∧(8≤dI c∧dI c≤512∧sbI c % dI c=0∧ah c % dI c=0∧(131072:Int) % dI c=0)∧(1≤aI c∧aI c≤16):=
 kinds (P:=fun c=>(512≤sbI c∧sbI c≤8192)∧(1≤slI c∧slI c≤256∧slI c * sbI c≤131072)∧(1≤nuI c∧nuI c≤32)∧(16≤ah c∧ah c≤8192∧nuI c * ah c≤sbI c)∧(8≤dI c∧dI c≤512∧sbI c % dI c=0∧ah c % dI c=0∧(131072:Int) % dI c=0)∧(1≤aI c∧aI c≤16)) (by decide+kernel) h0 h1
theorem oV{c:Int}(h:c<0∨23<c):slI c=0:=if_neg (by omega)
theorem PlT.kind{c s k:Int}(h:PlT c s k):0≤c∧c≤23:=by
 by_cases hc:c<0∨23<c
 ·have:=oV hc;obtain⟨h1,h2,_⟩:=h;omega
 ·omega
theorem lies{n m u:Int}(h0:0≤n)(h1:n<m)(hu:0≤u):0≤n * u∧n * u+u≤m * u:=by
 refine⟨Int.mul_nonneg h0 hu,?_⟩;have h:=Int.mul_le_mul_of_nonneg_right (show n+1≤m by omega) hu;rw[Int.add_mul,Int.one_mul] at h;exact h
theorem PlT.lies{c s k:Int}(h:PlT c s k):(0≤s * sbI c∧s * sbI c+sbI c≤131072)∧(0≤k * ah c∧k * ah c+ah c≤sbI c):=by
 obtain⟨c0,c1⟩:=h.kind;obtain⟨f1,f2,f3,f4,_⟩:=bf c0 c1;obtain⟨h1,h2,h3,h4⟩:=h;have l1:=Proofs.YtndhbnhobhkmaaaGreatDoor.lies h1 h2 (u:=sbI c) (by omega);have l2:=Proofs.YtndhbnhobhkmaaaGreatDoor.lies h3 h4 (u:=ah c) (by omega);omega
theorem PlT.inside{c s k:Int}(h:PlT c s k):(c+1) * 131072≤adI c s k∧adI c s k+ah c≤(c+2) * 131072∧131072≤adI c s k∧adI c s k+ah c≤3276800:=by
 obtain⟨c0,c1⟩:=h.kind;have:=h.lies;unfold adI;omega
theorem PlT.region{c s k:Int}(h:PlT c s k):adI c s k / 131072=c+1∧(adI c s k+ah c - 1) / 131072=c+1:=by
 obtain⟨c0,c1⟩:=h.kind;have hi:=h.inside;have:=(bf c0 c1).2.2.2.1;omega
theorem PlT.rises{c s k s' k':Int}(h:PlT c s k)(h':PlT c s' k')(hl:s<s'∨s=s'∧k<k'):adI c s k+ah c≤adI c s' k':=by
 obtain⟨c0,c1⟩:=h.kind;obtain⟨f1,_,_,f4,_⟩:=bf c0 c1;have l1:=h.lies;have l2:=h'.lies;unfold adI;rcases hl with hl|⟨rfl,hl⟩
 ·have:=Proofs.YtndhbnhobhkmaaaGreatDoor.lies h.1 hl (u:=sbI c) (by omega);omega
 ·have:=Proofs.YtndhbnhobhkmaaaGreatDoor.lies h.2.2.1 hl (u:=ah c) (by omega);omega
theorem PlT.apart{c s k c' s' k':Int}(h:PlT c s k)(h':PlT c' s' k')(hne:¬(c=c'∧s=s'∧k=k')):adI c s k+ah c≤adI c' s' k'∨adI c' s' k'+ah c'≤adI c s k:=by
 have i1:=h.inside;have i2:=h'.inside;by_cases e:c=c'
 ·subst e;by_cases hl:s<s'∨s=s'∧k<k'
  ·exact .inl (h.rises h' hl)
  ·exact .inr (h'.rises h (by omega))
 ·omega
theorem PlT.same{c s k c' s' k':Int}(h:PlT c s k)(h':PlT c' s' k')(e:adI c s k=adI c' s' k'):c=c'∧s=s'∧k=k':=by
 by_cases hh:c=c'∧s=s'∧k=k'
 ·exact hh
 ·have a:=h.apart h' hh;have u1:=(bf h.kind.1 h.kind.2).2.2.2.1;have u2:=(bf h'.kind.1 h'.kind.2).2.2.2.1;omega
theorem eY.one{a c s k E c' s' k' E':Int}(h:eY a c s k E)(h':eY a c' s' k' E'):c=c'∧s=s'∧k=k'∧E=E':=by
 rcases h with⟨h1,h2,h3⟩|⟨h1,⟨h2,h3,h4⟩,h5⟩
 ·rcases h' with⟨k1,k2,k3⟩|⟨k1,_,k5⟩
  ·obtain⟨e1,e2,e3⟩:=h2.same k2 (h3.trans k3.symm);exact⟨e1,e2,e3,by omega⟩
  ·exact absurd h3 (k5 _ _ _ h2)
 ·rcases h' with⟨k1,k2,k3⟩|⟨k1,⟨k2,k3,k4⟩,_⟩
  ·exact absurd k3 (h5 _ _ _ k2)
  ·omega
theorem PlT.tA{c s k a:Int}(h:PlT c s k)(e:adI c s k=a):c=a / 131072 - 1∧131072≤a∧a<3276800:=by
 have h1:=h.region;have h2:=h.inside;have u1:=(bf h.kind.1 h.kind.2).2.2.2.1;subst e;omega
abbrev Tb:Type:=List (Int×Int)
abbrev VOk(v:Int):Prop:=256≤v∧v≤6399
abbrev POk(p:Int):Prop:=0≤p∧p≤1048576
def tbF:Tb→Int→Int
 |[],_=> -1
 |x::r,v=>if x.1=v then x.2 else tbF r v
def tbH:Tb→Int→Int
 |[],_=> -1
 |x::r,p=>if x.2=p then x.1 else tbH r p
def tbI:Tb→Int→Int→Tb
 |[],v,p=>[(v,p)]
 |x::r,v,p=>if x.1<v then x::tbI r v p else(v,p)::x::r
def tbM(T:Tb)(v p:Int):Tb:=if(VOk v∧POk p)∧tbF T v<0∧tbH T p<0 then tbI T v p else T
def tbME(T:Tb)(v p:Int):Int:=if VOk v∧POk p then(if tbF T v<0∧tbH T p<0 then 0 else 7) else 12
def tbU(T:Tb)(v:Int):Tb:=T.filter fun x=>decide (x.1≠v)
def tbUV(T:Tb)(v:Int):Int:=if tbF T v<0 then 0 else tbF T v
def tbUE(T:Tb)(v:Int):Int:=if tbF T v<0 then 13 else 0
def tbW(T:Tb)(v p:Int):Tb:=T.map fun x=>if x.1=v then(x.1,p) else x
abbrev SwOk(T:Tb)(v p:Int):Prop:=POk p∧¬tbF T v<0∧tbH T p<0
def tbS(T:Tb)(v p:Int):Tb:=if SwOk T v p then tbW T v p else T
def tbSV(T:Tb)(v p:Int):Int:=if SwOk T v p then tbF T v else 0
def tbSE(T:Tb)(v p:Int):Int:=if ¬POk p then 12 else if tbF T v<0 then 13 else if tbH T p<0 then 0 else 7
structure TbOk(T:Tb):Prop where
 up:T.Pairwise fun x y=>x.1<y.1
 inj:T.Pairwise fun x y=>x.2≠y.2
 at_:∀x∈T,VOk x.1∧POk x.2
section
variable{T:Tb}{v p:Int}
theorem TbOk.none:TbOk []:=⟨.nil,.nil,fun x h=>by simp at h⟩
theorem TbOk.tail{x:Int×Int}(h:TbOk (x::T)):TbOk T:=⟨(List.pairwise_cons.1 h.up).2,(List.pairwise_cons.1 h.inj).2,fun y hy=>h.at_ y (List.mem_cons_of_mem _ hy)⟩
theorem aO:∀{T:Tb},TbOk T→(v,p)∈T→tbF T v=p
 |x::r,h,hm=>by
  unfold tbF;rcases List.mem_cons.1 hm with e|e
  ·rw[←e,if_pos rfl]
  ·have:=(List.pairwise_cons.1 h.up).1 _ e;rw[if_neg (by simp at this ⊢;omega)];exact aO h.tail e
theorem aW:∀{T:Tb},TbOk T→(v,p)∈T→tbH T p=v
 |x::r,h,hm=>by
  unfold tbH;rcases List.mem_cons.1 hm with e|e
  ·rw[←e,if_pos rfl]
  ·have:=(List.pairwise_cons.1 h.inj).1 _ e;rw[if_neg (by simpa using this)];exact aW h.tail e
theorem kY:∀T:Tb,(tbF T v= -1∧∀x∈T,x.1≠v)∨(v,tbF T v)∈T
 |[]=>.inl ⟨rfl,fun x h=>by simp at h⟩
 |x::r=>by
  unfold tbF;by_cases e:x.1=v
  ·rw[if_pos e];exact .inr (by rw[←e];simp)
  ·rw[if_neg e];rcases kY r with⟨h1,h2⟩|h
   ·exact .inl ⟨h1,fun y hy=>by rcases List.mem_cons.1 hy with rfl|hy;exact e;exact h2 y hy⟩
   ·exact .inr (List.mem_cons_of_mem _ h)
theorem kX:∀T:Tb,(tbH T p= -1∧∀x∈T,x.2≠p)∨(tbH T p,p)∈T
 |[]=>.inl ⟨rfl,fun x h=>by simp at h⟩
 |x::r=>by
  unfold tbH;by_cases e:x.2=p
  ·rw[if_pos e];exact .inr (by rw[←e];simp)
  ·rw[if_neg e];rcases kX r with⟨h1,h2⟩|h
   ·exact .inl ⟨h1,fun y hy=>by rcases List.mem_cons.1 hy with rfl|hy;exact e;exact h2 y hy⟩
   ·exact .inr (List.mem_cons_of_mem _ h)
theorem TbOk.eJ(h:TbOk T)(hf:tbF T v<0):tbF T v= -1∧∀x∈T,x.1≠v:=by
 rcases kY (v:=v) T with e|e
 ·exact e
 ·have:=(h.at_ _ e).2;simp at this;omega
theorem TbOk.mA(h:TbOk T)(hf:tbH T p<0):tbH T p= -1∧∀x∈T,x.2≠p:=by
 rcases kX (p:=p) T with e|e
 ·exact e
 ·have:=(h.at_ _ e).1;simp at this;omega
theorem TbOk.aQ(_:TbOk T)(hf:¬tbF T v<0):(v,tbF T v)∈T:=by
 rcases kY (v:=v) T with e|e
 ·omega
 ·exact e
theorem TbOk.zr(_:TbOk T)(hf:¬tbH T p<0):(tbH T p,p)∈T:=by
 rcases kX (p:=p) T with e|e
 ·omega
 ·exact e
theorem TbOk.di(h:TbOk T)(v:Int): -1≤tbF T v∧tbF T v≤1048576:=by
 rcases kY (v:=v) T with e|e
 ·omega
 ·have:=(h.at_ _ e).2;simp at this;omega
theorem TbOk.kx(h:TbOk T)(p:Int): -1≤tbH T p∧tbH T p≤6399:=by
 rcases kX (p:=p) T with e|e
 ·omega
 ·have:=(h.at_ _ e).1;simp at this;omega
theorem bN:∀{T:Tb} {x:Int×Int},x∈tbI T v p↔x=(v,p)∨x∈T
 |[],x=>by simp[tbI]
 |y::r,x=>by
  unfold tbI;split
  ·rw[List.mem_cons,bN (T:=r),List.mem_cons];constructor
   ·rintro(h|h|h)<;>simp[h]
   ·rintro(h|h|h)<;>simp[h]
  ·simp
theorem mZ:∀T:Tb,(tbI T v p).length=T.length+1
 |[]=>rfl
 |y::r=>by unfold tbI;split<;>simp[mZ r]
theorem yM:∀{T:Tb},(T.Pairwise fun x y=>x.1<y.1)→(∀x∈T,x.1≠v)→(tbI T v p).Pairwise fun x y=>x.1<y.1
 |[],_,_=>by simp[tbI]
 |y::r,h,hn=>by
  obtain⟨h1,h2⟩:=List.pairwise_cons.1 h;unfold tbI;split
  case isTrue e=>
   refine List.pairwise_cons.2 ⟨fun x hx=> ?_,yM h2 fun x hx=>hn x (List.mem_cons_of_mem _ hx)⟩;rcases bN.1 hx with rfl|hx
   ·exact e
   ·exact h1 x hx
  case isFalse e=>
   have e2:v<y.1:=by have:=hn y (by simp);omega
   refine List.pairwise_cons.2 ⟨fun x hx=> ?_,h⟩;rcases List.mem_cons.1 hx with rfl|hx
   ·exact e2
   ·have:=h1 x hx;show v<x.1;omega
theorem sk:∀{T:Tb},(T.Pairwise fun x y=>x.2≠y.2)→(∀x∈T,x.2≠p)→(tbI T v p).Pairwise fun x y=>x.2≠y.2
 |[],_,_=>by simp[tbI]
 |y::r,h,hn=>by
  obtain⟨h1,h2⟩:=List.pairwise_cons.1 h;unfold tbI;split
  ·refine List.pairwise_cons.2 ⟨fun x hx=> ?_,sk h2 fun x hx=>hn x (List.mem_cons_of_mem _ hx)⟩;rcases bN.1 hx with rfl|hx
   ·exact hn y (by simp)
   ·exact h1 x hx
  ·refine List.pairwise_cons.2 ⟨fun x hx=>fun e=>hn x hx e.symm,h⟩
theorem TbOk.ins(h:TbOk T)(hv:VOk v)(hp:POk p)(h1:tbF T v<0)(h2:tbH T p<0):TbOk (tbI T v p):=
 ⟨yM h.up (h.eJ h1).2,sk h.inj (h.mA h2).2,fun x hx=>by
  rcases bN.1 hx with rfl|hx
  ·exact⟨hv,hp⟩
  ·exact h.at_ x hx⟩
theorem TbOk.map(h:TbOk T)(v p:Int):TbOk (tbM T v p):=by
 unfold tbM;split
 case isTrue e=>exact h.ins e.1.1 e.1.2 e.2.1 e.2.2
 case isFalse=>exact h
theorem TbOk.vJ(h:TbOk T)(v:Int):TbOk (tbU T v):=⟨h.up.filter _,h.inj.filter _,fun x hx=>h.at_ x (List.mem_filter.1 hx).1⟩
theorem TbOk.swap(h:TbOk T)(v p:Int):TbOk (tbS T v p):=by
 unfold tbS;split
 case isFalse=>exact h
 case isTrue e=>
  have hn:=(h.mA e.2.2).2;have f1:∀x:Int×Int,(if x.1=v then(x.1,p) else x).1=x.1:=fun x=>by split<;>rfl
  refine⟨?_,?_,fun y hy=> ?_⟩
  ·unfold tbW;rw[List.pairwise_map];exact h.up.imp fun{a b} hab=>by rw[f1,f1];exact hab
  ·unfold tbW;rw[List.pairwise_map];refine(h.up.and h.inj).imp_of_mem fun{a b} ha hb hab=> ?_
   by_cases ea:a.1=v
   ·rw[if_pos ea,if_neg (by have:=hab.1;omega)];exact fun e=>hn b hb e.symm
   ·rw[if_neg ea];by_cases eb:b.1=v
    ·rw[if_pos eb];exact fun e=>hn a ha e
    ·rw[if_neg eb];exact hab.2
  ·unfold tbW at hy;obtain⟨x,hx,rfl⟩:=List.mem_map.1 hy;have:=h.at_ x hx;split
   ·exact⟨this.1,e.1⟩
   ·exact this
theorem kW:tbME T v p=0↔((VOk v∧POk p)∧tbF T v<0∧tbH T p<0):=by
 unfold tbME;by_cases h1:VOk v∧POk p
 ·rw[if_pos h1];by_cases h2:tbF T v<0∧tbH T p<0
  ·rw[if_pos h2];exact⟨fun _=>⟨h1,h2⟩,fun _=>rfl⟩
  ·rw[if_neg h2];exact⟨fun e=>by omega,fun e=>absurd e.2 h2⟩
 ·rw[if_neg h1];exact⟨fun e=>by omega,fun e=>absurd e.1 h1⟩
theorem zX(h:tbME T v p=0):tbM T v p=tbI T v p:=if_pos (kW.1 h)
end
end Go.Proofs.YtndhbnhobhkmaaaGreatDoor
