/-
  The program's page in memory: its own block, two chains, a shelf of the blocks that are had; and its arena beside it.
  What the calls of package page do: where a page may lie, what it tells, the nil page.
  What the calls of package page do: Alloc (a backward goto).
  What the calls of package chain do: All (a backward goto).
-/
import Derived.Test.YtndhbnhobhkmaaaGreatDoorPaThing
import Derived.Test.YtndhbnhobhkmaaaGreatDoorChCallsA
set_option maxRecDepth 20000
set_option maxHeartbeats 2000000
namespace Go.Proofs.YtndhbnhobhkmaaaGreatDoor
open Go.RowKit
open An
def hs(g:Pg):List Bool:=(List.range (pp g.kind)).map fun i=>decide (g.Had i)
theorem aO(g:Pg):(hs g).length=pp g.kind:=by simp[hs]
theorem mi(g:Pg)(j:Nat)(hj:j<pp g.kind):(hs g)[j]'(by rw[aO];exact hj)=decide (g.Had j):=by simp[hs]
theorem nR(g:Pg)(k:Int):Sf.hasN (hs g) k=decide (g.Block k):=by unfold Sf.hasN;rw[aO]
theorem mh(g:Pg)(k:Int):Sf.isT (hs g) k=decide (g.May k):=by
 unfold Sf.isT;rw[nR];by_cases h:g.Block k
 ·have hk:k.toNat<pp g.kind:=by have:=h.1;have:=h.2;omega
  rw[decide_eq_true h,Bool.true_and,List.getD_eq_getElem?_getD,List.getElem?_eq_getElem (by rw[aO];exact hk),Option.getD_some,mi g _ hk];exact decide_eq_decide.2 ⟨fun m=>⟨h,m⟩,fun m=>m.2⟩
 ·rw[decide_eq_false h,Bool.false_and,decide_eq_false fun m:g.May k=>h m.1]
theorem uw{g g':Pg}{x:Nat}{b:Bool}(hk:g'.kind=g.kind)(h:∀i,i<pp g.kind→(g'.Had i↔(if i=x then b=true else g.Had i))):hs g'=(hs g).set x b:=by
 apply List.ext_getElem (by rw[List.length_set,aO,aO,hk]);intro i h1 h2;rw[aO,hk] at h1;rw[mi g' i (by rw[hk];exact h1),List.getElem_set];have:=h i h1;by_cases e:x=i
 ·subst e;rw[if_pos rfl] at this;rw[if_pos rfl];cases b
  ·exact decide_eq_false fun k=>by have:=this.1 k;cases this
  ·exact decide_eq_true (this.2 rfl)
 ·rw[if_neg (fun k=>e k.symm)] at this;rw[if_neg e,mi g i h1];exact decide_eq_decide.2 this
theorem iG:∀l:List Bool,Sf.aQ l+l.count true=l.length
 |[]=>rfl
 |b::l=>by
  have:=iG l;cases b<;>simp[Sf.aQ]<;>omega
theorem BM{g:Pg}{bs:List UInt8}(ok:g.Ok bs):hads g=hs g++List.replicate (32 - pp g.kind) false:=by
 have hp:=(ai g.kind ok.kind).2.1.2;apply List.ext_getElem (by rw[dS,List.length_append,aO,List.length_replicate];omega);intro i h1 h2;rw[dS] at h1;rw[xy g i h1];by_cases h:i<pp g.kind
 ·rw[List.getElem_append_left (by rw[aO];exact h),mi g i h]
 ·rw[List.getElem_append_right (by rw[aO];omega),List.getElem_replicate];exact decide_eq_false fun m=>by have:=m.1;have:=ok.fr;omega
theorem uv{g:Pg}{bs:List UInt8}(ok:g.Ok bs):Sf.aQ (hs g)+g.used=pp g.kind:=by
 have h1:=ok.counted;rw[BM ok,List.count_append,List.count_replicate] at h1;have h2:=iG (hs g);rw[aO] at h2;simp at h1;omega
theorem BG(x kd:Nat):hs ⟨x,kd,0,[],[]⟩=List.replicate (pp kd) false:=by
 apply List.ext_getElem (by rw[aO,List.length_replicate]);intro i h1 h2;rw[mi _ i (by rw[List.length_replicate] at h2;exact h2),List.getElem_replicate];exact decide_eq_false fun m=>Nat.not_lt_zero _ m.1
def Pw(w:World)(p a:Nat)(base kind fresh:Int)(rd wt sa:Nat):Prop:=w.heap[p]? =some (.cells #[.pointer (some ⟨rd,0,none⟩),.pointer (some ⟨wt,0,none⟩),.pointer (some ⟨a,0,none⟩),.int .i64 base,.int .i64 kind,.int .i64 fresh,.pointer (some ⟨sa,0,none⟩)] 243 (0,0))
section
variable{w w':World}{p a rd wt sa:Nat}{base kind fresh:Int}
theorem Pw.lt(h:Pw w p a base kind fresh rd wt sa):p<w.heap.size:=(Array.getElem?_eq_some_iff.1 h).1
theorem Pw.carry{S:Nat→Prop}(h:Pw w p a base kind fresh rd wt sa)(f:Fr S w w')(hn:¬S p):Pw w' p a base kind fresh rd wt sa:=(f.block p h.lt hn).trans h
theorem Pw.c0(h:Pw w p a base kind fresh rd wt sa):w.cell? ⟨p,0,none⟩=some (.pointer (some ⟨rd,0,none⟩)):=by unfold Pw at h;simp[World.cell?,h]
theorem Pw.c1(h:Pw w p a base kind fresh rd wt sa):w.cell? ⟨p,1,none⟩=some (.pointer (some ⟨wt,0,none⟩)):=by unfold Pw at h;simp[World.cell?,h]
theorem Pw.c2(h:Pw w p a base kind fresh rd wt sa):w.cell? ⟨p,2,none⟩=some (.pointer (some ⟨a,0,none⟩)):=by unfold Pw at h;simp[World.cell?,h]
theorem Pw.c3(h:Pw w p a base kind fresh rd wt sa):w.cell? ⟨p,3,none⟩=some (.int .i64 base):=by unfold Pw at h;simp[World.cell?,h]
theorem Pw.c4(h:Pw w p a base kind fresh rd wt sa):w.cell? ⟨p,4,none⟩=some (.int .i64 kind):=by unfold Pw at h;simp[World.cell?,h]
theorem Pw.c5(h:Pw w p a base kind fresh rd wt sa):w.cell? ⟨p,5,none⟩=some (.int .i64 fresh):=by unfold Pw at h;simp[World.cell?,h]
theorem Pw.c6(h:Pw w p a base kind fresh rd wt sa):w.cell? ⟨p,6,none⟩=some (.pointer (some ⟨sa,0,none⟩)):=by unfold Pw at h;simp[World.cell?,h]
theorem Pw.fz(h:Pw w p a base kind fresh rd wt sa)(j:Nat):w.frozen? ⟨p,j,none⟩=false:=by unfold Pw at h;simp[World.frozen?,h]
theorem Pw.vY(h:Pw w p a base kind fresh rd wt sa)(x:Int):Pw (w.setCell ⟨p,5,none⟩ (.int .i64 x)) p a base kind x rd wt sa:=by unfold Pw at h ⊢;simp[World.setCell,Array.getElem?_modify,h]
theorem Pw.Aq(h:Pw w p a base kind fresh rd wt sa)(x:Int):Pw (w.setCell ⟨p,3,none⟩ (.int .i64 x)) p a x kind fresh rd wt sa:=by unfold Pw at h ⊢;simp[World.setCell,Array.getElem?_modify,h]
end
theorem fo{w w':World}{S:Nat→Prop}{a b:Nat}{has:List Bool}(h:Sf.Sh w a b has)(f:Fr S w w')(h1:¬S a)(h2:¬S b):Sf.Sh w' a b has:=by
 obtain⟨ws,c,h⟩:=h;exact⟨ws,c,h.bits,by rw[f.block a h.lta h1];exact h.st,Sf.eo h.row f h2,h.ne,h.a0,h.b0,h.le,Nat.lt_of_lt_of_le h.tab f.size⟩
structure Five(p rd wt sa sb i:Nat):Prop where
 is:i=p∨i=rd∨i=wt∨i=sa∨i=sb
structure Ppr(w0:World)(Z0:Nat→Prop)(w:World)(p a rd wt sa sb:Nat)(Z:Nat→Prop)(bs:List UInt8)(ss:List Sp)(base kind fresh:Int)(hd:List Bool)(kr kw:Ck):Prop where
 am:Am 111 a bs ss w Z
 pw:Pw w p a base kind fresh rd wt sa
 qr:Chm w rd a kr
 qw:Chm w wt a kw
 sh:Sf.Sh w sa sb hd
 d1:p≠rd∧p≠wt∧p≠sa∧p≠sb
 d2:rd≠wt∧rd≠sa∧rd≠sb
 d3:wt≠sa∧wt≠sb
 z:∀i,Five p rd wt sa sb i→¬Z i
 fr:Fr (fun i=>Five p rd wt sa sb i∨Z0 i) w0 w
 new:∀i,Z i→Z0 i∨w0.heap.size≤i
section
variable{w0 w w':World}{Z0 Z Z':Nat→Prop}{p a rd wt sa sb:Nat}{bs bs':List UInt8}{ss ss':List Sp}{base kind fresh:Int}{hd hd2:List Bool}{kr kw k' k2:Ck}
theorem Ppr.five(h:Ppr w0 Z0 w p a rd wt sa sb Z bs ss base kind fresh hd kr kw){i:Nat}(hi:Five p rd wt sa sb i):i<w.heap.size:=by
 rcases hi.is with rfl|rfl|rfl|rfl|rfl
 ·exact h.pw.lt
 ·exact Chm.chain.lt h.qr
 ·exact Chm.chain.lt h.qw
 ·exact h.sh.lta
 ·exact h.sh.ltb
theorem Ppr.z1(h:Ppr w0 Z0 w p a rd wt sa sb Z bs ss base kind fresh hd kr kw):¬Z p:=h.z p ⟨.inl rfl⟩
theorem Ppr.z2(h:Ppr w0 Z0 w p a rd wt sa sb Z bs ss base kind fresh hd kr kw):¬Z rd:=h.z rd ⟨.inr (.inl rfl)⟩
theorem Ppr.z3(h:Ppr w0 Z0 w p a rd wt sa sb Z bs ss base kind fresh hd kr kw):¬Z wt:=h.z wt ⟨.inr (.inr (.inl rfl))⟩
theorem Ppr.z4(h:Ppr w0 Z0 w p a rd wt sa sb Z bs ss base kind fresh hd kr kw):¬Z sa:=h.z sa ⟨.inr (.inr (.inr (.inl rfl)))⟩
theorem Ppr.z5(h:Ppr w0 Z0 w p a rd wt sa sb Z bs ss base kind fresh hd kr kw):¬Z sb:=h.z sb ⟨.inr (.inr (.inr (.inr rfl)))⟩
theorem Ppr.kept(h:Ppr w0 Z0 w p a rd wt sa sb Z bs ss base kind fresh hd kr kw)(f:Fr (fun _=>False) w w'):Ppr w0 Z0 w' p a rd wt sa sb Z bs ss base kind fresh hd kr kw:=
 ⟨h.am.kept f,h.pw.carry f id,Chm.chain.carry h.qr f id,Chm.chain.carry h.qw f id,fo h.sh f id id,h.d1,h.d2,h.d3,h.z,Fr.trans' h.fr f fun _ _ e=>e.elim,h.new⟩
theorem Ppr.vp(h:Ppr w0 Z0 w p a rd wt sa sb Z bs ss base kind fresh hd kr kw)(ha:Am 111 a bs' ss' w' Z')(g:Gw w w' Z Z'):Ppr w0 Z0 w' p a rd wt sa sb Z' bs' ss' base kind fresh hd kr kw:=by
 have hs:=h.fr.size;exact⟨ha,h.pw.carry g.fr h.z1,Chm.chain.carry h.qr g.fr h.z2,Chm.chain.carry h.qw g.fr h.z3,fo h.sh g.fr h.z4 h.z5,h.d1,h.d2,h.d3,fun i hi e=>by
  rcases g.new i e with e|e
  ·exact h.z i hi e
  ·have:=h.five hi;omega,Fr.trans' h.fr g.fr fun i hi e=>by
  rcases h.new i e with e|e
  ·exact .inr e
  ·omega,fun i hi=>by
  rcases g.new i hi with e|e
  ·exact h.new i e
  ·exact .inr (by omega)⟩
theorem Ppr.ready(h:Ppr w0 Z0 w p a rd wt sa sb Z bs ss base kind fresh hd kr kw)(l:Left 111 Chm w rd a Z bs' ss' k' Z' w'):Ppr w0 Z0 w' p a rd wt sa sb Z' bs' ss' base kind fresh hd k' kw:=by
 have hs:=h.fr.size;exact⟨l.am,h.pw.carry l.fr fun e=>by rcases e with e|e;exact h.d1.1 e;exact h.z1 e,l.q,Chm.chain.carry h.qw l.fr fun e=>by rcases e with e|e;exact h.d2.1 e.symm;exact h.z3 e,fo h.sh l.fr (fun e=>by rcases e with e|e;exact h.d2.2.1 e.symm;exact h.z4 e) (fun e=>by rcases e with e|e;exact h.d2.2.2 e.symm;exact h.z5 e),h.d1,h.d2,h.d3,fun i hi e=>by
  rcases l.new i e with e|e
  ·exact h.z i hi e
  ·have:=h.five hi;omega,Fr.trans' h.fr l.fr fun i hi e=>by
  rcases e with e|e
  ·exact .inl ⟨.inr (.inl e)⟩
  ·rcases h.new i e with e|e
   ·exact .inr e
   ·omega,fun i hi=>by
  rcases l.new i hi with e|e
  ·exact h.new i e
  ·exact .inr (by omega)⟩
theorem Ppr.waiting(h:Ppr w0 Z0 w p a rd wt sa sb Z bs ss base kind fresh hd kr kw)(l:Left 111 Chm w wt a Z bs' ss' k' Z' w'):Ppr w0 Z0 w' p a rd wt sa sb Z' bs' ss' base kind fresh hd kr k':=by
 have hs:=h.fr.size;exact⟨l.am,h.pw.carry l.fr fun e=>by rcases e with e|e;exact h.d1.2.1 e;exact h.z1 e,Chm.chain.carry h.qr l.fr fun e=>by rcases e with e|e;exact h.d2.1 e;exact h.z2 e,l.q,fo h.sh l.fr (fun e=>by rcases e with e|e;exact h.d3.1 e.symm;exact h.z4 e) (fun e=>by rcases e with e|e;exact h.d3.2 e.symm;exact h.z5 e),h.d1,h.d2,h.d3,fun i hi e=>by
  rcases l.new i e with e|e
  ·exact h.z i hi e
  ·have:=h.five hi;omega,Fr.trans' h.fr l.fr fun i hi e=>by
  rcases e with e|e
  ·exact .inl ⟨.inr (.inr (.inl e))⟩
  ·rcases h.new i e with e|e
   ·exact .inr e
   ·omega,fun i hi=>by
  rcases l.new i hi with e|e
  ·exact h.new i e
  ·exact .inr (by omega)⟩
theorem Ppr.chains(h:Ppr w0 Z0 w p a rd wt sa sb Z bs ss base kind fresh hd kr kw)(q1:Chm w' rd a k')(q2:Chm w' wt a k2)(f:Fr (fun i=>i=rd∨i=wt) w w'):Ppr w0 Z0 w' p a rd wt sa sb Z bs ss base kind fresh hd k' k2:=
 ⟨(Am.good _ _ _ _).carry h.am f fun i hi e=>by rcases e with rfl|rfl;exact h.z2 hi;exact h.z3 hi,h.pw.carry f fun e=>by rcases e with e|e;exact h.d1.1 e;exact h.d1.2.1 e,q1,q2,fo h.sh f (fun e=>by rcases e with e|e;exact h.d2.2.1 e.symm;exact h.d3.1 e.symm) (fun e=>by rcases e with e|e;exact h.d2.2.2 e.symm;exact h.d3.2 e.symm),h.d1,h.d2,h.d3,h.z,Fr.trans' h.fr f fun i _ e=>by rcases e with e|e;exact .inl ⟨.inr (.inl e)⟩;exact .inl ⟨.inr (.inr (.inl e))⟩,h.new⟩
theorem Ppr.shelf(h:Ppr w0 Z0 w p a rd wt sa sb Z bs ss base kind fresh hd kr kw)(q:Sf.Sh w' sa sb hd2)(f:Fr (fun i=>i=sb) w w'):Ppr w0 Z0 w' p a rd wt sa sb Z bs ss base kind fresh hd2 kr kw:=
 ⟨(Am.good _ _ _ _).carry h.am f fun _ hi e=>h.z5 (e▸hi),h.pw.carry f h.d1.2.2.2,Chm.chain.carry h.qr f h.d2.2.2,Chm.chain.carry h.qw f h.d3.2,q,h.d1,h.d2,h.d3,h.z,Fr.trans' h.fr f fun _ _ e=>.inl ⟨.inr (.inr (.inr (.inr e)))⟩,h.new⟩
theorem Ppr.own{j:Nat}{u:Value}{base2 kind2 fresh2:Int}(h:Ppr w0 Z0 w p a rd wt sa sb Z bs ss base kind fresh hd kr kw)(q:Pw (w.setCell ⟨p,j,none⟩ u) p a base2 kind2 fresh2 rd wt sa):Ppr w0 Z0 (w.setCell ⟨p,j,none⟩ u) p a rd wt sa sb Z bs ss base2 kind2 fresh2 hd kr kw:=by
 have f:Fr (fun i=>i=p) w (w.setCell ⟨p,j,none⟩ u):=Fr.setCell (S:=fun i=>i=p) (p:=⟨p,j,none⟩) (Fr.refl _ _) rfl _;exact⟨(Am.good _ _ _ _).carry h.am f fun i hi e=>h.z1 (e▸hi),q,Chm.chain.carry h.qr f fun e=>h.d1.1 e.symm,Chm.chain.carry h.qw f fun e=>h.d1.2.1 e.symm,fo h.sh f (fun e=>h.d1.2.2.1 e.symm) (fun e=>h.d1.2.2.2 e.symm),h.d1,h.d2,h.d3,h.z,Fr.trans' h.fr f fun i _ e=>.inl ⟨.inl e⟩,h.new⟩
end
abbrev Pp(w0:World)(Z0:Nat→Prop)(w:World)(p a rd wt sa sb:Nat)(Z:Nat→Prop)(bs:List UInt8)(ss:List Sp)(g:Pg):Prop:=Ppr w0 Z0 w p a rd wt sa sb Z bs ss g.base g.kind g.fresh (hs g) (g.ck (lnk g.R)) (g.ck (lnk g.D))
def Gr(w:World):Prop:=Tab w∧Sf.Pos w
theorem Gr.tab{w:World}(h:Gr w):Tab w:=h.1
def Pm(p a:Nat)(g:Pg)(w:World)(Y:Nat→Prop):Prop:=∃rd wt sa sb,Pw w p a g.base g.kind g.fresh rd wt sa∧Chm w rd a (g.ck (lnk g.R))∧Chm w wt a (g.ck (lnk g.D))∧Sf.Sh w sa sb (hs g)∧((p≠rd∧p≠wt∧p≠sa∧p≠sb)∧(rd≠wt∧rd≠sa∧rd≠sb)∧wt≠sa∧wt≠sb)∧(∀i,Five p rd wt sa sb i→Y i)∧∀i,Y i→i<w.heap.size
theorem Pm.good(p a:Nat)(g:Pg):Good (Pm p a g):=
 ⟨fun⟨rd,wt,sa,sb,h1,h2,h3,h4,h5,h6,h7⟩ f hs=>⟨rd,wt,sa,sb,h1.carry f (hs _ (h6 _ ⟨.inl rfl⟩)),Chm.chain.carry h2 f (hs _ (h6 _ ⟨.inr (.inl rfl)⟩)),Chm.chain.carry h3 f (hs _ (h6 _ ⟨.inr (.inr (.inl rfl))⟩)),fo h4 f (hs _ (h6 _ ⟨.inr (.inr (.inr (.inl rfl)))⟩)) (hs _ (h6 _ ⟨.inr (.inr (.inr (.inr rfl)))⟩)),h5,h6,fun i hi=>Nat.lt_of_lt_of_le (h7 i hi) f.size⟩,
  fun⟨rd,wt,sa,sb,h1,h2,h3,h4,h5,h6,_⟩ k1 k2=>⟨rd,wt,sa,sb,h1,h2,h3,h4,h5,fun i hi=>k1 _ (h6 i hi),k2⟩⟩
def Pa(a:Nat)(bs:List UInt8)(ss:List Sp)(p:Nat)(g:Pg):World→(Nat→Prop)→Prop:=Both (Am 111 a bs ss) (Pm p a g)
section
variable{w w':World}{U Z Z':Nat→Prop}{p a rd wt sa sb:Nat}{bs bs':List UInt8}{ss ss':List Sp}{g g':Pg}
theorem Pa.into(h:Pa a bs ss p g w U):∃Z rd wt sa sb,Pp w Z w p a rd wt sa sb Z bs ss g∧((∀i,Z i→U i)∧∀i,Five p rd wt sa sb i→U i)∧∀i,U i→i<w.heap.size:=by
 obtain⟨Z,Y,h1,⟨rd,wt,sa,sb,q1,q2,q3,q4,⟨d1,d2,d3⟩,y,_⟩,h3,h4,h5,h6⟩:=h;exact⟨Z,rd,wt,sa,sb,⟨h1,q1,q2,q3,q4,d1,d2,d3,fun i hi e=>h3 _ e (y i hi),Fr.refl _ _,fun _=>.inl⟩,⟨h4,fun i hi=>h5 _ (y i hi)⟩,h6⟩
theorem Pa.back(hu:(∀i,Z i→U i)∧∀i,Five p rd wt sa sb i→U i)(hl:∀i,U i→i<w.heap.size)(h:Pp w Z w' p a rd wt sa sb Z' bs' ss' g'):∃U',Pa a bs' ss' p g' w' U'∧Gw w w' U U':=by
 have hlt:∀i,(U i∨Z' i)→i<w'.heap.size:=fun i hi=>by
  rcases hi with hi|hi
  ·exact Nat.lt_of_lt_of_le (hl i hi) h.fr.size
  ·exact h.am.lt i hi
 refine⟨fun i=>U i∨Z' i,⟨Z',fun i=>Five p rd wt sa sb i,h.am,⟨rd,wt,sa,sb,h.pw,h.qr,h.qw,h.sh,⟨h.d1,h.d2,h.d3⟩,fun _=>id,fun i hi=>h.five hi⟩,fun i hi e=>h.z i e hi,fun _=>.inr,fun i hi=>.inl (hu.2 i hi),hlt⟩,⟨fun _=>.inl,fun i hi=> ?_,hlt,h.fr.mono fun i _ e=> ?_⟩⟩
 ·rcases hi with hi|hi
  ·exact .inl hi
  ·rcases h.new i hi with e|e
   ·exact .inl (hu.1 i e)
   ·exact .inr e
 ·rcases e with e|e
  ·exact hu.2 i e
  ·exact hu.1 i e
end
section
variable{w0 w:World}{Z0 Z U:Nat→Prop}{a p rd wt sa sb:Nat}{bs:List UInt8}{ss:List Sp}{g:Pg}
theorem zi(h:Am 111 a bs ss w Z){x:Int}(hi:I64 x):Calls Tryz.prog 206 #[.pointer (some ⟨a,0,none⟩),.int .i64 x] w fun e w'=>e=.returned (.bool (decide (Fits bs.length x)))∧w'=w:=by
 have H1:=hid (kO h);have hl:=h.le;obtain⟨i1,i2⟩:=hi;clear h;generalize bs.length=n at *;by_cases h0:0≤x
 case neg=>
  have he:Hid (decide (Fits n x)=false):=decide_eq_false fun m=>h0 m.1
  generalize decide (Fits n x)=v at *;go_enter Tryz.func206,Tryz.ntmps206;go_wp2;go_ret;exact⟨by rw[he.out];simp,rfl⟩
 have ht:=Int.tmod_eq_emod_of_nonneg (b:=512) h0;by_cases h1:x % 512=0
 case neg=>
  have he:Hid (decide (Fits n x)=false):=decide_eq_false fun m=>h1 m.2.1
  generalize decide (Fits n x)=v at *;have hb:((x % 512)==0)=false:=by simp;omega
  go_enter Tryz.func206,Tryz.ntmps206;go_wp2;go_ret;exact⟨by rw[he.out];simp,rfl⟩
 have hw:IntKind.i64.wrap ((n:Int) - x)=n - x:=jB _ (by omega) (by omega);by_cases h3:(512:Int)≤n - x
 ·have he:Hid (decide (Fits n x)=true):=decide_eq_true ⟨h0,h1,by omega⟩;generalize decide (Fits n x)=v at *;go_enter Tryz.func206,Tryz.ntmps206;go_wp2_with fail;refine H1.out.mono ?_;rintro e w1 ⟨rfl,hw⟩;obtain rfl:=hw.symm;go_wp2;go_ret;exact⟨by rw[he.out];simp,rfl⟩
 ·have he:Hid (decide (Fits n x)=false):=decide_eq_false fun m=>h3 (by omega)
  generalize decide (Fits n x)=v at *;go_enter Tryz.func206,Tryz.ntmps206;go_wp2_with fail;refine H1.out.mono ?_;rintro e w1 ⟨rfl,hw⟩;obtain rfl:=hw.symm;go_wp2;go_ret;exact⟨by rw[he.out];simp;omega,rfl⟩
theorem lV(ok:g.Ok bs)(h:Pp w0 Z0 w p a rd wt sa sb Z bs ss g):Calls Tryz.prog 182 #[.pointer (some ⟨p,0,none⟩)] w fun e w'=>e=.returned (.bool (decide g.Full))∧w'=w:=by
 have H1:=hid (Sf.yS h.sh);have c6:=h.pw.c6;have hu:=uv ok;clear h;by_cases hf:g.Full
 ·have he:Hid (decide g.Full=true):=decide_eq_true hf;have h0:Sf.aQ (hs g)=0:=by unfold Pg.Full at hf;omega
  rw[h0] at H1;generalize decide g.Full=v at *;clear hf ok hu h0;go_enter Tryz.func182,Tryz.ntmps182;go_wp2_with fail;refine H1.out.mono ?_;rintro e w1 ⟨rfl,hw⟩;obtain rfl:=hw.symm;go_wp2;go_ret;exact⟨by rw[he.out];simp,rfl⟩
 ·have he:Hid (decide g.Full=false):=decide_eq_false hf;have h0:Sf.aQ (hs g)≠0:=fun e=>hf (by unfold Pg.Full;omega)
  generalize decide g.Full=v at *;generalize Sf.aQ (hs g)=m at *;have h1:((m:Int)==0)=false:=by simp;omega
  clear hf ok hu h0;go_enter Tryz.func182,Tryz.ntmps182;go_wp2_with fail;refine H1.out.mono ?_;rintro e w1 ⟨rfl,hw⟩;obtain rfl:=hw.symm;go_wp2;go_ret;exact⟨by rw[he.out];simp,rfl⟩
theorem l_used(ok:g.Ok bs)(h:Pp w0 Z0 w p a rd wt sa sb Z bs ss g):Calls Tryz.prog 185 #[.pointer (some ⟨p,0,none⟩)] w fun e w'=>e=.returned (.int .i64 (g.used:Int))∧Fr (fun _=>False) w w':=by
 have c6:=h.pw.c6;have hu:=uv ok;have hp:=(ai g.kind ok.kind).2.1.2;have HS:=hid h.sh;have hl:=aO g;have H1:Hid (∀w1,Fr (fun _=>False) w w1→Calls Tryz.prog 226 #[.pointer (some ⟨sa,0,none⟩)] w1 fun e w'=>e=.returned (.int .i64 ((hs g).length:Int))∧w'=w1):=fun w1 f=>Sf.sM (fo h.sh f id id)
 have H2:Hid (∀w1,Fr (fun _=>False) w w1→Calls Tryz.prog 225 #[.pointer (some ⟨sa,0,none⟩)] w1 fun e w'=>e=.returned (.int .i64 (Sf.aQ (hs g):Int))∧w'=w1):=fun w1 f=>Sf.yS (fo h.sh f id id)
 clear h ok;generalize hs g=l at *;generalize pp g.kind=n at *;subst hl;have hr:IntKind.i64.wrap ((l.length:Int) - (Sf.aQ l:Int))=(g.used:Int):=by rw[jB _ (by omega) (by omega)];omega
 generalize g.used=u at *;generalize Sf.aQ l=m at *;generalize l.length=n at *;clear hu hp HS;go_enter Tryz.func185,Tryz.ntmps185;go_wp2_with fail;go_region_held3 (fun w'=>w'.cell? ⟨p,6,none⟩=some (.pointer (some ⟨sa,0,none⟩))) (first|exact(by assumption)|go_keep) (first|(go_at_call 226;refine(H1.out _ (Fr.refl _ _).drew).mono ?_;rintro e w1 ⟨rfl,hw⟩;obtain rfl:=hw.symm;clear hw)|(go_at_call 225;refine(H2.out _ (Fr.refl _ _).drew).mono ?_;rintro e w1 ⟨rfl,hw⟩;obtain rfl:=hw.symm;clear hw))
 all_goals
  go_wp2;go_ret;exact⟨by simp,(Fr.refl _ _).drew⟩
theorem l_has(h:Pp w0 Z0 w p a rd wt sa sb Z bs ss g)(k:Int):Calls Tryz.prog 224 #[.pointer (some ⟨p,0,none⟩),.int .i64 k] w fun e w'=>e=.returned (.bool (decide (g.May k)))∧Fr (fun _=>False) w w':=by
 have H1:=hid (Sf.fq h.sh k);rw[mh] at H1;have c6:=h.pw.c6;clear h;generalize decide (g.May k)=v at *;go_enter Tryz.func224,Tryz.ntmps224;go_wp2_with fail;refine H1.out.mono ?_;rintro e w1 ⟨rfl,m,rfl⟩;go_wp2;go_ret;exact⟨by simp,(Fr.refl _ _).drewN m⟩
theorem rT(k:Int)(w:World):Calls Tryz.prog 224 #[.pointer none,.int .i64 k] w fun e w'=>e=.returned (.bool false)∧Fr (fun _=>False) w w':=by
 go_enter Tryz.func224,Tryz.ntmps224;go_wp2;go_ret;exact⟨by simp,Fr.refl _ _⟩
end
section
variable{w0 w:World}{Z0 Z U:Nat→Prop}{a p rd wt sa sb:Nat}{bs:List UInt8}{ss:List Sp}{g:Pg}
theorem BF{x:Nat}{R:List Nat}(ok:g.Ok bs)(e:g.R=x::R):hs ⟨g.base,g.kind,g.fresh,R,g.D⟩=(hs g).set x true:=uw rfl fun i hi=>by
 have hnd:=ok.nd;have hlt:=ok.lt x (by rw[e];exact List.mem_append_left _ (List.mem_cons_self ..));rw[e,List.cons_append,List.nodup_cons,List.mem_append,not_or] at hnd;show(i<g.fresh∧i∉R∧i∉g.D)↔_;by_cases hi:i=x
 ·subst hi;rw[if_pos rfl];exact⟨fun _=>rfl,fun _=>⟨hlt,hnd.1⟩⟩
 ·rw[if_neg hi];show _↔(i<g.fresh∧i∉g.R∧i∉g.D);rw[e,List.mem_cons,not_or];exact⟨fun⟨a,b,c⟩=>⟨a,⟨hi,b⟩,c⟩,fun⟨a,b,c⟩=>⟨a,b.2,c⟩⟩
theorem xu(e0:g.R=[])(e:g.D=[]):hs ⟨g.base,g.kind,g.fresh+1,[],[]⟩=(hs g).set g.fresh true:=uw rfl fun i hi=>by
 show(i<g.fresh+1∧i∉([]:List Nat)∧i∉([]:List Nat))↔_;by_cases hi:i=g.fresh
 ·subst hi;rw[if_pos rfl];exact⟨fun _=>rfl,fun _=>⟨by omega,by simp,by simp⟩⟩
 ·rw[if_neg hi];show _↔(i<g.fresh∧i∉g.R∧i∉g.D);rw[e,e0];exact⟨fun⟨a,b,c⟩=>⟨by omega,b,c⟩,fun⟨a,b,c⟩=>⟨by omega,b,c⟩⟩
theorem pM{kr kw:Ck}{base kind fresh:Int}{x:Nat}(hx:x<pp g.kind)(hn:¬g.Had x)(h:Ppr w0 Z0 w p a rd wt sa sb Z bs ss base kind fresh (hs g) kr kw):Calls Tryz.prog 201 #[.pointer (some ⟨sa,0,none⟩),.int .i64 x] w fun e w'=>e=.returned (.int .i64 0)∧Ppr w0 Z0 w' p a rd wt sa sb Z bs ss base kind fresh ((hs g).set x true) kr kw:=by
 have hN:Sf.hasN (hs g) (x:Int)=true:=by rw[nR];exact decide_eq_true ⟨by omega,by omega⟩
 have hT:Sf.isT (hs g) (x:Int)=false:=by rw[mh];exact decide_eq_false fun m=>hn m.2
 refine(Sf.jO h.sh (x:Int)).mono fun e w' ⟨he,q,f⟩=>⟨by rw[he,Sf.oG.2 ⟨hN,hT⟩],h.shelf ?_ f⟩
 unfold Sf.taS at q;rw[if_pos hN] at q;exact q
theorem l_pop(ok:g.Ok bs)(h:Pp w0 Z0 w p a rd wt sa sb Z bs ss g)(hk:ss.length<1000000){x:Nat}{R:List Nat}(e:g.R=x::R):Calls Tryz.prog 240 #[.pointer (some ⟨p,0,none⟩)] w fun e w'=>e=.returned (.tuple #[.int .i64 x,.int .i64 0])∧∃Z',Pp w0 Z0 w' p a rd wt sa sb Z' (over bs (g.pos x) (leb 0 8)) (ss++[((g.pos x:Int),(8:Int),false)]++[((g.pos x:Int),(8:Int),true)]) ⟨g.base,g.kind,g.fresh,R,g.D⟩:=by
 have hxm:x∈g.R:=by rw[e];exact List.mem_cons_self ..
 have hx:x<pp g.kind:=ok.lr x hxm;have hxf:x<g.fresh:=ok.lt x (List.mem_append_left _ hxm);have hnh:¬g.Had x:=fun m=>m.2.1 hxm
 have hrep:=ok.r;rw[e] at hrep;have hlk:lnk R≤pp g.kind:=pG fun y hy=>ok.lr y (by rw[e];exact List.mem_cons_of_mem _ hy)
 have hck:(g.ck (lnk g.R)).Ok bs.length:=ok.ck (by rw[e];exact hx);have H2:Hid (∀w1,Pp w0 Z0 w1 p a rd wt sa sb Z bs ss g→Calls Tryz.prog 248 #[.pointer (some ⟨rd,0,none⟩)] w1 fun e w'=>e=.returned (.tuple #[.int .i64 x,.int .i64 0])∧∃Z',Ppr w0 Z0 w' p a rd wt sa sb Z' (over bs (g.pos x) (leb 0 8)) (ss++[((g.pos x:Int),(8:Int),false)]++[((g.pos x:Int),(8:Int),true)]) g.base g.kind g.fresh (hs g) (g.ck (lnk R)) (g.ck (lnk g.D))):=fun w1 h1=>by
  have h0:(g.ck (lnk g.R)).hd=x+1:=by rw[e];rfl
  have hw:wd bs ((g.ck (lnk g.R)).pos x)≤(g.ck (lnk g.R)).per:=by
   show wd bs ((g.ck 0).pos x)≤_
   rw[hrep.1];exact hlk
  have he:(g.ck (lnk g.R)).to (wd bs ((g.ck (lnk g.R)).pos x))=g.ck (lnk R):=by
   show(g.ck (lnk g.R)).to (wd bs ((g.ck 0).pos x))=_;rw[hrep.1];rfl
  refine(wD h1.qr h1.am hck h1.z2 hk h0 hw).mono fun e w' ⟨hE,Z',hL⟩=>⟨hE,Z',?_⟩
  rw[he] at hL;exact h1.ready hL
 have H3:Hid (∀w1 Z1 bs1 ss1,Ppr w0 Z0 w1 p a rd wt sa sb Z1 bs1 ss1 g.base g.kind g.fresh (hs g) (g.ck (lnk R)) (g.ck (lnk g.D))→Calls Tryz.prog 201 #[.pointer (some ⟨sa,0,none⟩),.int .i64 x] w1 fun e w'=>e=.returned (.int .i64 0)∧Pp w0 Z0 w' p a rd wt sa sb Z1 bs1 ss1 ⟨g.base,g.kind,g.fresh,R,g.D⟩):=fun w1 Z1 bs1 ss1 h1=>(pM hx hnh h1).mono fun e' w' ⟨he,k⟩=>⟨he,by rw[←BF ok e] at k;exact k⟩
 have HP:=hid h;have c0:=h.pw.c0;have hxf':¬(g.fresh:Int)≤x:=by omega
 clear h ok hrep hlk hck hk e hxm hx hxf hnh;go_enter Tryz.func240,Tryz.ntmps240;go_wp2_with fail;refine(H2.out _ HP.out).mono ?_;rintro e w2 ⟨rfl,Z2,h2⟩;have HP2:=hid h2;have d5:=h2.pw.c5;have d6:=h2.pw.c6;clear h2 HP H2 c0;go_wp2_with fail;refine(H3.out _ _ _ _ HP2.out).mono ?_;rintro e w3 ⟨rfl,h3⟩;have HP3:=hid h3;clear h3 HP2 H3 d5 d6;go_wp2;go_ret2;exact⟨by simp,Z2,HP3.out⟩
theorem Bi(ok:g.Ok bs)(h:Pp w0 Z0 w p a rd wt sa sb Z bs ss g)(hf:¬g.Full)(e0:g.R=[])(e:g.D=[]):Calls Tryz.prog 242 #[.pointer (some ⟨p,0,none⟩)] w fun e w'=>e=.returned (.tuple #[.int .i64 g.fresh,.int .i64 0])∧Pp w0 Z0 w' p a rd wt sa sb Z bs ss ⟨g.base,g.kind,g.fresh+1,[],[]⟩:=by
 have hx:g.fresh<pp g.kind:=ok.room hf ⟨e0,e⟩;have hp32:=(ai g.kind ok.kind).2.1.2;have hnh:¬g.Had g.fresh:=fun m=>Nat.lt_irrefl _ m.1
 have H3:Hid (∀w1,Pp w0 Z0 w1 p a rd wt sa sb Z bs ss g→Calls Tryz.prog 201 #[.pointer (some ⟨sa,0,none⟩),.int .i64 g.fresh] w1 fun e w'=>e=.returned (.int .i64 0)∧Ppr w0 Z0 w' p a rd wt sa sb Z bs ss g.base g.kind g.fresh (hs ⟨g.base,g.kind,g.fresh+1,[],[]⟩) (g.ck 0) (g.ck 0)):=fun w1 h1=>(pM hx hnh h1).mono fun e' w' ⟨he,k⟩=>⟨he,by rw[←xu e0 e,e0,e] at k;exact k⟩
 have HP:=hid h;have c5:=h.pw.c5;have c6:=h.pw.c6;have hwr:=jB ((g.fresh:Int)+1) (by omega) (by omega);have HE:Hid (((g.fresh+1:Nat):Int)=(g.fresh:Int)+1):=by show _=_;omega
 clear h ok e0 e hf hnh hx hp32;go_enter Tryz.func242,Tryz.ntmps242;go_wp2_with fail;refine(H3.out _ HP.out).mono ?_;rintro e w3 ⟨rfl,h3⟩;have d5:=h3.pw.c5;have fz:=h3.pw.fz;have HP4:=hid (h3.own (h3.pw.vY ((g.fresh:Int)+1)));clear h3 HP H3 c5 c6;go_wp2;go_ret2;refine⟨by simp,?_⟩;show Ppr w0 Z0 _ p a rd wt sa sb Z bs ss g.base g.kind ((g.fresh+1:Nat):Int) _ (g.ck 0) (g.ck 0);rw[HE.out];exact HP4.out
end
theorem bz{P:Program}{Q:Exit→Act→World→Prop}{a:Act}{w:World}{c rest:Code}(l:Nat)(J:Act→World→Prop)(μ:Act→World→Nat)(hf:findLabel c l=some (Code.skip.seq rest))
  (pre:∀R:Exit→Act→World→Prop,(∀a w,J a w→rest.wp P R a w)→c.wp P R a w)
  (pass:∀a w,J a w→rest.wp P (Exit.jump l (fun a' w'=>J a' w'∧μ a' w'<μ a w) Q) a w):(Code.scope c).wp P Q a w:=
 wp_scope_jumps l J μ hf (pre _ fun a w h=>Code.wp_mono (fun e a w he=>by
  cases e with
  |goto l'=>exact⟨he.1,he.2.1⟩
  |_=>exact he) (pass a w h)) fun a w h=>wp_seq (wp_skip (pass a w h))
section
variable{w:World}{a c:Nat}{Z:Nat→Prop}{bs:List UInt8}{ss:List Sp}{k:Ck}
end
end Go.Proofs.YtndhbnhobhkmaaaGreatDoor
