/-
  What the calls of a tenant that keeps its word answer and leave: Malloc, Calloc, Free, Usable, Read, Write, Restrict.
  What Realloc of a tenant that keeps its word answers and leaves.
  What Resize and Drop of a tenant that keeps its word answer and leave.
  What the calls of package tenant answer of a tenant that is none.
  The laws' own 'call', of a tenant that keeps its word.
  Handles that were given out: a row of the law's own; which one a call takes.
  A set of bits as a map that the call has made: looked up, stored, walked over; and each as a thing by itself.
-/
import Derived.Test.YtndhbnhobhkmaaaGreatDoorTnStepB
namespace Go.Proofs.YtndhbnhobhkmaaaGreatDoor
open Go.RowKit
open An
abbrev U64(h:Int):Prop:=0≤h∧h≤18446744073709551615
theorem pkB_u(t s r n:Int):U64 (Ka.pkB t s r n):=by
 unfold Ka.pkB U64;split
 ·rename_i h;unfold Ka.KR at h;omega
 ·omega
theorem plV_u(c:Ka.Ct)(lo hi r:Int):U64 (Ka.plV c lo hi r):=by
 unfold Ka.plV;split
 ·exact pkB_u ..
 ·unfold U64;omega
theorem BG(c:Ka.Ct)(a:Int):U64 (Ka.grV c a):=by
 unfold Ka.grV;split
 ·unfold U64;omega
 ·exact plV_u ..
def mlS(k:Nat)(S:TnS)(n:Int):TnS:=if tkE k S n=0 then owS (tkS k S n) (tkV k S n) n else S
def mlE(k:Nat)(S:TnS)(n:Int):Int:=if tkE k S n=0 then Ka.grE (tkS k S n).c (tkV k S n) else tkE k S n
def mlH(k:Nat)(S:TnS)(n:Int):Int:=if tkE k S n=0 then Ka.grV (tkS k S n).c (tkV k S n) else 0
def mlA(k:Nat)(S:TnS)(n:Int):Int:=if tkE k S n=0 then tkV k S n else 0
section
variable{W w:World}{x:Tp}{S:TnS}{ts:List (World→(Nat→Prop)→Prop)}{b:Nat}{n a:Int}
theorem TnOk.mall(h:TnOk x S b)(hb:b≤800000)(n:Int):TnOk x (mlS x.k S n) (b+2):=by
 unfold mlS;split
 ·rename_i hE;obtain⟨c,s,j,M',H',h1,gv,h3,h4,h5,_,h7⟩:=vQ h.q h.hc hE;rw[h4,h3];have hC:=uE (c:=S.c) (a:=adI c s j);exact(h.took hb h1 gv h5 h7 (C:=Ka.grS S.c (adI c s j)) hC).1
 ·exact h.less (by omega)
theorem lu(g:aa W w (tnl x S ts))(gr:G17 W)(h:TnOk x S b)(hn:I64 n):Calls Tryz.prog 26 #[.pointer (some ⟨x.T,0,none⟩),.int .i64 n] w fun e w'=>e=.returned (ans (mlE x.k S n) (mlH x.k S n) (mlA x.k S n) 0 ⟨#[]⟩ (mlS x.k S n).s.cb)∧aa W w' (tnl x (mlS x.k S n) ts):=by
 unfold mlE mlH mlA mlS;by_cases hE:tkE x.k S n=0
 ·rw[if_pos hE,if_pos hE,if_pos hE,if_pos hE];obtain⟨c,s,j,M',H',h1,gv,h3,h4,h5,_,h7⟩:=vQ h.q h.hc hE;have hbn:HadB H'.L c s j:=(gv.had c s j).2 (.inr ⟨rfl,rfl,rfl⟩);have hok:=((iB (fun _=>id) h.hc.ok h.hc.ms n).ok h.hc.ok h.hc.ms).1.ok;rw[h1] at hok;obtain⟨p0,_,_⟩:=hbn.there hok;have hi:=p0.inside;have hu:=cG c (by omega) (by omega);exact dM g gr h.hc hn hE (by rw[h3];omega) h.maxLen
 ·rw[if_neg hE,if_neg hE,if_neg hE,if_neg hE];obtain⟨e1,_⟩:=tk_no h.q h.hc hE;have:=ij g gr h.hc hn hE;rw[e1] at this;exact this
def usN(S:TnS)(hh:Int):Int:=if Ka.fiE S.c hh 0=0 then((S.f (Ka.fiV S.c hh 0)).getD (0,0)).2 else 0
theorem su(g:aa W w (tnl x S ts))(h:TnOk x S b){hh:Int}(h0:U64 hh):Calls Tryz.prog 13 #[.pointer (some ⟨x.T,0,none⟩),.int .u64 hh] w fun e w'=>(∃E,e=.returned (ans E 0 0 (usN S hh) ⟨#[]⟩ S.s.cb))∧aa W w' (tnl x S ts):=by
 unfold usN;by_cases hf:Ka.fiE S.c hh 0=0
 ·rw[if_pos hf];obtain⟨y,hy⟩:=h.found hf;obtain⟨c,s,j,hd,p,_,ea,ey,_,_,y1,y2,a1,a2⟩:=h.obj hy;rw[hy];exact(nI g h0.1 h0.2 hf (by omega) hy (by unfold Rt;omega)).mono fun e w' ⟨he,g'⟩=>⟨⟨_,he⟩,g'⟩
 ·rw[if_neg hf];exact(ig g h0.1 h0.2 hf).mono fun e w' ⟨he,g'⟩=>⟨⟨_,he⟩,g'⟩
theorem oT(h:TnOk x S b){hh r fr:Int}(h0:U64 hh)(hr:0≤r∧r≤7)(hfr:I64 fr)(n:Int):∃av er,(∀(w:World) (ts:List (World→(Nat→Prop)→Prop)),aa W w (tnl x S ts)→Calls Tryz.prog 38 #[.pointer (some ⟨x.T,0,none⟩),.int .u64 hh,.int .i64 r,.int .i64 fr,.int .i64 n] w fun e w'=>e=.returned (.tuple #[.int .i64 av,.int .i64 er])∧aa W w' (tnl x S ts))∧(er=0→∃(c s j f:Nat) (y:Int×Int),HadB S.H.L c s j∧av=adI c s j+f∧(f:Int)=fr∧fr+n≤y.1∧0≤n∧y.1≤ah c∧ah c≤8192∧I64 av):=by
 by_cases hf:Ka.fiE S.c hh r=0
 ·obtain⟨y,hy⟩:=h.found hf;obtain⟨c,s,j,hd,p,_,ea,ey,z1,z2,y1,y2,a1,a2⟩:=h.obj hy;refine⟨_,_,fun w ts g=>nK g h0.1 h0.2 (by omega) hfr (n:=n) hf (by omega) hy (by omega),fun he=> ?_⟩;by_cases k:Inn y.1 fr n
  ·obtain⟨k1,k2,k3⟩:=k;refine⟨c,s,j,fr.toNat,y,hd,?_,by omega,by omega,k2,by omega,by omega,?_⟩
   ·rw[if_pos ⟨k1,k2,k3⟩,ea];omega
   ·rw[if_pos ⟨k1,k2,k3⟩];omega
  ·rw[if_neg k] at he;omega
 ·exact⟨_,_,fun w ts g=>ft g h0.1 h0.2 (by omega) fr n hf,fun he=>(hf he).elim⟩
end
theorem zr_wr:∀(L:List Sq) (bs:List UInt8) (n:Nat),lenL L≤n→zrB bs L=wrB bs L (List.replicate n 0)
 |[],_,_,_=>rfl
 |s::r,bs,n,hn=>by
  have hl:lenL (s::r)=s.2.1.toNat+lenL r:=rfl;show zrB (over bs s.1.toNat (List.replicate s.2.1.toNat 0)) r=wrB (over bs s.1.toNat ((List.replicate n 0).take s.2.1.toNat)) r ((List.replicate n 0).drop s.2.1.toNat);rw[List.take_replicate,List.drop_replicate,Nat.min_eq_left (by omega)];exact zr_wr r _ _ (by omega)
theorem vz_vw{T:Tb}(ok:TbOk T)(bs:List UInt8)(a:Int){n:Int}(hn:0≤n):vzB T bs a n=vwB T bs a (List.replicate n.toNat 0):=by
 have e:((List.replicate n.toNat (0:UInt8)).length:Int)=n:=by rw[List.length_replicate];omega
 unfold vzB vwB;rw[e];by_cases hv:VwOk T bs.length a n
 ·rw[if_pos hv,if_pos hv];exact zr_wr _ _ _ (by rw[(hv.apt ok).2.1];exact Nat.le_refl _)
 ·rw[if_neg hv,if_neg hv]
theorem vc_vw{T:Tb}(ok:TbOk T){bs:List UInt8}{t f n:Int}(hn:0≤n)(hv:VcOk T bs.length t f n):vcB T bs t f n=vwB T bs t (vrV T bs f n)∧(vrV T bs f n).length=n.toNat:=by
 have h2:=hv.2;have hl:(vrV T bs f n).length=n.toNat:=by
  unfold vrV;rw[if_pos h2,du (h2.apt ok).1,(h2.apt ok).2.1]
 refine⟨?_,hl⟩;have e:(((vrV T bs f n).length:Nat):Int)=n:=by rw[hl];omega
 unfold vcB vwB;rw[e,if_pos hv,if_pos hv.1];unfold vrV;rw[if_pos h2]
section
variable{c:Ka.Ct}{h a a':Int}
end
section
variable{W w:World}{x:Tp}{S:TnS}{ts:List (World→(Nat→Prop)→Prop)}{b:Nat}{n a:Int}
theorem TnOk.caps(h:TnOk x S b){C:Ka.Ct}(hT:C.T=S.c.T)(hC:∀z∈C.L,(S.f z.a).isSome=true):TnOk x { S with c:=C } b:=⟨h.q,h.lb,h.hc,h.ss,h.id,hT.trans h.cT,h.ob,h.bo,hC,h.ks,h.pgs⟩
theorem Bg{a m hh t k j:Nat}{M:Ms}{H:Hp}(g:aa W w ts)(hj:ts[j]? =some (Hs a m hh t k M H))(hc:Hc k M H){y z n:Int}(hy:I64 y)(hz:I64 z)(hn:I64 n)(hs:n≤16384):Calls Tryz.prog 49 #[.pointer (some ⟨a,0,none⟩),.pointer (some ⟨t,0,none⟩),.int .i64 y,.int .i64 z,.int .i64 n] w fun e w'=>e=.returned (.int .i64 (vcE H.T M.bs.length y z n))∧aa W w' (ts.set j (Hs a m hh t k ⟨M.has,vcB H.T M.bs y z n,vcT H.T M.bs.length M.ss y z n⟩ H)):=
 g.qo j hj fun _ _ h1 h2 h3=>v_copy h1 h2 h3 hc.ok.tp.tb hy hz hn hs (by have:=hc.ss;omega)
theorem vc_few{T:Tb}(ok:TbOk T)(N:Nat)(ss:List Sp)(x y:Int){n:Int}(hn:n≤8192):(vcT T N ss x y n).length≤ss.length+40:=by
 unfold vcT;split
 ·rename_i hv;have h1:=(hv.1.apt ok).2.2.1;have h2:=(hv.2.apt ok).2.2.1;simp only[List.length_append,tch,List.length_map];omega
 ·omega
theorem mv_eq(S:TnS)(M' Mc:Ms)(H':Hp)(n a a' y2:Int)(c s j:Nat)(hno:S.f a'=none)(hne:a'≠a)(h1:1≤S.n):
  owS (rlS { S.took M' H' (ag n) with M:=Mc } a c s j 0 y2) a' n={ rlS { { owS (S.took M' H' (ag n)) a' n with c:=S.c } with M:=Mc } a c s j 0 y2 with c:=Ka.grS (Ka.rvS S.c a) a' }:=by
 have hf:(fun z=>if z=a' then some (n,ag n) else(if z=a then none else S.f z))=(fun z=>if z=a then none else if z=a' then some (n,ag n) else S.f z):=by
  funext z;by_cases e:z=a'
  ·subst e;rw[if_pos rfl,if_neg hne,if_pos rfl]
  ·rw[if_neg e,if_neg e]
 have hn:(if((if a'=a then none else S.f a'):Option (Int×Int)).isSome then S.n - 1 else S.n - 1+1)=(if(S.f a').isSome then S.n else S.n+1) - 1:=by
  rw[if_neg hne,hno];show(if false=true then S.n - 1 else S.n - 1+1)=(if false=true then S.n else S.n+1) - 1;rw[if_neg (by decide),if_neg (by decide)];omega
 show(⟨_,_,_,_,_,_⟩:TnS)=⟨_,_,_,_,_,_⟩;rw[TnS.mk.injEq];exact⟨rfl,rfl,rfl,rfl,hf,hn⟩
end
theorem aa.unrot{W w:World}{Q:World→(Nat→Prop)→Prop}(ls rs:List (World→(Nat→Prop)→Prop))(h:aa W w (ls++Q::rs)):aa W w (ls++rs++[Q]):=by
 refine h.order (fun j=>if j<ls.length then j else if j=ls.length then ls.length+rs.length else j - 1) (fun j=>if j<ls.length then j else if j=ls.length+rs.length then ls.length else j+1) (fun j hj=> ?_) fun j hj=> ?_
 ·simp only[List.length_append,List.length_cons,List.length_nil] at hj ⊢;by_cases h1:j<ls.length
  ·simp only[if_pos h1];exact⟨by omega,trivial⟩
  ·by_cases h2:j=ls.length
   ·simp only[if_neg h1,if_pos h2];refine⟨by omega,?_⟩;rw[if_neg (by omega),if_pos trivial];exact h2.symm
   ·simp only[if_neg h1,if_neg h2];refine⟨by omega,?_⟩;rw[if_neg (by omega),if_neg (by omega)];omega
 ·simp only[List.length_append,List.length_cons,List.length_nil] at hj ⊢;by_cases h1:j<ls.length
  ·simp only[if_pos h1];refine⟨by omega,trivial,?_⟩;rw[List.append_assoc,List.getElem?_append_left h1,List.getElem?_append_left h1]
  ·by_cases h2:j=ls.length+rs.length
   ·subst h2;simp only[if_neg h1,if_true];refine⟨by omega,?_,?_⟩
    ·simp
    ·simp
   ·simp only[if_neg h1,if_neg h2];refine⟨by omega,?_,?_⟩
    ·rw[if_neg (by omega),if_neg (by omega)];omega
    ·rw[List.getElem?_append_left (by simp;omega),List.getElem?_append_right (by omega),List.getElem?_append_right (by omega)];obtain⟨d,rfl⟩:∃d,j=ls.length+d:=⟨j - ls.length,by omega⟩;rw[show ls.length+d+1 - ls.length=d+1 by omega,show ls.length+d - ls.length=d by omega];rfl
section
variable{W w:World}{x:Tp}{S:TnS}{ts:List (World→(Nat→Prop)→Prop)}{b:Nat}
theorem bg{P:World→(Nat→Prop)→Prop}(g:aa W w (tnl x S (P::ts))):aa W w (tnl x S ts):=
 aa.less (aa.unrot [Hs x.a x.m x.h x.t x.k S.M S.H,Kc x.c S.c,Qq x.q S.s,Ot x.B S.f S.n,Blk x.T (tob x)] ts g)
theorem vO{ad:Option Addr}{l:List Int}{cap:Nat}(g:aa W w (tnl x S (Lv ad l::ts)))(gr:G17 W)(hc:Hc x.k S.M S.H)(hl:l.length≤17592186044416):Calls Tryz.prog 59 #[.pointer (some ⟨x.m,0,none⟩),.slice ad l.length cap] w fun e w'=>e=.returned (.int .i64 (pgI S.M.has.length x.k l))∧aa W w' (tnl x S (Lv ad l::ts)):=by
 have hct:∀w1,Fr (fun _=>False) w w1→∃Z,Cq.Cm w1 x.m Z x.k S.M.has:=fun w1 f=>by
  have g0:=g.kept f;obtain⟨U,p,_⟩:=g0.get 0 rfl;obtain⟨Z1,q1,_⟩:=Both.fst' p;obtain⟨Z2,q2,_⟩:=Both.snd q1;obtain⟨Z0,q3,_⟩:=q2.into (gr.fr g0.nw.fr).2;exact⟨Z0,q3⟩
 exact(tG cap (fun w1 c f=>by obtain⟨Z,hz⟩:=hct w1 f;exact Cq.eV hz c) (fun w1 f=>by obtain⟨Z,hz⟩:=hct w1 f;exact(Cq.zE hz).mono fun _ _ ⟨he,_,f⟩=>⟨he,f⟩) hc.ms.cap hc.k1 hc.k2 (g.nums 5 rfl) hl).mono fun e w' ⟨he,f⟩=>⟨he,g.kept f.fr⟩
end
section
variable{W w:World}{ts:List (World→(Nat→Prop)→Prop)}
end
section
variable{W w:World}{x:Tp}{S:TnS}{ts:List (World→(Nat→Prop)→Prop)}{b:Nat}{n m pk tu hh:Int}{d:ByteArray}{ad:Option Addr}{cap:Nat}{W0:List Int}
end
theorem modu(x:Int)(m:Nat)(M:Int)(hM:M=(m:Int))(h0:0<m)(h1:m≤65536):∃n:Nat,wrap64 ((IntKind.u64.wrap x).tmod M)=(n:Int)∧n<m:=by
 subst hM;have hu:0≤IntKind.u64.wrap x:=by rw[IntKind.wrap_u64];omega
 have he:(IntKind.u64.wrap x).tmod (m:Int)=(IntKind.u64.wrap x) % (m:Int):=Int.tmod_eq_emod_of_nonneg hu;have h2:=Int.emod_nonneg (IntKind.u64.wrap x) (b:=(m:Int)) (by omega);have h3:=Int.emod_lt_of_pos (IntKind.u64.wrap x) (b:=(m:Int)) (by omega);refine⟨((IntKind.u64.wrap x) % (m:Int)).toNat,?_,by omega⟩;rw[he];generalize (IntKind.u64.wrap x) % (m:Int)=z at *;unfold wrap64;omega
def uc(l:List Int):List Value:=l.map fun x=>Value.int .u64 x
theorem vL:∃i,Tryz.prog.info? 37=some i∧i.zero=some (.int .u64 0)∧i.size=1∧i.bytes=8:=by
 have h:(Tryz.prog.info? 37).map (fun i=>(i.zero,i.size,i.bytes))=some (some (.int .u64 0),1,8):=by kernel_rfl
 cases hq:Tryz.prog.info? 37 with
 |none=>rw[hq] at h;cases h
 |some i=>
  rw[hq] at h;simp only[Option.map_some,Option.some.injEq,Prod.mk.injEq] at h;exact⟨i,rfl,h.1,h.2.1,h.2.2⟩
abbrev Wd(l:List Int):Prop:=∀x∈l,U64 x
theorem rQ{a b:Int}(ha:0≤a∧a≤18446744073709551615)(hb:0≤b∧b≤18446744073709551615):0≤Go.bits .xor .u64 a b∧Go.bits .xor .u64 a b≤18446744073709551615:=by
 obtain⟨x,rfl⟩:∃x:Nat,a=(x:Int):=⟨a.toNat,by omega⟩;obtain⟨z,rfl⟩:∃z:Nat,b=(z:Int):=⟨b.toNat,by omega⟩;have h:=Nat.xor_lt_two_pow (n:=64) (x:=x) (y:=z) (by omega) (by omega);rw[bits_xor_u64_nat x z (by omega) (by omega)];omega
def Ru(base:Nat)(y:Value)(l:List Int)(w:World)(Z:Nat→Prop):Prop:=w.ownsRow base 37 1 y l.length (uc l)∧(∀g,y.ownBlock=some g→Z g)∧∀i,Z i→i<w.heap.size
theorem Ru.good(base:Nat)(y:Value)(l:List Int):Good (Ru base y l):=
 ⟨fun h f hs=>⟨dt h.1 f fun x e=>hs x (h.2.1 x e),h.2.1,fun i hi=>Nat.lt_of_lt_of_le (h.2.2 i hi) f.size⟩,fun h h1 h2=>⟨h.1,fun g e=>h1 g (h.2.1 g e),h2⟩⟩
theorem Ru.empty(base:Nat)(w:World):Ru base (.slice none 0 0) [] w (fun _=>False):=⟨⟨rfl,.inl ⟨rfl,rfl⟩⟩,fun g e=>by simp[Value.ownBlock] at e,fun _ e=>e.elim⟩
theorem Ru.grow{base g m m2 cap:Nat}{y:Value}{l:List Int}{x:Int}{w w':World}{Z:Nat→Prop}(h:Ru base y l w Z){w0:World}(f:Fr (fun _=>False) w w0)(hown:w'.ownsRow base 37 1 (.slice (some ⟨g,0,none⟩) m cap) m2 (uc l++[.int .u64 x]))(hm:m2=l.length+1)(hg:w0.grownBy w' y.ownBlock)(hw:y.ownBlock=some g∨w.heap.size≤g):∃Z',Ru base (.slice (some ⟨g,0,none⟩) m cap) (l++[x]) w' Z'∧Gw w w' Z Z':=by
 have hs:=f.size;have hlt:∀i,(Z i∨i=g)→i<w'.heap.size:=fun i hi=>by
  rcases hi with hi|rfl
  ·have:=h.2.2 i hi;have:=hg.size;omega
  ·exact(hown.lt i rfl).2
 refine⟨fun i=>Z i∨i=g,⟨by subst hm;rw[List.length_append,show uc (l++[x])=uc l++[.int .u64 x] by simp[uc]];exact hown,fun g' e=>.inr (by simpa [Value.ownBlock] using e.symm),hlt⟩,⟨fun _=>.inl,fun i hi=> ?_,hlt,(f.mono fun _ _ e=>e.elim).grown hg fun k e=>.inl (h.2.1 k e)⟩⟩;rcases hi with hi|rfl
 ·exact .inl hi
 ·rcases hw with e|e
  ·exact .inl (h.2.1 i e)
  ·exact .inr e
theorem aa.sW{W w:World}{ts:List (World→(Nat→Prop)→Prop)}(h:aa W w ts)(j:Nat){base:Nat}{y:Value}{l:List Int}(hj:ts[j]? =some (Ru base y l)):w.ownsRow base 37 1 y l.length (uc l)∧∀{w0 w':World} {g m m2 cap:Nat} {x:Int},Fr (fun _=>False) w w0→w'.ownsRow base 37 1 (.slice (some ⟨g,0,none⟩) m cap) m2 (uc l++[.int .u64 x])→m2=l.length+1→w0.grownBy w' y.ownBlock→(y.ownBlock=some g∨w.heap.size≤g)→aa W w' (ts.set j (Ru base (.slice (some ⟨g,0,none⟩) m cap) (l++[x]))):=by
 obtain⟨U,h1,_,h2⟩:=h.turn j hj;refine⟨h1.1,fun f ho hm hg hw=> ?_⟩;obtain⟨Z',r1,r2⟩:=h1.grow f ho hm hg hw;exact h2 _ _ Z' (Ru.good _ _ _) r1 r2
theorem push1u{w:World}{ops:Array Oper}{rest:List Oper}{o:Oper}{a:Act}{Q:Exit→Act→World→Prop}(hgd:o.guard=none)(s x:Operand)
  (ho:o.op=.call { callee:=.builtin .append,args:=#[s,x],argTypes:=#[36,36] })
  (base:Nat)(y:Value)(ys:List Int)(z:Int)(hs:a.eval s=y)(hown:w.ownsRow base 37 1 y ys.length (uc ys))
  (B:Nat)(hx:a.eval x=.slice (some ⟨B,0,none⟩) 1 1)(hz:w.cell? ⟨B,0,none⟩=some (.int .u64 z))(hl:ys.length<100000)(hbase:base≤w.heap.size)
  (h:∀g cap w',w'.ownsRow base 37 1 (.slice (some ⟨g,0,none⟩) (ys.length+1) cap) (ys.length+1) (uc ys++[.int .u64 z])→w.grownBy w' y.ownBlock→(y.ownBlock=some g∨g=w.heap.size)→wpList Tryz.prog ops Q rest (a.put o.dst (.slice (some ⟨g,0,none⟩) (ys.length+1) cap)) w'):wpList Tryz.prog ops Q (o::rest) a w:=by
 obtain⟨i0,hi,hz0,hz1,hz2⟩:=vL;refine aL hgd s x 36 ho base 37 i0 (.int .u64 0) 1 8 Tryz.underlying36 hi hz0 hz1 hz2 rfl (by decide) y ys.length (uc ys) hs hown ⟨B,0,none⟩ 1 1 (by decide) [.int .u64 z] hx rfl ?_ ?_ (by unfold maxLen;omega) (by omega) hbase ?_
 ·intro j u hj
  match j,hj with
  |0,hj=>simp at hj;subst hj;simpa [Addr.add] using hz
 ·intro u hu;simp at hu;subst hu;rfl
 ·intro g cap w' hown' hg hw;exact h g cap w' hown' hg hw
theorem nm{w:World}{base:Nat}{y:Value}{l:List Int}(h:w.ownsRow base 37 1 y l.length (uc l)):∃ad cap,y=.slice ad l.length cap∧∀i (hi:i<l.length),∃g,ad=some ⟨g,0,none⟩∧w.cell? ⟨g,i,none⟩=some (.int .u64 l[i]):=by
 rcases h.2 with⟨e1,e2⟩|⟨g,cap,cur,e1,hb,hc,h3,_⟩
 ·exact⟨none,0,by rw[e2];exact e1,fun i hi=>by omega⟩
 ·refine⟨_,cap,e1,fun i hi=>⟨g,rfl,?_⟩⟩;have:=h.cells (g:=g) (by rw[e1];rfl) i (.int .u64 l[i]) (by simp[uc,hi])
  rwa [add_plain,Nat.zero_add] at this
set_option maxRecDepth 20000 in
theorem wI{w:World}{base:Nat}{y:Value}{l:List Int}(h:w.ownsRow base 37 1 y l.length (uc l))(hw:Wd l)(hl:l.length≤1000){o:O18}(ht:U64 o.tu):Calls Tryz.prog 10 #[y,.agg o.cs] w fun e w'=>(∃hh,U64 hh∧e=.returned (.int .u64 hh))∧Fr (fun _=>False) w w':=by
 obtain⟨kd,n,m0,pk,tu,d,ad0,cap0,W0⟩:=o;have h':(w.alloc (.cells #[.int .i64 kd,.int .i64 n,.int .i64 m0,.int .i64 pk,.int .u64 tu,.string d,.slice ad0 W0.length cap0] 39)).ownsRow base 37 1 y l.length (uc l):=dt h ((Fr.refl (fun _=>False) _).alloc _) fun _ _=>id
 obtain⟨ad,cap,rfl,hc⟩:=nm h';unfold O18.cs;simp only at ht ⊢;generalize W0.length=wl at *;by_cases h0:l.length=0
 ·rw[h0];clear h0 hc hl h h' hw;go_enter Tryz.func10,Tryz.ntmps10;go_wp2;go_ret;exact⟨⟨tu,ht,by simp⟩,(Fr.refl _ _).alloc _⟩
 ·obtain⟨q,hq,hql⟩:=modu pk l.length l.length rfl (by omega) (by omega);obtain⟨g,rfl,hg⟩:=hc q hql;have hx:=rQ (hw _ (List.getElem_mem hql)) ht;clear h hc h' hw;generalize l[q]=x at *;generalize l.length=m at *;have hb:((m:Int)==0)=false:=by simp;omega
  have hw0:IntKind.u64.wrap (m:Int)=(m:Int):=by rw[IntKind.wrap_u64];omega
  have HX:=hid hx;have HT:=hid ht;clear hx ht;generalize hbx:Go.bits .xor .u64 x tu=bx at *;go_enter Tryz.func10,Tryz.ntmps10;go_wp2;go_quiet (simp only[hw0,hq,hbx]);go_wp2;go_ret;exact⟨⟨bx,HX.out,by simp⟩,((Fr.refl _ _).alloc _).drewN nq⟩
end Go.Proofs.YtndhbnhobhkmaaaGreatDoor
namespace Go.Proofs.YtndhbnhobhkmaaaGreatDoor.Dd
open Go.RowKit
theorem oH:Maps.Keyed Tryz.prog 37:=Maps.int_keyed Tryz.underlying37
theorem yI{x:Int}(h:0≤x∧x≤18446744073709551615):(Lit.int .u64 x).wf=true:=by
 have e1:IntKind.u64.min=0:=by decide
 have e2:IntKind.u64.max=18446744073709551615:=by decide
 simp[Lit.wf,e1,e2];omega
theorem sd{x:Int}(hx:(Lit.int .u64 x).wf=true):keyOf Tryz.prog 37 (.int .u64 x)=some (.int .u64 x):=by
 unfold keyOf;rw[Tryz.underlying37];simp[mapKey,Tryz.underlying37,hx]
theorem bB{H:Type}{P:Program}{e:TypeId}(he:P.underlying e=some .bool){v:Value}{z:DataW H×List MemPlace}(h:plainElem P e v=some z):∃c,v=.bool c∧z=(.lit (.bool c),[]):=by
 unfold plainElem at h;rw[he] at h;cases v<;>simp at h;exact⟨_,rfl,h.symm⟩
theorem kT(w:World):(zeroValue 4).run Tryz.prog w=.ok (.bool false) w:=by kernel_rfl
def Dm(D:DataW Unit)(l:List Int):Prop:=(∀x:Int,Maps.has D (.int .u64 x)=decide (x∈l))∧∀x:Int,D.atKey (.int .u64 x) (.lit (.bool false))=.lit (.bool (decide (x∈l)))
def Om(w:World)(B n:Nat)(l:List Int):Prop:=∃D:DataW Unit,w.ownsMap Tryz.prog 37 (plainElem Tryz.prog 4) B n D∧Dm D l
section
variable{w w':World}{B n:Nat}{l:List Int}
theorem Om.new(w:World):Om (w.alloc (.map #[] 0)) w.heap.size 0 []:=⟨_,World.ownsMap_made w _ _ _,fun x=>by simp[Maps.has],fun x=>by simp;rfl⟩
theorem Om.lt(h:Om w B n l):B<w.heap.size:=by obtain⟨D,h1,_⟩:=h;exact h1.lt
theorem Om.carry{S:Nat→Prop}(h:Om w B n l)(f:Fr S w w')(hn:¬S B):Om w' B n l:=by
 obtain⟨D,⟨es,clock,hb,F,hs,hD⟩,h2⟩:=h;exact⟨D,⟨es,clock,by rw[f.block B (Array.getElem?_eq_some_iff.1 hb).1 hn];exact hb,F,hs,hD⟩,h2⟩
theorem Om.look(h:Om w B n l){x:Int}(hx:0≤x∧x≤18446744073709551615):(Instr.lookup 53 (.map (some B)) (.int .u64 x) false).run Tryz.prog w=.ok (.bool (decide (x∈l))) w:=by
 obtain⟨D,h1,_,h2⟩:=h;obtain⟨v,ps,hrun,hv⟩:=h1.lookup oH Tryz.underlying53 (kT w) (plainElem_bool Tryz.underlying4 false) (sd (yI hx));obtain⟨c,rfl,hc⟩:=bB Tryz.underlying4 hv;rw[h2 x] at hc;simp only[Prod.mk.injEq,DataW.lit.injEq,Lit.bool.injEq] at hc;rw[hrun,hc.1]
theorem Om.store(h:Om w B n l)(hn:n<maxLen){x:Int}(hx:0≤x∧x≤18446744073709551615):∃w',(Instr.mapUpdate 53 (.map (some B)) (.int .u64 x) (.bool true)).run Tryz.prog w=.ok () w'∧Om w' B (n+1) (x::l)∧Fr (fun i=>i=B) w w':=by
 obtain⟨D,h1,hh,h2⟩:=h;obtain⟨w',hrun,h3,hg⟩:=h1.update oH Tryz.underlying53 hn (sd (yI hx)) (plainElem_bool Tryz.underlying4 true);refine⟨w',hrun,⟨_,h3,fun y=> ?_,fun y=> ?_⟩,(Fr.refl _ _).grown hg (fun k e=>.inl (by simpa using e.symm))⟩
 ·by_cases e:y=x
  ·subst e;rw[Maps.has_put_same h1.isMap (by trivial)];simp
  ·rw[Maps.has_put_other (by simpa using e),hh y];simp[e]
 ·by_cases e:y=x
  ·subst e;rw[Maps.atKey_put_same h1.isMap (by trivial)];simp
  ·rw[Maps.atKey_put_other (by simpa using e),h2 y];simp[e]
def Rg(w:World)(B r n:Nat)(l:List Int)(cnt:Nat):Prop:=∃(D:DataW Unit) (left:Lit→Bool),w.ranges Tryz.prog 37 (plainElem Tryz.prog 4) B r n D left cnt∧Dm D l∧∀x:Int,left (.int .u64 x)=true→x∈l
theorem Rg.om{r cnt:Nat}(h:Rg w B r n l cnt):Om w B n l:=by obtain⟨D,left,h1,h2,_⟩:=h;exact⟨D,h1.owns,h2⟩
theorem Rg.lt{r cnt:Nat}(h:Rg w B r n l cnt):r<w.heap.size:=by obtain⟨D,left,h1,_⟩:=h;exact h1.lt
theorem Rg.left{r cnt:Nat}(h:Rg w B r n l cnt):w.rangeLeft B r=cnt:=by obtain⟨D,left,h1,_⟩:=h;exact h1.left_eq
theorem Rg.carry{S:Nat→Prop}{r cnt:Nat}(h:Rg w B r n l cnt)(f:Fr S w w')(h1:¬S B)(h2:¬S r):Rg w' B r n l cnt:=by
 have hl:=h.lt;have ho:=h.om.lt;obtain⟨D,left,⟨es,clock,since,seen,c0,hb,F,hs,hD,hr,rest⟩,h3⟩:=h;exact⟨D,left,⟨es,clock,since,seen,c0,(f.block B ho h1).trans hb,F,hs,hD,(f.block r hl h2).trans hr,rest⟩,h3⟩
end
section
variable{w:World}{ops:Array Oper}{rest:List Oper}{o:Oper}{act:Act}{Q:Exit→Act→World→Prop}{B n:Nat}{l:List Int}
theorem vG(hgd:o.guard=none)(m:Operand)(hop:o.op=Op.range 53 m)(hm:act.eval m=.map (some B))(h:Om w B n l)
  (hK:∀w' cnt,Rg w' B w.heap.size n l cnt→Fr (fun _=>False) w w'→wpList Tryz.prog ops Q rest (act.put o.dst (.pointer (some ⟨w.heap.size,0,none⟩))) w'):wpList Tryz.prog ops Q (o::rest) act w:=by
 obtain⟨D,h1,h2⟩:=h;refine wpList_range_own w hgd m 53 hop 37 4 oH Tryz.underlying53 _ B n D hm h1 ?_;intro w' hr hg _;exact hK w' _ ⟨D,_,hr,h2,fun x hx=>by rw[h2.1 x] at hx;simpa using hx⟩ ((Fr.refl _ _).grown hg fun k e=>by cases e)
theorem zO{r cnt:Nat}(hgd:o.guard=none)(it:Operand)(hop:o.op=Op.next it false)(hit:act.eval it=.pointer (some ⟨r,0,none⟩))(h:Rg w B r n l cnt)
  (hDone:wpList Tryz.prog ops Q rest (act.put o.dst (.tuple #[.bool false])) w)
  (hMore:∀(x:Int) (b:Bool) (w':World) (cnt':Nat),x∈l→Rg w' B r n l cnt'→cnt'<cnt→Fr (fun i=>i=r) w w'→(Instr.entry (.pointer (some ⟨r,0,none⟩))).run Tryz.prog w'=.ok (.tuple #[.int .u64 x,.bool b]) w'→wpList Tryz.prog ops Q rest (act.put o.dst (.tuple #[.bool true,.int .u64 x,.bool b])) w'):wpList Tryz.prog ops Q (o::rest) act w:=by
 obtain⟨D,left,h1,h2,h3⟩:=h;refine wpList_next_ranges w hgd it hop 37 oH (plainElem Tryz.prog 4) (Value.int .u64) Value.bool (fun key kl hkey=>by obtain⟨x,rfl,_⟩:=Maps.keyOf_int_inv Tryz.underlying37 hkey;exact⟨x,rfl⟩) (fun v y hv=>by obtain⟨c,rfl,_⟩:=bB Tryz.underlying4 hv;exact⟨c,rfl⟩) B r n D left cnt hit h1 (fun _ _=>hDone) ?_;intro x b kl y w' cnt' hkey hlk _ _ hrg hlt hg _ hen;obtain⟨x',ex,rfl,_⟩:=Maps.keyOf_int_inv Tryz.underlying37 hkey;cases ex;exact hMore x b w' cnt' (h3 x hlk) ⟨D,_,hrg,h2,fun z hz=>h3 z (by simp at hz;exact hz.1)⟩ hlt ((Fr.refl _ _).grown hg fun k e=>.inl (by simpa using e.symm)) hen
end
def Md(B n:Nat)(l:List Int)(w:World)(Z:Nat→Prop):Prop:=Om w B n l∧Z B∧∀i,Z i→i<w.heap.size
def Wd(B r n:Nat)(l:List Int)(m:Nat)(w:World)(Z:Nat→Prop):Prop:=Rg w B r n l m∧(Z B∧Z r)∧∀i,Z i→i<w.heap.size
theorem Md.good(B n:Nat)(l:List Int):Good (Md B n l):=
 ⟨fun h fr hs=>⟨h.1.carry fr (hs _ h.2.1),h.2.1,fun i hi=>Nat.lt_of_lt_of_le (h.2.2 i hi) fr.size⟩,fun h h1 h2=>⟨h.1,h1 _ h.2.1,h2⟩⟩
theorem Wd.good(B r n:Nat)(l:List Int)(m:Nat):Good (Wd B r n l m):=
 ⟨fun h fr hs=>⟨h.1.carry fr (hs _ h.2.1.1) (hs _ h.2.1.2),h.2.1,fun i hi=>Nat.lt_of_lt_of_le (h.2.2 i hi) fr.size⟩,fun h h1 h2=>⟨h.1,⟨h1 _ h.2.1.1,h1 _ h.2.1.2⟩,h2⟩⟩
section
variable{W w:World}{ts:List (World→(Nat→Prop)→Prop)}{B n r m:Nat}{l:List Int}
theorem mdNew(h:aa W w ts):aa W (w.alloc (.map #[] 0)) (ts++[Md w.heap.size 0 []]):=
 h.more (Z:=fun i=>i=w.heap.size) (Md.good _ _ _) ⟨Om.new w,rfl,fun i hi=>by simp only[World.size_alloc];omega⟩ ((Fr.refl _ _).alloc _) fun i hi=>by simp only[World.size_alloc];omega
theorem om(h:aa W w ts)(j:Nat)(hj:ts[j]? =some (Md B n l)):Om w B n l:=by
 obtain⟨U,h1,_⟩:=h.get j hj;exact h1.1
theorem rg(h:aa W w ts)(j:Nat)(hj:ts[j]? =some (Wd B r n l m)):Rg w B r n l m:=by
 obtain⟨U,h1,_⟩:=h.get j hj;exact h1.1
theorem tK(h:aa W w ts)(j:Nat)(hj:ts[j]? =some (Md B n l))(hn:n<maxLen){x:Int}(hx:0≤x∧x≤18446744073709551615):∃w',(Instr.mapUpdate 53 (.map (some B)) (.int .u64 x) (.bool true)).run Tryz.prog w=.ok () w'∧aa W w' (ts.set j (Md B (n+1) (x::l))):=by
 obtain⟨U,h1,_,h2⟩:=h.turn j hj;obtain⟨w',hr,ho,fr⟩:=h1.1.store hn hx;exact⟨w',hr,h2 _ w' U (Md.good _ _ _) ⟨ho,h1.2.1,fun i hi=>Nat.lt_of_lt_of_le (h1.2.2 i hi) fr.size⟩ (Gw.same h1.2.2 (fr.mono fun i _ e=>e▸h1.2.1))⟩
theorem mdWalk(h:aa W w ts)(j:Nat)(hj:ts[j]? =some (Md B n l)){w':World}(hr:w.heap.size≤r)(ho:Rg w' B r n l m)(fr:Fr (fun _=>False) w w'):aa W w' (ts.set j (Wd B r n l m)):=by
 obtain⟨U,h1,h0,h2⟩:=h.turn j hj;have hlt:∀i,(U i∨i=r)→i<w'.heap.size:=fun i hi=>by
  rcases hi with hi|rfl
  ·exact Nat.lt_of_lt_of_le (h1.2.2 i hi) fr.size
  ·exact ho.lt
 refine h2 _ w' (fun i=>U i∨i=r) (Wd.good _ _ _ _ _) ⟨ho,⟨.inl h1.2.1,.inr rfl⟩,hlt⟩ ⟨fun _=>.inl,fun i hi=> ?_,hlt,fr.mono fun _ _ e=>e.elim⟩;rcases hi with hi|rfl
 ·exact .inl hi
 ·exact .inr hr
theorem mdNext(h:aa W w ts)(j:Nat)(hj:ts[j]? =some (Wd B r n l m)){w':World}{m':Nat}(ho:Rg w' B r n l m')(fr:Fr (fun i=>i=r) w w'):aa W w' (ts.set j (Wd B r n l m')):=by
 obtain⟨U,h1,_,h2⟩:=h.turn j hj;exact h2 _ w' U (Wd.good _ _ _ _ _) ⟨ho,h1.2.1,fun i hi=>Nat.lt_of_lt_of_le (h1.2.2 i hi) fr.size⟩ (Gw.same h1.2.2 (fr.mono fun i _ e=>e▸h1.2.1.2))
theorem mdEnd(h:aa W w ts)(j:Nat)(hj:ts[j]? =some (Wd B r n l m)):aa W w (ts.set j (Md B n l)):=by
 obtain⟨U,h1,_,h2⟩:=h.turn j hj;exact h2 _ w U (Md.good _ _ _) ⟨h1.1.om,h1.2.1.1,h1.2.2⟩ (Gw.same h1.2.2 (Fr.refl _ _))
end
end Go.Proofs.YtndhbnhobhkmaaaGreatDoor.Dd
