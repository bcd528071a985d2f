/-
  What each call leaves of a tenant that keeps its word: mathematics.
  What the calls of a tenant that keeps its word answer and leave: Malloc, Calloc, Free, Usable, Read, Write, Restrict.
  What Realloc of a tenant that keeps its word answers and leaves.
  What Resize and Drop of a tenant that keeps its word answer and leave.
  What the calls of package tenant answer of a tenant that is none.
-/
import Derived.Test.YtndhbnhobhkmaaaGreatDoorTnBlocks
namespace Go.Proofs.YtndhbnhobhkmaaaGreatDoor
open Go.RowKit
open An
section
variable{f:Int→Option (Int×Int)}{n:Nat}{cb a:Int}{y:Int×Int}
theorem iK{f:Int→Option (Int×Int)}:∀{ks:List Int},(∀a∈ks,0≤((f a).getD (0,0)).2)→0≤csum f ks
 |[],_=>Int.le_refl _
 |a::r,h=>by
  have h1:=h a (List.mem_cons_self ..);have h2:=iK fun b hb=>h b (List.mem_cons_of_mem _ hb)
  show 0≤_+csum f r
  omega
theorem Kys.le(h:Kys f n cb)(hl:∀a y,f a=some y→16≤y.2)(ha:f a=some y):y.2≤cb∧1≤n:=by
 obtain⟨ks,h1,h2,h3,h4⟩:=h;have hm:a∈ks:=(h2 a).2 (by rw[ha];rfl);have h5:=iK (f:=f) (ks:=ks.erase a) fun b hb=>by
  obtain⟨z,hz⟩:=Option.isSome_iff_exists.1 ((h2 b).1 (List.mem_of_mem_erase hb));rw[hz];have:=hl b z hz;show 0≤z.2;omega
 have h6:=fK (f:=f) hm;rw[ha] at h6;have h7:=List.length_pos_of_mem hm;refine⟨?_,by omega⟩;rw[h4,h6];show y.2≤y.2+_;omega
end
section
variable{x:Tp}{S:TnS}{b:Nat}{n a:Int}{y:Int×Int}{c s j:Nat}
theorem TnOk.released(h:TnOk x S b)(hb:b≤800000)(hy:S.f a=some y)(hd:HadB S.H.L c s j)(ha:a=adI c s j):TnOk x (rlS S a c s j 0 y.2) (b+18):=by
 obtain⟨_,hcl⟩:=h.ks.le (fun a y e=>by obtain⟨_,_,_,_,_,_,_,_,_,_,h1,_⟩:=h.obj e;exact h1) hy;have hle:y.2≤S.s.cb:=(h.ks.le (fun a y e=>by obtain⟨_,_,_,_,_,_,_,_,_,_,h1,_⟩:=h.obj e;exact h1) hy).1;obtain⟨c0,s0,j0,_,_,_,_,_,_,_,y16,_⟩:=h.obj hy;have hss:=h.ss;obtain⟨t1,t2⟩:=h.hc.free c s j 0 (by omega);have hfr:hFr S.M S.H (c:Int) (s:Int) (j:Int) 0=hF S.M S.H c s j:=by unfold hFr;rw[if_pos rfl,Int.toNat_natCast,Int.toNat_natCast]
 rw[hfr] at t1 t2;obtain⟨_,hh⟩:=hF_had h.hc.ok hd;have e1:rlS S a c s j 0 y.2={ S with M:=(hF S.M S.H c s j).1,H:=(hF S.M S.H c s j).2.1,s:=S.s.chg (-y.2),c:=Ka.rvS S.c a,f:=fun z=>if z=a then none else S.f z,n:=S.n - 1 }:=by
  unfold rlS gbS;rw[hfr,h.q.ref hle]
 rw[e1];obtain⟨p0,_,_⟩:=hd.there h.hc.ok;have hne:∀{c' s' j':Nat},HadB S.H.L c' s' j'→¬(c'=c∧s'=s∧j'=j)→adI c' s' j'≠a:=fun hb' k e=>by
  obtain⟨p1,_,_⟩:=hb'.there h.hc.ok;have:=p1.same p0 (e.trans ha);exact k ⟨by omega,by omega,by omega⟩
 have hlb:=h.q.ok.fb1;have hrb:=h.q.rb;refine⟨h.q.chg (by omega) (by omega),h.lb,t1,by show(hF S.M S.H c s j).1.ss.length≤_;omega,h.id,h.cT,fun z w e=> ?_,fun c' s' j' hb'=> ?_,fun z hz=> ?_,h.ks.del hy,by show(hF S.M S.H c s j).1.has.length≤_;rw[(hF_ok h.hc.ok h.hc.ms c s j).1.stp.len];exact h.pgs⟩
 ·have e':(if z=a then none else S.f z)=some w:=e;by_cases k:z=a
  ·rw[if_pos k] at e';cases e'
  ·rw[if_neg k] at e';obtain⟨c',s',j',hb',e2,e3⟩:=h.ob z w e';refine⟨c',s',j',(hh c' s' j').2 ⟨hb',fun q=> ?_⟩,e2,e3⟩;obtain⟨rfl,rfl,rfl⟩:=q;exact k (e2.trans ha.symm)
 ·obtain⟨hb0,k⟩:=(hh c' s' j').1 hb';show(if adI c' s' j'=a then none else S.f (adI c' s' j')).isSome=true;rw[if_neg (hne hb0 k)];exact h.bo c' s' j' hb0
 ·have hz2:z∈S.c.L.filter fun x=>decide (x.a≠a):=hz
  obtain⟨hz3,hz4⟩:=List.mem_filter.1 hz2;show(if z.a=a then none else S.f z.a).isSome=true;rw[if_neg (by simpa using hz4)];exact h.sl z hz3
theorem TnOk.mem(h:TnOk x S b){M':Ms}{b':Nat}(hc:Hc x.k M' S.H)(hs:M'.ss.length≤b')(he:M'.has=S.M.has):TnOk x { S with M:=M' } b':=⟨h.q,h.lb,hc,hs,h.id,h.cT,h.ob,h.bo,h.sl,h.ks,by show M'.has.length≤_;rw[he];exact h.pgs⟩
theorem TnOk.sized(h:TnOk x S b)(hy:S.f a=some y)(h1:1≤n)(h2:n≤y.2):TnOk x (ctS S a n y.2) b:=by
 refine⟨h.q,h.lb,h.hc,h.ss,h.id,h.cT,fun z w e=> ?_,fun c' s' j' hb'=> ?_,fun z hz=> ?_,h.ks.size hy,h.pgs⟩
 ·have e':(if z=a then some (n,y.2) else S.f z)=some w:=e;by_cases k:z=a
  ·rw[if_pos k] at e';cases e';obtain⟨c',s',j',hb',e2,e3,_⟩:=h.ob a y hy;exact⟨c',s',j',hb',k.trans e2,e3,h1,h2⟩
  ·rw[if_neg k] at e';exact h.ob z w e'
 ·show(if adI c' s' j'=a then some (n,y.2) else S.f (adI c' s' j')).isSome=true;split
  ·rfl
  ·exact h.bo c' s' j' hb'
 ·show(if z.a=a then some (n,y.2) else S.f z.a).isSome=true;split
  ·rfl
  ·exact h.sl z hz
theorem ta{c:Ka.Ct}{lo hi r a:Int}{z:Ka.Sl}(hz:z∈(Ka.plS c lo hi r a).L):z∈c.L∨z.a=a:=by
 unfold Ka.plS at hz;split at hz
 ·have hz':z∈c.L.take (Ka.scan c.L lo).1++c.slot lo r a::c.L.drop (Ka.scan c.L lo).1:=hz;rcases List.mem_append.1 hz' with k|k
  ·exact .inl (List.mem_of_mem_take k)
  ·rcases List.mem_cons.1 k with rfl|k
   ·exact .inr rfl
   ·exact .inl (List.mem_of_mem_drop k)
 ·exact .inl hz
theorem plS_T(c:Ka.Ct)(lo hi r a:Int):(Ka.plS c lo hi r a).T=c.T:=by unfold Ka.plS;split<;>rfl
theorem uF{c:Ka.Ct}{a:Int}:(Ka.grS c a).T=c.T∧∀z∈(Ka.grS c a).L,z∈c.L∨z.a=a:=by
 unfold Ka.grS;split
 ·exact⟨rfl,fun z hz=>.inl hz⟩
 ·exact⟨plS_T ..,fun z hz=>ta hz⟩
theorem TnOk.qE(h:TnOk x S b)(hh r:Int):TnOk x { S with c:=Ka.reS S.c hh r } b:=by
 have key:(Ka.reS S.c hh r).T=S.c.T∧∀z∈(Ka.reS S.c hh r).L,(S.f z.a).isSome=true:=by
  unfold Ka.reS;cases e:Ka.look S.c hh with
  |none=>exact⟨rfl,h.sl⟩
  |some z0=>
   simp only;split
   ·split
    ·refine⟨plS_T ..,fun z hz=> ?_⟩;rcases ta hz with k|k
     ·exact h.sl z k
     ·rw[k];exact h.sl z0 (Ka.ct e).1
    ·exact⟨rfl,h.sl⟩
   ·exact⟨rfl,h.sl⟩
 exact⟨h.q,h.lb,h.hc,h.ss,h.id,key.1.trans h.cT,h.ob,h.bo,key.2,h.ks,h.pgs⟩
theorem TnOk.moved(h:TnOk x S b){l:List Int}(hl:l.length≤17592186044416)(hb:b+1536≤890000)(hmo:(hMo x.k S.M S.H l).2.2=0){q p:Int}(hq:May q)(hcb:S.s.cb≤q):TnOk (x.peak p) (rzS x.k S q l) (b+1536):=by
 obtain⟨l1,lW,ls⟩:=hMo_ok h.hc.ok h.hc.ms l hmo;have hrt:Rt q 0:=by unfold Rt;unfold May at hq;omega
 have ea:okA q 0=q:=if_pos hrt;have eb:okB q 0=0:=if_pos hrt;have hT:S.H.T.length≤512:=by
  have h1:=aF S.M.has.length (S.H.T.map fun y=>y.2.toNat) (by
   rw[List.nodup_iff_pairwise_ne,List.pairwise_map];refine List.Pairwise.imp_of_mem ?_ h.hc.ok.tp.tb.inj;intro y y' hy hy' hne e;have h3:=(h.hc.ok.tp.tk y hy).1;have h4:=(h.hc.ok.tp.tk y' hy').1;exact hne (by omega)) fun v hv=>by
   obtain⟨y,hy,rfl⟩:=List.mem_map.1 hv;exact(h.hc.ok.tp.tk y hy).2.1
  rw[List.length_map] at h1;have:=h.pgs;omega
 have hss:=h.ss;have hcH:Hc x.k (hMo x.k S.M S.H l).1 (hMo x.k S.M S.H l).2.1:=⟨by rw[lW];exact l1.ok,l1.ms,h.hc.k1,h.hc.k2,by omega,by rw[lW];exact hl⟩;have e1:=h.q.rb;have e2:=h.q.rp;have e3:=h.q.cp;have e4:=h.q.ok;have hs:Qt.rszS S.s (okA q 0) (okB q 0)=⟨q,0,S.s.cb,S.s.cp,S.s.rb,S.s.rp⟩:=by
  rw[ea,eb];unfold Qt.rszS;exact if_pos ⟨by omega,by omega⟩
 have er:rzS x.k S q l={ S with M:=(hMo x.k S.M S.H l).1,H:=(hMo x.k S.M S.H l).2.1,s:=⟨q,0,S.s.cb,S.s.cp,S.s.rb,S.s.rp⟩ }:=by unfold rzS;rw[hs]
 rw[er];have hpl:Plain ⟨q,0,S.s.cb,S.s.cp,S.s.rb,S.s.rp⟩:=⟨⟨hrt,e4.cb0,e4.cp0,e4.rb0,e4.rp0,by show S.s.cb+S.s.rb≤q;omega,by show S.s.cp+S.s.rp≤0;omega⟩,e1,e2,e3,rfl⟩;refine⟨hpl,hq.2,hcH,by show(hMo x.k S.M S.H l).1.ss.length≤_;omega,h.id,h.cT,fun z w e=> ?_,fun c' s' j' hb'=>h.bo c' s' j' ((uE l).1 hb'),h.sl,h.ks,by show(hMo x.k S.M S.H l).1.has.length≤_;rw[l1.stp.len];exact h.pgs⟩;obtain⟨c',s',j',hb',e5⟩:=h.ob z w e;exact⟨c',s',j',(uE l).2 hb',e5⟩
theorem TnOk.dropped(h:TnOk x S b)(hb:b+512≤890000)(cc B:Nat):TnOk (x.dropped cc B) (drS S x.id) (b+512):=by
 obtain⟨l1,ls⟩:=hDr_ok h.hc.ok h.hc.ms;have hT:S.H.T.length≤512:=by
  have h1:=aF S.M.has.length (S.H.T.map fun y=>y.2.toNat) (by
   rw[List.nodup_iff_pairwise_ne,List.pairwise_map];refine List.Pairwise.imp_of_mem ?_ h.hc.ok.tp.tb.inj;intro y y' hy hy' hne e;have h3:=(h.hc.ok.tp.tk y hy).1;have h4:=(h.hc.ok.tp.tk y' hy').1;exact hne (by omega)) fun v hv=>by
   obtain⟨y,hy,rfl⟩:=List.mem_map.1 hv;exact(h.hc.ok.tp.tk y hy).2.1
  rw[List.length_map] at h1;have:=h.pgs;omega
 have hss:=h.ss;have e1:=h.q.cp;have hs:Qt.refS S.s S.s.cb S.s.cp=S.s.chg (-S.s.cb):=by rw[e1];exact h.q.ref (Int.le_refl _)
 have e4:=h.q.ok.lim;have hp:=h.q.chg (a:= -S.s.cb) (by omega) (by unfold Rt at e4;omega);refine⟨by show Plain (Qt.refS S.s S.s.cb S.s.cp);rw[hs];exact hp,by show(Qt.refS S.s S.s.cb S.s.cp).lb≤_;rw[hs];exact h.lb,⟨l1.ok,l1.ms,h.hc.k1,h.hc.k2,by show(hDr S.M S.H).1.ss.length≤_;omega,h.hc.W⟩,by show(hDr S.M S.H).1.ss.length≤_;omega,h.id,rfl,fun z w e=>(by cases e),fun c' s' j' hb'=>(by obtain⟨x,hx,_⟩:=hb';cases hx),fun z hz=>(by cases hz),?_,by show(hDr S.M S.H).1.has.length≤_;rw[l1.stp.len];exact h.pgs⟩;show Kys (fun _=>none) 0 (Qt.refS S.s S.s.cb S.s.cp).cb;rw[hs];have e5:(S.s.chg (-S.s.cb)).cb=0:=by show S.s.cb+ -S.s.cb=0;omega
 rw[e5];exact Kys.noneK
end
abbrev U64(h:Int):Prop:=0≤h∧h≤18446744073709551615
theorem pkB_u(t s r n:Int):U64 (Ka.pkB t s r n):=by
 unfold Ka.pkB U64;split
 ·rename_i h;unfold Ka.KR at h;omega
 ·omega
theorem plV_u(c:Ka.Ct)(lo hi r:Int):U64 (Ka.plV c lo hi r):=by
 unfold Ka.plV;split
 ·exact pkB_u ..
 ·unfold U64;omega
theorem BQ(c:Ka.Ct)(a:Int):U64 (Ka.grV c a):=by
 unfold Ka.grV;split
 ·unfold U64;omega
 ·exact plV_u ..
theorem reV_u(c:Ka.Ct)(h r:Int):U64 (Ka.reV c h r):=by
 unfold Ka.reV;cases Ka.look c h with
 |none=>show U64 0;unfold U64;omega
 |some x=>
  simp only;split
  ·split
   ·exact plV_u ..
   ·unfold U64;omega
  ·unfold U64;omega
def mlS(k:Nat)(S:TnS)(n:Int):TnS:=if tkE k S n=0 then owS (tkS k S n) (tkV k S n) n else S
def mlE(k:Nat)(S:TnS)(n:Int):Int:=if tkE k S n=0 then Ka.grE (tkS k S n).c (tkV k S n) else tkE k S n
def mlH(k:Nat)(S:TnS)(n:Int):Int:=if tkE k S n=0 then Ka.grV (tkS k S n).c (tkV k S n) else 0
def mlA(k:Nat)(S:TnS)(n:Int):Int:=if tkE k S n=0 then tkV k S n else 0
section
variable{W w:World}{x:Tp}{S:TnS}{ts:List (World→(Nat→Prop)→Prop)}{b:Nat}{n a:Int}
theorem TnOk.mall(h:TnOk x S b)(hb:b≤800000)(n:Int):TnOk x (mlS x.k S n) (b+2):=by
 unfold mlS;split
 ·rename_i hE;obtain⟨c,s,j,M',H',h1,gv,h3,h4,h5,_,h7⟩:=zZ h.q h.hc hE;rw[h4,h3];have hC:=uF (c:=S.c) (a:=adI c s j);exact(h.took hb h1 gv h5 h7 (C:=Ka.grS S.c (adI c s j)) hC).1
 ·exact h.less (by omega)
theorem lh(g:aa W w (tnl x S ts))(gr:G17 W)(h:TnOk x S b)(hn:I64 n):Calls Tryz.prog 26 #[.pointer (some ⟨x.T,0,none⟩),.int .i64 n] w fun e w'=>e=.returned (ans (mlE x.k S n) (mlH x.k S n) (mlA x.k S n) 0 ⟨#[]⟩ (mlS x.k S n).s.cb)∧aa W w' (tnl x (mlS x.k S n) ts):=by
 unfold mlE mlH mlA mlS;by_cases hE:tkE x.k S n=0
 ·rw[if_pos hE,if_pos hE,if_pos hE,if_pos hE];obtain⟨c,s,j,M',H',h1,gv,h3,h4,h5,_,h7⟩:=zZ h.q h.hc hE;have hbn:HadB H'.L c s j:=(gv.had c s j).2 (.inr ⟨rfl,rfl,rfl⟩);have hok:=((iE (fun _=>id) h.hc.ok h.hc.ms n).ok h.hc.ok h.hc.ms).1.ok;rw[h1] at hok;obtain⟨p0,_,_⟩:=hbn.there hok;have hi:=p0.inside;have hu:=cD c (by omega) (by omega);exact dN g gr h.hc hn hE (by rw[h3];omega) h.maxLen
 ·rw[if_neg hE,if_neg hE,if_neg hE,if_neg hE];obtain⟨e1,_⟩:=tk_no h.q h.hc hE;have:=iq g gr h.hc hn hE;rw[e1] at this;exact this
theorem sx(g:aa W w (tnl x S ts))(gr:G17 W)(h:TnOk x S b)(hb:b≤800000){p:Int}(hp:I64 p)(hn:I64 n):Calls Tryz.prog 33 #[.pointer (some ⟨x.T,0,none⟩),.int .i64 p,.int .i64 n] w fun e w'=>∃S' E hd ad,TnOk x S' (b+2)∧U64 hd∧e=.returned (ans E hd ad 0 ⟨#[]⟩ S'.s.cb)∧aa W w' (tnl x S' ts):=by
 by_cases hk:p<1∨n<1∨8192<p * n
 ·exact(nG g hp hn hk).mono fun e w' ⟨he,g'⟩=>⟨S,2,0,0,h.less (by omega),by unfold U64;omega,he,g'⟩
 ·refine(lL (p:=p) (n:=n) g (by omega) (by omega) (by omega) fun w ts g=>lh g gr h (n:=p * n) ?_).mono fun e w' ⟨he,g'⟩=>⟨mlS x.k S (p * n),_,_,_,h.mall hb _,?_,he,g'⟩
  ·have:0≤p * n:=Int.mul_nonneg (by omega) (by omega);omega
  ·unfold mlH;split
   ·exact BQ ..
   ·unfold U64;omega
theorem Ai(g:aa W w (tnl x S ts))(gr:G17 W)(h:TnOk x S b)(hb:b≤800000){hh:Int}(h0:U64 hh):Calls Tryz.prog 20 #[.pointer (some ⟨x.T,0,none⟩),.int .u64 hh] w fun e w'=>∃S' E,TnOk x S' (b+18)∧e=.returned (ans E 0 0 0 ⟨#[]⟩ S'.s.cb)∧aa W w' (tnl x S' ts):=by
 by_cases hf:Ka.fiE S.c hh 4=0
 ·obtain⟨y,hy⟩:=h.found hf;obtain⟨c,s,j,hd,p,_,ea,ey,_,_,y1,y2,a1,a2⟩:=h.obj hy;have:=lI g gr h.hc h0.1 h0.2 hf (kd:=c) (s:=s) (i:=j) (E:=0) (.inl ⟨rfl,p,ea.symm⟩) (by omega) hy (by unfold Rt;omega);exact this.mono fun e w' ⟨he,g'⟩=>⟨_,_,h.released hb hy hd ea,he,g'⟩
 ·exact(tI g h0.1 h0.2 hf).mono fun e w' ⟨he,g'⟩=>⟨S,_,h.less (by omega),he,g'⟩
def usN(S:TnS)(hh:Int):Int:=if Ka.fiE S.c hh 0=0 then((S.f (Ka.fiV S.c hh 0)).getD (0,0)).2 else 0
theorem kZ(g:aa W w (tnl x S ts))(h:TnOk x S b){hh:Int}(h0:U64 hh):Calls Tryz.prog 13 #[.pointer (some ⟨x.T,0,none⟩),.int .u64 hh] w fun e w'=>(∃E,e=.returned (ans E 0 0 (usN S hh) ⟨#[]⟩ S.s.cb))∧aa W w' (tnl x S ts):=by
 unfold usN;by_cases hf:Ka.fiE S.c hh 0=0
 ·rw[if_pos hf];obtain⟨y,hy⟩:=h.found hf;obtain⟨c,s,j,hd,p,_,ea,ey,_,_,y1,y2,a1,a2⟩:=h.obj hy;rw[hy];exact(nC g h0.1 h0.2 hf (by omega) hy (by unfold Rt;omega)).mono fun e w' ⟨he,g'⟩=>⟨⟨_,he⟩,g'⟩
 ·rw[if_neg hf];exact(nD g h0.1 h0.2 hf).mono fun e w' ⟨he,g'⟩=>⟨⟨_,he⟩,g'⟩
theorem oI(h:TnOk x S b){hh r fr:Int}(h0:U64 hh)(hr:0≤r∧r≤7)(hfr:I64 fr)(n:Int):∃av er,(∀(w:World) (ts:List (World→(Nat→Prop)→Prop)),aa W w (tnl x S ts)→Calls Tryz.prog 38 #[.pointer (some ⟨x.T,0,none⟩),.int .u64 hh,.int .i64 r,.int .i64 fr,.int .i64 n] w fun e w'=>e=.returned (.tuple #[.int .i64 av,.int .i64 er])∧aa W w' (tnl x S ts))∧(er=0→∃(c s j f:Nat) (y:Int×Int),HadB S.H.L c s j∧av=adI c s j+f∧(f:Int)=fr∧fr+n≤y.1∧0≤n∧y.1≤ah c∧ah c≤8192∧I64 av):=by
 by_cases hf:Ka.fiE S.c hh r=0
 ·obtain⟨y,hy⟩:=h.found hf;obtain⟨c,s,j,hd,p,_,ea,ey,z1,z2,y1,y2,a1,a2⟩:=h.obj hy;refine⟨_,_,fun w ts g=>nF g h0.1 h0.2 (by omega) hfr (n:=n) hf (by omega) hy (by omega),fun he=> ?_⟩;by_cases k:Inn y.1 fr n
  ·obtain⟨k1,k2,k3⟩:=k;refine⟨c,s,j,fr.toNat,y,hd,?_,by omega,by omega,k2,by omega,by omega,?_⟩
   ·rw[if_pos ⟨k1,k2,k3⟩,ea];omega
   ·rw[if_pos ⟨k1,k2,k3⟩];omega
  ·rw[if_neg k] at he;omega
 ·exact⟨_,_,fun w ts g=>qN g h0.1 h0.2 (by omega) fr n hf,fun he=>(hf he).elim⟩
theorem Ah(g:aa W w (tnl x S ts))(h:TnOk x S b)(hb:b≤800000){hh fr:Int}(h0:U64 hh)(hfr:I64 fr)(hn:I64 n):Calls Tryz.prog 17 #[.pointer (some ⟨x.T,0,none⟩),.int .u64 hh,.int .i64 fr,.int .i64 n] w fun e w'=>∃S' E d,TnOk x S' (b+34)∧e=.returned (ans E 0 0 0 d S'.s.cb)∧aa W w' (tnl x S' ts):=by
 obtain⟨av,er,hre,hz⟩:=oI (W:=W) h h0 (r:=1) (by omega) hfr n;by_cases he:er=0
 ·subst he;obtain⟨c,s,j,f,y,hd,ea,ef,k1,k2,k3,k4,k5⟩:=hz rfl;refine(lH g h.hc hre k5 hn (by omega)).mono fun e w' ⟨he,g'⟩=>⟨{ S with M:=⟨S.M.has,S.M.bs,vrT S.H.T S.M.bs.length S.M.ss av n⟩ },_,_,?_,he,g'⟩
  have hl:=(mu h.hc.ok.tp.tb S.M.bs.length S.M.ss av (n:=n) (by omega)).1;have hss:=h.ss;exact h.mem (h.hc.notes (by omega)) (by show(vrT S.H.T S.M.bs.length S.M.ss av n).length≤_;omega) rfl
 ·exact(tF g hre he).mono fun e w' ⟨he,g'⟩=>⟨S,_,_,h.less (by omega),he,g'⟩
theorem vR(g:aa W w (tnl x S ts))(h:TnOk x S b)(hb:b≤800000){hh fr:Int}(h0:U64 hh)(hfr:I64 fr)(d:ByteArray):Calls Tryz.prog 19 #[.pointer (some ⟨x.T,0,none⟩),.int .u64 hh,.int .i64 fr,.string d] w fun e w'=>∃S' E,TnOk x S' (b+34)∧e=.returned (ans E 0 0 0 ⟨#[]⟩ S'.s.cb)∧aa W w' (tnl x S' ts):=by
 obtain⟨av,er,hre,hz⟩:=oI (W:=W) h h0 (r:=2) (by omega) hfr d.size;by_cases he:er=0
 ·subst he;obtain⟨c,s,j,f,y,hd,ea,ef,k1,k2,k3,k4,k5⟩:=hz rfl;have hdl:d.data.toList.length=d.size:=by rw[Array.length_toList];rfl
  refine(jj g h.hc hre k5 (by omega)).mono fun e w' ⟨he,g'⟩=>⟨{ S with M:=⟨S.M.has,vwB S.H.T S.M.bs av d.data.toList,vwT S.H.T S.M.bs.length S.M.ss av d.size⟩ },_,?_,he,g'⟩
  have hl:=(mu h.hc.ok.tp.tb S.M.bs.length S.M.ss av (n:=d.size) (by omega)).2;have hss:=h.ss;have hw:=h.hc.wrote hd (f:=f) (ds:=d.data.toList) (by omega) (ss':=vwT S.H.T S.M.bs.length S.M.ss av d.size) (by omega);rw[←ea] at hw;exact h.mem hw (by show(vwT S.H.T S.M.bs.length S.M.ss av d.size).length≤_;omega) rfl
 ·exact(qL g hre he).mono fun e w' ⟨he,g'⟩=>⟨S,_,h.less (by omega),he,g'⟩
theorem mW(g:aa W w (tnl x S ts))(gr:G17 W)(h:TnOk x S b){hh:Int}(h0:U64 hh)(r:Int):Calls Tryz.prog 22 #[.pointer (some ⟨x.T,0,none⟩),.int .u64 hh,.int .i64 r] w fun e w'=>∃S' E hd,TnOk x S' b∧U64 hd∧e=.returned (ans E hd 0 0 ⟨#[]⟩ S'.s.cb)∧aa W w' (tnl x S' ts):=
 (qM g gr h0.1 h0.2 r).mono fun _ _ ⟨he,g'⟩=>⟨{ S with c:=Ka.reS S.c hh r },_,_,h.qE hh r,reV_u ..,he,g'⟩
end
theorem zr_wr:∀(L:List Sq) (bs:List UInt8) (n:Nat),lenL L≤n→zrB bs L=wrB bs L (List.replicate n 0)
 |[],_,_,_=>rfl
 |s::r,bs,n,hn=>by
  have hl:lenL (s::r)=s.2.1.toNat+lenL r:=rfl;show zrB (over bs s.1.toNat (List.replicate s.2.1.toNat 0)) r=wrB (over bs s.1.toNat ((List.replicate n 0).take s.2.1.toNat)) r ((List.replicate n 0).drop s.2.1.toNat);rw[List.take_replicate,List.drop_replicate,Nat.min_eq_left (by omega)];exact zr_wr r _ _ (by omega)
theorem vz_vw{T:Tb}(ok:TbOk T)(bs:List UInt8)(a:Int){n:Int}(hn:0≤n):vzB T bs a n=vwB T bs a (List.replicate n.toNat 0):=by
 have e:((List.replicate n.toNat (0:UInt8)).length:Int)=n:=by rw[List.length_replicate];omega
 unfold vzB vwB;rw[e];by_cases hv:VwOk T bs.length a n
 ·rw[if_pos hv,if_pos hv];exact zr_wr _ _ _ (by rw[(hv.apt ok).2.1];exact Nat.le_refl _)
 ·rw[if_neg hv,if_neg hv]
theorem vc_vw{T:Tb}(ok:TbOk T){bs:List UInt8}{t f n:Int}(hn:0≤n)(hv:VcOk T bs.length t f n):vcB T bs t f n=vwB T bs t (vrV T bs f n)∧(vrV T bs f n).length=n.toNat:=by
 have h2:=hv.2;have hl:(vrV T bs f n).length=n.toNat:=by
  unfold vrV;rw[if_pos h2,dv (h2.apt ok).1,(h2.apt ok).2.1]
 refine⟨?_,hl⟩;have e:(((vrV T bs f n).length:Nat):Int)=n:=by rw[hl];omega
 unfold vcB vwB;rw[e,if_pos hv,if_pos hv.1];unfold vrV;rw[if_pos h2]
section
variable{c:Ka.Ct}{h a a':Int}
theorem Bt{r:Int}:Ka.sub r 0=true:=by
 unfold Ka.sub;rw[decide_eq_true_eq];exact⟨fun h=>by omega,fun h=>by omega,fun h=>by omega⟩
theorem BV(hf:Ka.fiE c h 4=0):Ka.fiE c h 0=0∧Ka.fiV c h 0=Ka.fiV c h 4:=by
 unfold Ka.fiE at hf ⊢;unfold Ka.fiV;cases e:Ka.look c h with
 |none=>rw[e] at hf;simp at hf
 |some z=>
  rw[e] at hf;simp only at hf ⊢;by_cases k:Ka.fiOk z 4
  ·have k0:Ka.fiOk z 0:=⟨by omega,Bt⟩;rw[if_pos k,if_pos k0,if_pos k0];exact⟨rfl,rfl⟩
  ·rw[if_neg k] at hf;simp at hf
theorem xB(ok:c.Ok)(hf:Ka.fiE c h 4=0)(hg:Ka.grE (Ka.rvS c a) a'=0):Ka.grV (Ka.rvS c a) a'≠h:=by
 intro e;unfold Ka.fiE at hf;cases el:Ka.look c h with
 |none=>rw[el] at hf;simp at hf
 |some z=>
  obtain⟨zm,zb⟩:=Ka.ct el;obtain⟨k1,k2,k3⟩:=ok.kr z zm;unfold Ka.grE at hg;unfold Ka.grV at e;split at hg
  ·omega
  ·rename_i h0;rw[if_neg h0] at e;unfold Ka.plE at hg;unfold Ka.plV at e;split at hg
   ·rename_i hc;rw[if_pos hc] at e;have e1:Ka.pkB (Ka.rvS c a).T (Ka.scan (Ka.rvS c a).L 0).2 7 (Ka.rvS c a).nx=Ka.pkB c.T z.s z.r z.n:=e.trans zb.symm;have t8:=ok.t;have hnx:=ok.nx;have hsc:=hc.1;have hlo:0≤(Ka.scan (Ka.rvS c a).L 0).2:=(Ka.cV _ 0 (ok.srt.filter _) (fun _ _=>trivial)).2.1;have enx:(Ka.rvS c a).nx=c.nx:=rfl;have eT:(Ka.rvS c a).T=c.T:=rfl;have hc2:=hc.2;rw[enx] at hc2;rw[enx,eT,Ka.ie ⟨t8,by omega,by omega,by omega⟩,Ka.ie k1] at e1;unfold Ka.KR at k1;omega
   ·omega
end
section
variable{W w:World}{x:Tp}{S:TnS}{ts:List (World→(Nat→Prop)→Prop)}{b:Nat}{n a:Int}
theorem TnOk.caps(h:TnOk x S b){C:Ka.Ct}(hT:C.T=S.c.T)(hC:∀z∈C.L,(S.f z.a).isSome=true):TnOk x { S with c:=C } b:=⟨h.q,h.lb,h.hc,h.ss,h.id,hT.trans h.cT,h.ob,h.bo,hC,h.ks,h.pgs⟩
theorem Bp{a m hh t k j:Nat}{M:Ms}{H:Hp}(g:aa W w ts)(hj:ts[j]? =some (Hs a m hh t k M H))(hc:Hc k M H){y z n:Int}(hy:I64 y)(hz:I64 z)(hn:I64 n)(hs:n≤16384):Calls Tryz.prog 49 #[.pointer (some ⟨a,0,none⟩),.pointer (some ⟨t,0,none⟩),.int .i64 y,.int .i64 z,.int .i64 n] w fun e w'=>e=.returned (.int .i64 (vcE H.T M.bs.length y z n))∧aa W w' (ts.set j (Hs a m hh t k ⟨M.has,vcB H.T M.bs y z n,vcT H.T M.bs.length M.ss y z n⟩ H)):=
 g.qh j hj fun _ _ h1 h2 h3=>v_copy h1 h2 h3 hc.ok.tp.tb hy hz hn hs (by have:=hc.ss;omega)
theorem vc_few{T:Tb}(ok:TbOk T)(N:Nat)(ss:List Sp)(x y:Int){n:Int}(hn:n≤8192):(vcT T N ss x y n).length≤ss.length+40:=by
 unfold vcT;split
 ·rename_i hv;have h1:=(hv.1.apt ok).2.2.1;have h2:=(hv.2.apt ok).2.2.1;simp only[List.length_append,tch,List.length_map];omega
 ·omega
theorem mv_eq(S:TnS)(M' Mc:Ms)(H':Hp)(n a a' y2:Int)(c s j:Nat)(hno:S.f a'=none)(hne:a'≠a)(h1:1≤S.n):
  owS (rlS { S.took M' H' (ag n) with M:=Mc } a c s j 0 y2) a' n={ rlS { { owS (S.took M' H' (ag n)) a' n with c:=S.c } with M:=Mc } a c s j 0 y2 with c:=Ka.grS (Ka.rvS S.c a) a' }:=by
 have hf:(fun z=>if z=a' then some (n,ag n) else(if z=a then none else S.f z))=(fun z=>if z=a then none else if z=a' then some (n,ag n) else S.f z):=by
  funext z;by_cases e:z=a'
  ·subst e;rw[if_pos rfl,if_neg hne,if_pos rfl]
  ·rw[if_neg e,if_neg e]
 have hn:(if((if a'=a then none else S.f a'):Option (Int×Int)).isSome then S.n - 1 else S.n - 1+1)=(if(S.f a').isSome then S.n else S.n+1) - 1:=by
  rw[if_neg hne,hno];show(if false=true then S.n - 1 else S.n - 1+1)=(if false=true then S.n else S.n+1) - 1;rw[if_neg (by decide),if_neg (by decide)];omega
 show(⟨_,_,_,_,_,_⟩:TnS)=⟨_,_,_,_,_,_⟩;rw[TnS.mk.injEq];exact⟨rfl,rfl,rfl,rfl,hf,hn⟩
set_option maxRecDepth 20000 in
theorem qz(g:aa W w (tnl x S ts))(gr:G17 W)(h:TnOk x S b)(hb:b≤700000){hh:Int}(h0:U64 hh)(hn:I64 n):Calls Tryz.prog 21 #[.pointer (some ⟨x.T,0,none⟩),.int .u64 hh,.int .i64 n] w fun e w'=>∃S' E hd ad,TnOk x S' (b+100)∧U64 hd∧e=.returned (ans E hd ad 0 ⟨#[]⟩ S'.s.cb)∧aa W w' (tnl x S' ts)∧(E=0→(hd=hh↔ag n≤usN S hh)):=by
 have u0:U64 0:=by unfold U64;omega
 by_cases hf:Ka.fiE S.c hh 4=0
 case neg=>exact(lG g h0.1 h0.2 hf).mono fun e w' ⟨he,g'⟩=>⟨S,_,_,_,h.less (by omega),u0,he,g',fun e0=>(hf e0).elim⟩
 by_cases hk:ofI n<0
 case pos=>exact(iY g gr h0.1 h0.2 hf hk).mono fun e w' ⟨he,g'⟩=>⟨S,_,_,_,h.less (by omega),u0,he,g',fun e0=>absurd e0 (by decide)⟩
 obtain⟨y,hy⟩:=h.found hf;obtain⟨c,s,j,hd,p,_,ea,ey,z1,z2,y1,y2,a1,a2⟩:=h.obj hy;obtain⟨f1,f2⟩:=BV hf;have hus:usN S hh=y.2:=by
  unfold usN;rw[if_pos f1,f2,hy];rfl
 have hrt:Rt y.2 0:=by unfold Rt;omega
 have hn1:1≤n∧n≤8192:=by
  by_cases k:n<1∨8192<n
  ·have:=(bP n).2 k;omega
  ·omega
 have hfit:n≤ag n:=by rw[cy n hn1.1 hn1.2];exact kb n hn1.1 hn1.2
 have hss:=h.ss;by_cases hcg:ag n≤y.2
 ·by_cases hup:y.1≤n
  ·refine(de (S1:=ctS S (Ka.fiV S.c hh 4) n y.2) g gr h0.1 h0.2 hf (by omega) (by omega) hy hrt hcg rfl fun w ts g=>pA g (by omega) h.maxLen hy hup).mono fun e w' ⟨he,g'⟩=>⟨_,_,_,_,(h.sized hy hn1.1 (by omega)).less (by omega),h0,he,g',fun _=>⟨fun _=>by rw[hus];exact hcg,fun _=>rfl⟩⟩
  ·obtain⟨v1,_⟩:=hd.ans (f:=n.toNat) (m:=(y.1 - n).toNat) h.hc.ok h.hc.ms (by omega);have e1:adI c s j+((n.toNat:Nat):Int)=Ka.fiV S.c hh 4+n:=by rw[ea];omega
   rw[e1,show(((y.1 - n).toNat:Nat):Int)=y.1 - n by omega] at v1;have hl:=(mu h.hc.ok.tp.tb S.M.bs.length S.M.ss (Ka.fiV S.c hh 4+n) (n:=y.1 - n) (by omega)).2;have hw:=h.hc.wrote hd (f:=n.toNat) (ds:=List.replicate (y.1 - n).toNat 0) (by rw[List.length_replicate];omega) (ss':=vwT S.H.T S.M.bs.length S.M.ss (Ka.fiV S.c hh 4+n) (y.1 - n)) (by omega);rw[e1,←vz_vw h.hc.ok.tp.tb _ _ (by omega)] at hw;have ok1:TnOk x (czS S (Ka.fiV S.c hh 4) n y.1) (b+40):=h.mem hw (by show(vwT S.H.T S.M.bs.length S.M.ss (Ka.fiV S.c hh 4+n) (y.1 - n)).length≤_;omega) rfl;have ok2:=ok1.sized (a:=Ka.fiV S.c hh 4) (y:=y) hy hn1.1 (by omega);exact(de (S1:=ctS (czS S (Ka.fiV S.c hh 4) n y.1) (Ka.fiV S.c hh 4) n y.2) g gr h0.1 h0.2 hf (by omega) (by omega) hy hrt hcg rfl fun w ts g=>qQ g h.hc (by omega) h.maxLen hy (by omega) v1).mono fun e w' ⟨he,g'⟩=>⟨_,_,_,_,ok2.less (by omega),h0,he,g',fun _=>⟨fun _=>by rw[hus];exact hcg,fun _=>rfl⟩⟩
 ·by_cases hE:tkE x.k S n=0
  ·obtain⟨c',s',j',M',H',h1,gv,h3,h4,h5,h6,h7⟩:=zZ h.q h.hc hE;obtain⟨okA',hno,hch,_,hnf⟩:=h.took (by omega) h1 gv h5 h7 (C:=S.c) ⟨rfl,fun z hz=>.inl hz⟩;have hbn:HadB H'.L c' s' j':=(gv.had c' s' j').2 (.inr ⟨rfl,rfl,rfl⟩);have hco:=okA'.hc;have hco':Hc x.k M' H':=hco;obtain⟨p',_,_⟩:=hbn.there hco'.ok;have hi':=p'.inside;have hu':=cD c' (by omega) (by omega);have hbo:HadB H'.L c s j:=(gv.had c s j).2 (.inl hd);have hM'ss:M'.ss.length≤b+2:=okA'.ss
   -- the copy
   obtain⟨v1,_⟩:=hbn.ans (f:=0) (m:=y.1.toNat) hco'.ok hco'.ms (by omega);obtain⟨v2,_⟩:=hbo.ans (f:=0) (m:=y.1.toNat) hco'.ok hco'.ms (by omega);rw[show((y.1.toNat:Nat):Int)=y.1 by omega,show adI c' s' j'+((0:Nat):Int)=adI c' s' j' by omega] at v1;rw[show((y.1.toNat:Nat):Int)=y.1 by omega,show adI c s j+((0:Nat):Int)=adI c s j by omega,←ea] at v2;have hv1:VwOk H'.T M'.bs.length (adI c' s' j') y.1:=by
    by_cases k:VwOk H'.T M'.bs.length (adI c' s' j') y.1
    ·exact k
    ·unfold vwE at v1;rw[if_neg k] at v1;omega
   have hv2:VwOk H'.T M'.bs.length (Ka.fiV S.c hh 4) y.1:=by
    by_cases k:VwOk H'.T M'.bs.length (Ka.fiV S.c hh 4) y.1
    ·exact k
    ·unfold vwE at v2;rw[if_neg k] at v2;omega
   have hvc:VcOk H'.T M'.bs.length (adI c' s' j') (Ka.fiV S.c hh 4) y.1:=⟨hv1,hv2⟩;obtain⟨w1,w2⟩:=vc_vw hco'.ok.tp.tb (by omega) hvc;have hl:=vc_few hco'.ok.tp.tb M'.bs.length M'.ss (adI c' s' j') (Ka.fiV S.c hh 4) (n:=y.1) (by omega);have hw:=hco'.wrote hbn (f:=0) (ds:=vrV H'.T M'.bs (Ka.fiV S.c hh 4) y.1) (by rw[w2];omega) (ss':=vcT H'.T M'.bs.length M'.ss (adI c' s' j') (Ka.fiV S.c hh 4) y.1) (by omega);rw[show adI c' s' j'+((0:Nat):Int)=adI c' s' j' by omega,←w1] at hw
   -- what is left, with the new object first
   have okB:=okA'.mem (M':=⟨M'.has,vcB H'.T M'.bs (adI c' s' j') (Ka.fiV S.c hh 4) y.1,vcT H'.T M'.bs.length M'.ss (adI c' s' j') (Ka.fiV S.c hh 4) y.1⟩) (b':=b+42) hw (by show(vcT H'.T M'.bs.length M'.ss (adI c' s' j') (Ka.fiV S.c hh 4) y.1).length≤_;omega) rfl;have hne:adI c' s' j'≠Ka.fiV S.c hh 4:=fun e=>by rw[e,hy] at hno;cases hno
   have hn1':=(h.ks.le (fun a y e=>by obtain⟨_,_,_,_,_,_,_,_,_,_,q1,_⟩:=h.obj e;exact q1) hy).2;have okR:=okB.released (by omega) (a:=Ka.fiV S.c hh 4) (y:=y) (by show(if Ka.fiV S.c hh 4=adI c' s' j' then some (n,ag n) else S.f (Ka.fiV S.c hh 4))=some y;rw[if_neg fun e=>hne e.symm];exact hy) hbo ea;have hgm:=uF (c:=Ka.rvS S.c (Ka.fiV S.c hh 4)) (a:=adI c' s' j');have okE:=okR.caps (C:=Ka.grS (Ka.rvS S.c (Ka.fiV S.c hh 4)) (adI c' s' j')) hgm.1 fun z hz=>by
    rcases hgm.2 z hz with k|k
    ·exact okR.sl z k
    ·rw[k];show(if adI c' s' j'=Ka.fiV S.c hh 4 then none else if adI c' s' j'=adI c' s' j' then some (n,ag n) else S.f (adI c' s' j')).isSome=true;rw[if_neg hne,if_pos rfl];rfl
   rw[←mv_eq S M' _ H' n (Ka.fiV S.c hh 4) (adI c' s' j') y.2 c s j hno hne hn1'] at okE;have hE1:vcE H'.T M'.bs.length (adI c' s' j') (Ka.fiV S.c hh 4) y.1=0:=if_pos hvc;have okc:=kc_ok g 1 rfl;refine(iZ (S1:=S.took M' H' (ag n)) (S2:={ S.took M' H' (ag n) with M:=⟨M'.has,vcB H'.T M'.bs (adI c' s' j') (Ka.fiV S.c hh 4) y.1,vcT H'.T M'.bs.length M'.ss (adI c' s' j') (Ka.fiV S.c hh 4) y.1⟩ }) (S3:=rlS { S.took M' H' (ag n) with M:=⟨M'.has,vcB H'.T M'.bs (adI c' s' j') (Ka.fiV S.c hh 4) y.1,vcT H'.T M'.bs.length M'.ss (adI c' s' j') (Ka.fiV S.c hh 4) y.1⟩ } (Ka.fiV S.c hh 4) c s j 0 y.2) (tv:=adI c' s' j') g gr h0.1 h0.2 hf (by omega) (by omega) hy hrt (by omega) hy hy (fun w ts g=> ?_) (fun w ts g=> ?_) (fun w ts g=>lF g gr hw (.inl ⟨rfl,p,ea.symm⟩) (by omega) hy hrt) (fun w ts g=>n_own (n:=n) g gr (by omega) (by show S.n - 1<maxLen;have:=h.maxLen;omega))).mono fun e w' ⟨he,g'⟩=>⟨_,_,_,_,okE.less (by omega),BQ ..,he,g',fun e0=>⟨fun eh=>(xB okc hf e0 eh).elim,fun k=>by rw[hus] at k;omega⟩⟩
   ·have ht:=py g gr h.hc hn;rw[hE,h3,h4] at ht;exact ht
   ·have ht:=Bp (y:=adI c' s' j') (z:=Ka.fiV S.c hh 4) (n:=y.1) g (j:=0) rfl hco' (by omega) (by omega) (by omega) (by omega);rw[show vcE (S.took M' H' (ag n)).H.T (S.took M' H' (ag n)).M.bs.length (adI c' s' j') (Ka.fiV S.c hh 4) y.1=0 from hE1] at ht;exact ht
  ·obtain⟨e1,_⟩:=tk_no h.q h.hc hE;have:=dH g gr h.hc h0.1 h0.2 hf (by omega) (by omega) hy hrt (by omega) hn hE;rw[e1] at this;exact this.mono fun e w' ⟨he,g'⟩=>⟨S,_,_,_,h.less (by omega),u0,he,g',fun e0=>(hE e0).elim⟩
end
theorem aa.unrot{W w:World}{Q:World→(Nat→Prop)→Prop}(ls rs:List (World→(Nat→Prop)→Prop))(h:aa W w (ls++Q::rs)):aa W w (ls++rs++[Q]):=by
 refine h.order (fun j=>if j<ls.length then j else if j=ls.length then ls.length+rs.length else j - 1) (fun j=>if j<ls.length then j else if j=ls.length+rs.length then ls.length else j+1) (fun j hj=> ?_) fun j hj=> ?_
 ·simp only[List.length_append,List.length_cons,List.length_nil] at hj ⊢;by_cases h1:j<ls.length
  ·simp only[if_pos h1];exact⟨by omega,trivial⟩
  ·by_cases h2:j=ls.length
   ·simp only[if_neg h1,if_pos h2];refine⟨by omega,?_⟩;rw[if_neg (by omega),if_pos trivial];exact h2.symm
   ·simp only[if_neg h1,if_neg h2];refine⟨by omega,?_⟩;rw[if_neg (by omega),if_neg (by omega)];omega
 ·simp only[List.length_append,List.length_cons,List.length_nil] at hj ⊢;by_cases h1:j<ls.length
  ·simp only[if_pos h1];refine⟨by omega,trivial,?_⟩;rw[List.append_assoc,List.getElem?_append_left h1,List.getElem?_append_left h1]
  ·by_cases h2:j=ls.length+rs.length
   ·subst h2;simp only[if_neg h1,if_true];refine⟨by omega,?_,?_⟩
    ·simp
    ·simp
   ·simp only[if_neg h1,if_neg h2];refine⟨by omega,?_,?_⟩
    ·rw[if_neg (by omega),if_neg (by omega)];omega
    ·rw[List.getElem?_append_left (by simp;omega),List.getElem?_append_right (by omega),List.getElem?_append_right (by omega)];obtain⟨d,rfl⟩:∃d,j=ls.length+d:=⟨j - ls.length,by omega⟩;rw[show ls.length+d+1 - ls.length=d+1 by omega,show ls.length+d - ls.length=d by omega];rfl
section
variable{W w:World}{x:Tp}{S:TnS}{ts:List (World→(Nat→Prop)→Prop)}{b:Nat}
theorem bh{P:World→(Nat→Prop)→Prop}(g:aa W w (tnl x S (P::ts))):aa W w (tnl x S ts):=
 aa.less (aa.unrot [Hs x.a x.m x.h x.t x.k S.M S.H,Kc x.c S.c,Qq x.q S.s,Ot x.B S.f S.n,Blk x.T (tob x)] ts g)
theorem vL{ad:Option Addr}{l:List Int}{cap:Nat}(g:aa W w (tnl x S (Lv ad l::ts)))(gr:G17 W)(hc:Hc x.k S.M S.H)(hl:l.length≤17592186044416):Calls Tryz.prog 59 #[.pointer (some ⟨x.m,0,none⟩),.slice ad l.length cap] w fun e w'=>e=.returned (.int .i64 (pgI S.M.has.length x.k l))∧aa W w' (tnl x S (Lv ad l::ts)):=by
 have hct:∀w1,Fr (fun _=>False) w w1→∃Z,Cq.Cm w1 x.m Z x.k S.M.has:=fun w1 f=>by
  have g0:=g.kept f;obtain⟨U,p,_⟩:=g0.get 0 rfl;obtain⟨Z1,q1,_⟩:=Both.fst' p;obtain⟨Z2,q2,_⟩:=Both.snd q1;obtain⟨Z0,q3,_⟩:=q2.into (gr.fr g0.nw.fr).2;exact⟨Z0,q3⟩
 exact(tG cap (fun w1 c f=>by obtain⟨Z,hz⟩:=hct w1 f;exact Cq.eX hz c) (fun w1 f=>by obtain⟨Z,hz⟩:=hct w1 f;exact(Cq.zI hz).mono fun _ _ ⟨he,_,f⟩=>⟨he,f⟩) hc.ms.cap hc.k1 hc.k2 (g.nums 5 rfl) hl).mono fun e w' ⟨he,f⟩=>⟨he,g.kept f.fr⟩
theorem sw{ad:Option Addr}{l:List Int}{cap:Nat}(g:aa W w (tnl x S (Lv ad l::ts)))(gr:G17 W)(h:TnOk x S b)(hb:b+1536≤890000)(hl:l.length≤100000)(q:Int):Calls Tryz.prog 34 #[.pointer (some ⟨x.T,0,none⟩),.int .i64 q,.slice ad l.length cap] w fun e w'=>∃x' S' E,TnOk x' S' (b+1536)∧x'.T=x.T∧e=.returned (.int .i64 E)∧aa W w' (tnl x' S' ts):=by
 have hp:=vL (cap:=cap) g gr h.hc (by omega);by_cases hE:fitE S.s.cb x.pk q (pgI S.M.has.length x.k l)=0
 ·have hq:May q∧S.s.cb≤q:=by
   unfold fitE at hE;split at hE
   ·omega
   ·split at hE
    ·omega
    ·unfold May;omega
  by_cases hmo:(hMo x.k S.M S.H l).2.2=0
  ·exact(nE g gr h.hc hl hp hE hmo).mono fun e w' ⟨he,g'⟩=>⟨_,_,_,h.moved (p:=npI S.s.cb x.pk q) (by omega) hb hmo hq.1 hq.2,rfl,he,bh g'⟩
  ·have e1:(hMo x.k S.M S.H l).1=S.M∧(hMo x.k S.M S.H l).2.1=S.H:=by
    unfold hMo at hmo ⊢;split
    ·exact⟨rfl,rfl⟩
    ·rename_i k;rw[if_neg k] at hmo;exact(hmo rfl).elim
   have:=kg g gr h.hc hl hp hE hmo;rw[e1.1,e1.2] at this;exact this.mono fun e w' ⟨he,g'⟩=>⟨x,S,_,h.less (by omega),rfl,he,bh g'⟩
 ·exact(lE g gr hp hE).mono fun e w' ⟨he,g'⟩=>⟨x,S,_,h.less (by omega),rfl,he,bh g'⟩
theorem Aj(g:aa W w (tnl x S ts))(gr:G17 W)(h:TnOk x S b)(hb:b+512≤890000):Calls Tryz.prog 35 #[.pointer (some ⟨x.T,0,none⟩)] w fun e w'=>∃x' S',TnOk x' S' (b+512)∧x'.T=x.T∧e=.returned (.tuple #[])∧aa W w' (tnl x' S' ts):=
 (n_drop g gr h.hc h.id).mono fun _ _ ⟨he,c,B,g'⟩=>⟨x.dropped c B,_,h.dropped hb c B,rfl,he,g'⟩
end
section
variable{W w:World}{ts:List (World→(Nat→Prop)→Prop)}
end
end Go.Proofs.YtndhbnhobhkmaaaGreatDoor
