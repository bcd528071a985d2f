/-
  A tenant's parts as things side by side: its heap with arena and map, its handles, its quota, its objects, and its own block.
  What the small calls of package tenant do: bytes, charge, Charged, say, refuse, find.
-/
import Derived.Test.YtndhbnhobhkmaaaGreatDoorQtCalls
import Derived.Test.YtndhbnhobhkmaaaGreatDoorViCalls
set_option maxRecDepth 20000
namespace Go.Proofs.YtndhbnhobhkmaaaGreatDoor
open Go.RowKit
open An
theorem Both.leftT{P Q:World→(Nat→Prop)→Prop}{w:World}{U:Nat→Prop}(h:Both P Q w U)(hQ:Good Q):∃Z Y,P w Z∧Q w Y∧(∀i,Z i→¬Y i)∧∀{P':World→(Nat→Prop)→Prop} {w':World} {Z':Nat→Prop},P' w' Z'→Gw w w' Z Z'→∃U',Both P' Q w' U'∧Gw w w' U U':=by
 obtain⟨Z,Y,h1,h2,h3,h4,h5,h6⟩:=h;refine⟨Z,Y,h1,h2,h3,fun{P' w' Z'} k1 g=> ?_⟩;have hs:=g.fr.size;refine⟨fun i=>Z' i∨U i,⟨Z',Y,k1,hQ.carry h2 g.fr fun i a b=>h3 i b a,fun i a b=> ?_,fun i a=>.inl a,fun i a=>.inr (h5 i a),fun i a=>a.elim (g.lt i) fun a=>Nat.lt_of_lt_of_le (h6 i a) hs⟩,⟨fun i a=>.inr a,fun i a=> ?_,fun i a=>a.elim (g.lt i) fun a=>Nat.lt_of_lt_of_le (h6 i a) hs,g.fr.mono fun i _=>h4 i⟩⟩
 ·rcases g.new i a with e|e
  ·exact h3 i e b
  ·have:=h6 i (h5 i b);omega
 ·rcases a with a|a
  ·rcases g.new i a with e|e
   ·exact .inl (h4 i e)
   ·exact .inr e
  ·exact .inl a
def Kc(a:Nat)(c:Ka.Ct)(w:World)(Z:Nat→Prop):Prop:=∃o ob s sb,Ka.Kt w a o ob s sb c∧(Z a∧Z o∧Z ob∧Z s∧Z sb)∧∀i,Z i→i<w.heap.size
theorem kt_on{w w':World}{S:Nat→Prop}{a o ob s sb:Nat}{c:Ka.Ct}(h:Ka.Kt w a o ob s sb c)(f:Fr S w w')(ha:¬S a)(ho:¬S o)(hob:¬S ob)(hs:¬S s)(hsb:¬S sb):Ka.Kt w' a o ob s sb c:=by
 obtain⟨cs,h1,h2⟩:=h.st;exact⟨⟨cs,by rw[f.block a h.lta ha];exact h1,h2⟩,fo h.sho f ho hob,fo h.shs f hs hsb,h.ne,h.a0,h.ok⟩
theorem Kc.good(a:Nat)(c:Ka.Ct):Good (Kc a c):=
 ⟨fun⟨o,ob,s,sb,h,⟨z1,z2,z3,z4,z5⟩,hl⟩ f hs=>⟨o,ob,s,sb,kt_on h f (hs _ z1) (hs _ z2) (hs _ z3) (hs _ z4) (hs _ z5),⟨z1,z2,z3,z4,z5⟩,fun i hi=>Nat.lt_of_lt_of_le (hl i hi) f.size⟩,
  fun⟨o,ob,s,sb,h,⟨z1,z2,z3,z4,z5⟩,_⟩ k1 k2=>⟨o,ob,s,sb,h,⟨k1 _ z1,k1 _ z2,k1 _ z3,k1 _ z4,k1 _ z5⟩,k2⟩⟩
def Qq(q:Nat)(s:Qt.QS)(w:World)(Z:Nat→Prop):Prop:=Qt.Qm w q s∧Z q∧∀i,Z i→i<w.heap.size
theorem Qq.good(q:Nat)(s:Qt.QS):Good (Qq q s):=
 ⟨fun h f hs=>⟨h.1.carry f (hs _ h.2.1),h.2.1,fun i hi=>Nat.lt_of_lt_of_le (h.2.2 i hi) f.size⟩,fun h k1 k2=>⟨h.1,k1 _ h.2.1,k2⟩⟩
section
variable{W w:World}{ts:List (World→(Nat→Prop)→Prop)}{a m h t k j q:Nat}{M:Ms}{H:Hp}{c:Ka.Ct}{s:Qt.QS}
theorem nN{w':World}{a o ob s sb:Nat}{c':Ka.Ct}{S U:Nat→Prop}(z:U a∧U o∧U ob∧U s∧U sb)(hl:∀i,U i→i<w.heap.size)(k':Ka.Kt w' a o ob s sb c')(f:Fr S w w')(hS:∀i,S i→U i):∃U',Kc a c' w' U'∧Gw w w' U U':=
 ⟨U,⟨o,ob,s,sb,k',z,fun i hi=>Nat.lt_of_lt_of_le (hl i hi) f.size⟩,Gw.same hl (f.mono fun i _ e=>hS i e)⟩
theorem xg(g:aa W w ts)(gr:G17 W)(j:Nat)(hj:ts[j]? =some (Kc a c))(x:Int):Calls Tryz.prog 89 #[.pointer (some ⟨a,0,none⟩),.int .i64 x] w fun e w'=>e=.returned (.tuple #[.int .u64 (Ka.grV c x),.int .i64 (Ka.grE c x)])∧aa W w' (ts.set j (Kc a (Ka.grS c x))):=
 g.lift j hj (Kc.good ..) fun U ⟨o,ob,s,sb,k,z,hl⟩=>(Ka.Bx k (hid (gr.fr g.nw.fr).2) x).mono fun _ _ ⟨he,k',f⟩=>⟨he,nN z hl k' f fun i e=>by
  obtain⟨z1,z2,z3,z4,z5⟩:=z;rcases e with rfl|rfl<;>assumption⟩
theorem nL(g:aa W w ts)(gr:G17 W)(j:Nat)(hj:ts[j]? =some (Kc a c)){b:Int}(b0:0≤b)(b1:b≤18446744073709551615)(r:Int):Calls Tryz.prog 53 #[.pointer (some ⟨a,0,none⟩),.int .u64 b,.int .i64 r] w fun e w'=>e=.returned (.tuple #[.int .u64 (Ka.reV c b r),.int .i64 (Ka.reE c b r)])∧aa W w' (ts.set j (Kc a (Ka.reS c b r))):=
 g.lift j hj (Kc.good ..) fun U ⟨o,ob,s,sb,k,z,hl⟩=>(Ka.qZ k (hid (gr.fr g.nw.fr).2) b0 b1 r).mono fun _ _ ⟨he,k',f⟩=>⟨he,nN z hl k' f fun i e=>by
  obtain⟨z1,z2,z3,z4,z5⟩:=z;rcases e with rfl|rfl<;>assumption⟩
theorem ub(g:aa W w ts)(j:Nat)(hj:ts[j]? =some (Kc a c))(x:Int):Calls Tryz.prog 81 #[.pointer (some ⟨a,0,none⟩),.int .i64 x] w fun e w'=>e=.returned (.int .i64 (Ka.rvN c x:Int))∧aa W w' (ts.set j (Kc a (Ka.rvS c x))):=
 g.lift j hj (Kc.good ..) fun U ⟨o,ob,s,sb,k,z,hl⟩=>(Ka.xj k x).mono fun _ _ ⟨he,k',f⟩=>⟨he,nN z hl k' f fun i e=>by
  obtain⟨z1,z2,z3,z4,z5⟩:=z;rcases e with rfl|rfl|rfl<;>assumption⟩
theorem Bo(g:aa W w ts)(j:Nat)(hj:ts[j]? =some (Kc a c)){b:Int}(b0:0≤b)(b1:b≤18446744073709551615){r:Int}(hr: -9223372036854775808≤r∧r≤9223372036854775807):Calls Tryz.prog 61 #[.pointer (some ⟨a,0,none⟩),.int .u64 b,.int .i64 r] w fun e w'=>e=.returned (.tuple #[.int .i64 (Ka.fiV c b r),.int .i64 (Ka.fiE c b r)])∧aa W w' ts:=
 g.ask j hj fun _ ⟨_,_,_,_,k,_,_⟩=>Ka.k_find k b0 b1 hr
theorem lZ(g:aa W w ts)(j:Nat)(hj:ts[j]? =some (Kc a c)):Calls Tryz.prog 68 #[.pointer (some ⟨a,0,none⟩)] w fun e w'=>e=.returned (.int .i64 c.nx)∧aa W w' ts:=
 g.ask j hj fun _ ⟨_,_,_,_,k,_,_⟩=>Ka.xi k
theorem zn(g:aa W w ts)(gr:G17 W){t n:Int}(h:(0≤t∧t≤7)∧1≤n∧n≤17592186044416):Calls Tryz.prog 57 #[.int .i64 t,.int .i64 n] w fun e w'=>∃a,e=.returned (.tuple #[.pointer (some ⟨a,0,none⟩),.int .i64 0])∧aa W w' (ts++[Kc a ⟨t,n,[]⟩]):=
 (Ka.k_new h w (gr.fr g.nw.fr).2).mono fun e w' ⟨a,o,ob,s,sb,he,⟨⟨z1,z2,z3⟩,z4,z5⟩,k,f⟩=>⟨a,he,g.more (Kc.good ..) (Z:=fun i=>i=a∨i=o∨i=ob∨i=s∨i=sb) ⟨o,ob,s,sb,k,⟨.inl rfl,.inr (.inl rfl),.inr (.inr (.inl rfl)),.inr (.inr (.inr (.inl rfl))),.inr (.inr (.inr (.inr rfl)))⟩,fun i hi=>by
  have y1:=k.lta;have y2:=k.sho.lta;have y3:=k.sho.ltb;have y4:=k.shs.lta;have y5:=k.shs.ltb;rcases hi with rfl|rfl|rfl|rfl|rfl<;>assumption⟩ f fun _ hi=>by
  have y1:=k.lta;have y2:=k.sho.lta;have y3:=k.sho.ltb;have y4:=k.shs.lta;have y5:=k.shs.ltb;rcases hi with rfl|rfl|rfl|rfl|rfl<;>exact⟨by assumption,by assumption⟩⟩
theorem fy{w':World}{s':Qt.QS}{U:Nat→Prop}(z:U q)(hl:∀i,U i→i<w.heap.size)(k':Qt.Qm w' q s')(f:Fr (fun i=>i=q) w w'):∃U',Qq q s' w' U'∧Gw w w' U U':=
 ⟨U,⟨k',z,fun i hi=>Nat.lt_of_lt_of_le (hl i hi) f.size⟩,Gw.same hl (f.mono fun _ _ e=>e▸z)⟩
theorem kq_res(g:aa W w ts)(j:Nat)(hj:ts[j]? =some (Qq q s)){x y:Int}(r:Rt x y):Calls Tryz.prog 84 #[.pointer (some ⟨q,0,none⟩),.complex .f64 (fb x) (fb y)] w fun e w'=>e=.returned (.int .i64 (Qt.resE s x y))∧aa W w' (ts.set j (Qq q (Qt.resS s x y))):=
 g.lift j hj (Qq.good ..) fun _ ⟨k,z,hl⟩=>(Qt.q_res k r).mono fun _ _ ⟨he,k',f⟩=>⟨he,fy z hl k' f⟩
theorem kq_com(g:aa W w ts)(j:Nat)(hj:ts[j]? =some (Qq q s)){x y:Int}(r:Rt x y):Calls Tryz.prog 87 #[.pointer (some ⟨q,0,none⟩),.complex .f64 (fb x) (fb y)] w fun e w'=>e=.returned (.int .i64 (Qt.comE s x y))∧aa W w' (ts.set j (Qq q (Qt.comS s x y))):=
 g.lift j hj (Qq.good ..) fun _ ⟨k,z,hl⟩=>(Qt.q_com k r).mono fun _ _ ⟨he,k',f⟩=>⟨he,fy z hl k' f⟩
theorem kq_can(g:aa W w ts)(j:Nat)(hj:ts[j]? =some (Qq q s)){x y:Int}(r:Rt x y):Calls Tryz.prog 86 #[.pointer (some ⟨q,0,none⟩),.complex .f64 (fb x) (fb y)] w fun e w'=>e=.returned (.int .i64 (Qt.canE s x y))∧aa W w' (ts.set j (Qq q (Qt.canS s x y))):=
 g.lift j hj (Qq.good ..) fun _ ⟨k,z,hl⟩=>(Qt.q_can k r).mono fun _ _ ⟨he,k',f⟩=>⟨he,fy z hl k' f⟩
theorem zl(g:aa W w ts)(j:Nat)(hj:ts[j]? =some (Qq q s)){x y:Int}(r:Rt x y):Calls Tryz.prog 67 #[.pointer (some ⟨q,0,none⟩),.complex .f64 (fb x) (fb y)] w fun e w'=>e=.returned (.int .i64 (Qt.refE s x y))∧aa W w' (ts.set j (Qq q (Qt.refS s x y))):=
 g.lift j hj (Qq.good ..) fun _ ⟨k,z,hl⟩=>(Qt.q_ref k r).mono fun _ _ ⟨he,k',f⟩=>⟨he,fy z hl k' f⟩
theorem zo(g:aa W w ts)(j:Nat)(hj:ts[j]? =some (Qq q s)):Calls Tryz.prog 27 #[.pointer (some ⟨q,0,none⟩)] w fun e w'=>e=.returned (.complex .f64 (fb s.cb) (fb s.cp))∧aa W w' ts:=
 g.ask j hj fun _ ⟨k,_,_⟩=>(Qt.q_cha k).mono fun _ _ ⟨he,m,hm⟩=>⟨he,hm▸(Fr.refl _ _).drewN m⟩
theorem Bn(g:aa W w ts){x y:Int}(r:Rt x y):Calls Tryz.prog 97 #[.complex .f64 (fb x) (fb y)] w fun e w'=>∃q,e=.returned (.tuple #[.pointer (some ⟨q,0,none⟩),.int .i64 0])∧aa W w' (ts++[Qq q (Qt.newQ x y)]):=
 (Qt.q_new r w).mono fun _ _ ⟨q,he,hq,k,f⟩=>⟨q,he,g.more (Qq.good ..) (Z:=fun i=>i=q) ⟨k,rfl,fun i hi=>hi▸k.lt⟩ f fun i hi=>by subst hi;exact⟨hq,k.lt⟩⟩
theorem qq_ok(g:aa W w ts)(j:Nat)(hj:ts[j]? =some (Qq q s)):s.Ok:=by obtain⟨U,h,_⟩:=g.get j hj;exact h.1.ok
theorem kc_ok(g:aa W w ts)(j:Nat)(hj:ts[j]? =some (Kc a c)):c.Ok:=by obtain⟨U,⟨_,_,_,_,k,_,_⟩,_⟩:=g.get j hj;exact k.ok
theorem aa.qh{Pr:Program}{F:Nat}{args:Array Value}{R:Ending→Prop}{bs':List UInt8}{ss':List Sp}(g:aa W w ts)(j:Nat)(hj:ts[j]? =some (Hs a m h t k M H))
  (call:∀Z Y,Am 111 a M.bs M.ss w Z→Tm t H.T w Y→(∀i,Z i→¬Y i)→Calls Pr F args w fun e w'=>R e∧∃Z',Am 111 a bs' ss' w' Z'∧Gw w w' Z Z'):Calls Pr F args w fun e w'=>R e∧aa W w' (ts.set j (Hs a m h t k ⟨M.has,bs',ss'⟩ H)):=by
 obtain⟨U,h1,h2,h3⟩:=g.turn j hj;obtain⟨V,Y0,v1,w0,v2,v3⟩:=Both.leftT h1 (Hm.good ..);obtain⟨Z,z1,z2,z3⟩:=Both.left v1 (Ct.good ..);obtain⟨Y,y1,y5⟩:=Both.snd w0;have y2:∀i,Z i→¬Y i:=fun i a b=>v2 i (z2 i a) (y5 i b)
 refine(call Z Y z1 y1 y2).mono ?_;rintro e w' ⟨he,Z',k1,k2⟩;obtain⟨V',a1,a2⟩:=z3 k1 k2;obtain⟨U',b1,b2⟩:=v3 (P':=Ac a m k ⟨M.has,bs',ss'⟩) a1 a2;exact⟨he,h3 _ w' U' (Hs.good ..) b1 b2⟩
theorem xf(g:aa W w ts)(j:Nat)(hj:ts[j]? =some (Hs a m h t k M H))(hc:Hc k M H){x:Int}(hx:I64 x)(s:ByteArray)(hs:s.size≤16384):Calls Tryz.prog 43 #[.pointer (some ⟨a,0,none⟩),.pointer (some ⟨t,0,none⟩),.int .i64 x,.string s] w fun e w'=>e=.returned (.int .i64 (vwE H.T M.bs.length x s.size))∧aa W w' (ts.set j (Hs a m h t k ⟨M.has,vwB H.T M.bs x s.data.toList,vwT H.T M.bs.length M.ss x s.size⟩ H)):=
 g.qh j hj fun _ _ h1 h2 h3=>zV h1 h2 h3 hc.ok.tp.tb hx s hs (by have:=hc.ss;omega)
theorem Bm(g:aa W w ts)(j:Nat)(hj:ts[j]? =some (Hs a m h t k M H))(hc:Hc k M H){x n:Int}(hx:I64 x)(hn:I64 n)(hs:n≤16384):Calls Tryz.prog 39 #[.pointer (some ⟨a,0,none⟩),.pointer (some ⟨t,0,none⟩),.int .i64 x,.int .i64 n] w fun e w'=>e=.returned (.tuple #[.string ⟨(vrV H.T M.bs x n).toArray⟩,.int .i64 (vwE H.T M.bs.length x n)])∧aa W w' (ts.set j (Hs a m h t k ⟨M.has,M.bs,vrT H.T M.bs.length M.ss x n⟩ H)):=
 g.qh j hj fun _ _ h1 h2 h3=>yJ h1 h2 h3 hc.ok.tp.tb hx hn hs (by have:=hc.ss;omega)
end
theorem ae{w:World}{B:Nat}{cs:Array Value}{T:TypeId}(h:w.heap[B]? =some (.cells cs T (0,0)))(i:Nat){v:Value}(hv:cs[i]? =some v):w.cell? ⟨B,i,none⟩=some v:=by unfold World.cell?;rw[h];exact hv
theorem aa.boxes2{W w w':World}{ts:List (World→(Nat→Prop)→Prop)}{A B:Nat}{oa ob:Obj}(h:aa W w (ts++[Blk A oa]++[Blk B ob]))(f:Fr (fun i=>i=A∨i=B) w w'):aa W w' ts:=by
 obtain⟨o,h1,h2,h3,h4⟩:=h;have hA:o A=ts.length+1:=(h4 ts.length (Blk A oa) (by simp)).2.1;have hB:o B=ts.length+1+1:=(h4 (ts.length+1) (Blk B ob) (by simp)).2.1;have hs:=f.size;refine⟨fun i=>if o i≤ts.length then o i else 0,⟨h1.nw.on f fun i hi=> ?_,fun i hi=> ?_⟩,fun i=> ?_,fun Q hQ=>h3 Q (by simp[hQ]),fun j Q hj=> ?_⟩
 ·exact(h1.dom i (by rcases hi with rfl|rfl<;>omega)).1
 ·by_cases e:o i≤ts.length
  ·simp only[if_pos e] at hi;have:=h1.dom i hi;omega
  ·simp[e] at hi
 ·show(if o i≤ts.length then o i else 0)≤ts.length;split<;>omega
 ·have hjl:=(List.getElem?_eq_some_iff.1 hj).1;have hG:=h3 Q (by simp[List.mem_of_getElem? hj]);have hp:=h4 j Q (by rw[List.append_assoc,List.getElem?_append_left hjl];exact hj);have hp2:=hG.carry hp f fun i hi e=>by
   unfold lab at hi;rcases e with rfl|rfl<;>omega
  refine hG.mono hp2 (fun i hi=> ?_) fun i hi=> ?_
  ·show(if o i≤ts.length then o i else 0)=j+1;have hi:o i=j+1:=hi;rw[if_pos (by omega)];exact hi
  ·have hi:(if o i≤ts.length then o i else 0)=j+1:=hi;have h0:o i≠0:=fun e=>by rw[e] at hi;simp at hi
   have:=h1.dom i h0;omega
structure Tp where
 T:Nat
 a:Nat
 m:Nat
 h:Nat
 t:Nat
 k:Nat
 c:Nat
 q:Nat
 B:Nat
 id:Int
 pk:Int
structure TnS where
 M:Ms
 H:Hp
 c:Ka.Ct
 s:Qt.QS
 f:Int→Option (Int×Int)
 n:Nat
def tob(x:Tp):Obj:=.cells #[.int .i64 x.id,.pointer (some ⟨x.a,0,none⟩),.pointer (some ⟨x.m,0,none⟩),.pointer (some ⟨x.h,0,none⟩),.pointer (some ⟨x.c,0,none⟩),.pointer (some ⟨x.q,0,none⟩),.int .i64 x.pk,.map (some x.B)] 74 (0,0)
abbrev tnl(x:Tp)(S:TnS)(ts:List (World→(Nat→Prop)→Prop)):List (World→(Nat→Prop)→Prop):=
 Hs x.a x.m x.h x.t x.k S.M S.H::Kc x.c S.c::Qq x.q S.s::Ot x.B S.f S.n::Blk x.T (tob x)::ts
abbrev ans(E hd ad n:Int)(d:ByteArray)(cg:Int):Value:=.agg #[.int .i64 E,.int .u64 hd,.int .i64 ad,.int .i64 n,.string d,.int .i64 cg]
section
variable{W w:World}{x:Tp}{S:TnS}{ts:List (World→(Nat→Prop)→Prop)}
theorem ak(g:aa W w (tnl x S ts))(i:Nat){v:Value}(hv:(#[.int .i64 x.id,.pointer (some ⟨x.a,0,none⟩),.pointer (some ⟨x.m,0,none⟩),.pointer (some ⟨x.h,0,none⟩),.pointer (some ⟨x.c,0,none⟩),.pointer (some ⟨x.q,0,none⟩),.int .i64 x.pk,.map (some x.B)]:Array Value)[i]? =some v):w.cell? ⟨x.T,i,none⟩=some v:=ae (g.cells 4 rfl) i hv
theorem dL{A B:Nat}{oa ob:Obj}(g:aa W w (tnl x S (ts++[Blk A oa]++[Blk B ob]))):w.heap[A]? =some oa:=by
 obtain⟨U,h,_⟩:=g.get (ts.length+5) (P:=Blk A oa) (by simp[tnl]);exact h.1
theorem cP{A B:Nat}{oa ob:Obj}(g:aa W w (tnl x S (ts++[Blk A oa]++[Blk B ob]))):w.heap[B]? =some ob:=by
 obtain⟨U,h,_⟩:=g.get (ts.length+6) (P:=Blk B ob) (by simp[tnl]);exact h.1
theorem an{w:World}{B:Nat}{cs:Array Value}{T:TypeId}(h:w.heap[B]? =some (.cells cs T (0,0)))(i:Nat):w.frozen? ⟨B,i,none⟩=false:=by simp[World.frozen?,h]
theorem ki(n:Int)(w:World):Calls Tryz.prog 65 #[.int .i64 n] w fun e w'=>e=.returned (.complex .f64 (fb (okA n 0)) (fb (okB n 0)))∧Fr (fun _=>False) w w':=by
 have H1:=hid (t_of n 0 w);generalize okA n 0=x at *;generalize okB n 0=y at *;generalize fb x=xb at *;generalize fb y=yb at *;go_enter Tryz.func65,Tryz.ntmps65;go_wp2_with fail;refine H1.out.mono ?_;rintro e w1 ⟨rfl,rfl⟩;go_wp2;go_ret;exact⟨by simp,Fr.refl _ _⟩
theorem dn(n:Int):Rt (ag n) 0:=by
 by_cases h:n<1∨8192<n
 ·rw[mI n h];exact⟨by omega,by omega,by omega,by omega⟩
 ·rw[cy n (by omega) (by omega)];have:=bW n (by omega) (by omega);have:=cD (ofI n) this.1 this.2;exact⟨by omega,by omega,by omega,by omega⟩
theorem wN(n:Int){w0:World}(k:K w0 w):Calls Tryz.prog 51 #[.int .i64 n] w fun e w'=>e=.returned (.complex .f64 (fb (ag n)) (fb 0))∧Fr (fun _=>False) w w':=by
 have H1:=hid (gn n (K.start k.tab));have H2:Hid (∀w,Calls Tryz.prog 65 #[.int .i64 (ag n)] w fun e w'=>e=.returned (.complex .f64 (fb (ag n)) (fb 0))∧Fr (fun _=>False) w w'):=fun w=>by
  have h:=ki (ag n) w
  rwa [show okA (ag n) 0=ag n from if_pos (dn n),show okB (ag n) 0=0 from if_pos (dn n)] at h
 generalize fb (ag n)=xb at *;generalize ag n=cg at *;generalize fb 0=zb at *;clear k;go_enter Tryz.func51,Tryz.ntmps51;go_wp2_with fail;refine H1.out.mono ?_;rintro e w1 ⟨rfl,h1⟩;have F1:=hid h1.fr;clear h1 H1;go_wp2_with fail;refine(H2.out _).mono ?_;rintro e w2 ⟨rfl,f2⟩;have F2:=hid (F1.out.trans f2);clear f2 F1 H2;go_wp2;go_ret;exact⟨by simp,F2.out⟩
theorem eG(g:aa W w (tnl x S ts)):Calls Tryz.prog 11 #[.pointer (some ⟨x.T,0,none⟩)] w fun e w'=>e=.returned (.int .i64 S.s.cb)∧aa W w' (tnl x S ts):=by
 have G:=hid g;have c5:=ak g 5 rfl;have H1:=hid fun(w:World) (g:aa W w (tnl x S ts))=>zo g 2 rfl
 have H2:=hid fun(w:World)=>ft (qq_ok g 2 rfl).char w
 generalize S.s.cb=cb at H1 H2 ⊢;generalize S.s.cp=cp at H1 H2;generalize fb cb=xb at *;generalize fb cp=yb at *;clear g;go_enter Tryz.func11,Tryz.ntmps11;go_wp2_with fail;refine(H1.out _ G.out).mono ?_;rintro e w1 ⟨rfl,g1⟩;have G1:=hid g1;clear g1 G c5;go_wp2_with fail;refine(H2.out _).mono ?_;rintro e w2 ⟨rfl,m2,rfl⟩;have G2:=hid (G1.out.kept ((Fr.refl _ _).drewN m2));clear G1;go_wp2;go_ret;exact⟨by simp,G2.out⟩
theorem lD(g:aa W w (tnl x S ts))(E hd ad n:Int)(d:ByteArray)(cg:Int):Calls Tryz.prog 32 #[.pointer (some ⟨x.T,0,none⟩),ans E hd ad n d cg] w fun e w'=>e=.returned (ans E hd ad n d S.s.cb)∧aa W w' (tnl x S ts):=by
 have G:Hid (aa W ((w.alloc (.cells #[.int .i64 E,.int .u64 hd,.int .i64 ad,.int .i64 n,.string d,.int .i64 cg] 43)).alloc (.cells #[.int .i64 0,.int .u64 0,.int .i64 0,.int .i64 0,.string ⟨#[]⟩,.int .i64 0] 43)) (tnl x S (ts++[Blk w.heap.size (.cells #[.int .i64 E,.int .u64 hd,.int .i64 ad,.int .i64 n,.string d,.int .i64 cg] 43 (0,0))]++[Blk (w.heap.size+1) (.cells #[.int .i64 0,.int .u64 0,.int .i64 0,.int .i64 0,.string ⟨#[]⟩,.int .i64 0] 43 (0,0))]))):=by
  have h:=(g.blk (.cells #[.int .i64 E,.int .u64 hd,.int .i64 ad,.int .i64 n,.string d,.int .i64 cg] 43 (0,0))).blk (.cells #[.int .i64 0,.int .u64 0,.int .i64 0,.int .i64 0,.string ⟨#[]⟩,.int .i64 0] 43 (0,0));rw[World.size_alloc] at h;exact h
 have H1:=hid fun(w:World) ts (g:aa W w (tnl x S ts))=>eG g
 clear g;generalize S.s.cb=cb at *;go_enter Tryz.func32,Tryz.ntmps32;go_wp2_with fail;refine(H1.out _ _ G.out).mono ?_;rintro e w1 ⟨rfl,g1⟩;have G1:=hid g1;have z0:=fun i=>an (dL g1) i
 have z1:=fun i=>an (cP g1) i
 have c0:=ae (dL g1) 0 rfl;have c1:=ae (dL g1) 1 rfl;have c2:=ae (dL g1) 2 rfl;have c3:=ae (dL g1) 3 rfl;have c4:=ae (dL g1) 4 rfl;have c5:=ae (dL g1) 5 rfl;have b0:=ae (cP g1) 0 rfl;have b1:=ae (cP g1) 1 rfl;have b2:=ae (cP g1) 2 rfl;have b3:=ae (cP g1) 3 rfl;have b4:=ae (cP g1) 4 rfl;have b5:=ae (cP g1) 5 rfl;clear g1 G H1;go_wp2;have hb:=cP G1.out;have HF:Fr (fun i=>i=w.heap.size∨i=w.heap.size+1) w1 (((((((w1.setCell ⟨w.heap.size,5,none⟩ (.int .i64 cb)).setCell ⟨w.heap.size+1,0,none⟩ (.int .i64 E)).setCell ⟨w.heap.size+1,1,none⟩ (.int .u64 hd)).setCell ⟨w.heap.size+1,2,none⟩ (.int .i64 ad)).setCell ⟨w.heap.size+1,3,none⟩ (.int .i64 n)).setCell ⟨w.heap.size+1,4,none⟩ (.string d)).setCell ⟨w.heap.size+1,5,none⟩ (.int .i64 cb)):=
  ((((((Fr.setCell (p:=⟨w.heap.size,5,none⟩) (Fr.refl _ _) (.inl rfl) _).setCell (p:=⟨w.heap.size+1,0,none⟩) (.inr rfl) _).setCell (p:=⟨w.heap.size+1,1,none⟩) (.inr rfl) _).setCell (p:=⟨w.heap.size+1,2,none⟩) (.inr rfl) _).setCell (p:=⟨w.heap.size+1,3,none⟩) (.inr rfl) _).setCell (p:=⟨w.heap.size+1,4,none⟩) (.inr rfl) _).setCell (p:=⟨w.heap.size+1,5,none⟩) (.inr rfl) _
 have hz:(((((((w1.setCell ⟨w.heap.size,5,none⟩ (.int .i64 cb)).setCell ⟨w.heap.size+1,0,none⟩ (.int .i64 E)).setCell ⟨w.heap.size+1,1,none⟩ (.int .u64 hd)).setCell ⟨w.heap.size+1,2,none⟩ (.int .i64 ad)).setCell ⟨w.heap.size+1,3,none⟩ (.int .i64 n)).setCell ⟨w.heap.size+1,4,none⟩ (.string d)).setCell ⟨w.heap.size+1,5,none⟩ (.int .i64 cb)).heap[w.heap.size+1]? =some (.cells #[.int .i64 E,.int .u64 hd,.int .i64 ad,.int .i64 n,.string d,.int .i64 cb] 43 (0,0)):=by
  simp[World.setCell,Array.getElem?_modify,hb]
 have T:=aa.boxes2 (ts:=tnl x S ts) G1.out HF;have k0:=ae hz 0 rfl;have k1:=ae hz 1 rfl;have k2:=ae hz 2 rfl;have k3:=ae hz 3 rfl;have k4:=ae hz 4 rfl;have k5:=ae hz 5 rfl;clear hz HF hb G1 z0 z1 c0 c1 c2 c3 c4 c5 b0 b1 b2 b3 b4 b5;generalize (((((((w1.setCell ⟨w.heap.size,5,none⟩ (.int .i64 cb)).setCell ⟨w.heap.size+1,0,none⟩ (.int .i64 E)).setCell ⟨w.heap.size+1,1,none⟩ (.int .u64 hd)).setCell ⟨w.heap.size+1,2,none⟩ (.int .i64 ad)).setCell ⟨w.heap.size+1,3,none⟩ (.int .i64 n)).setCell ⟨w.heap.size+1,4,none⟩ (.string d)).setCell ⟨w.heap.size+1,5,none⟩ (.int .i64 cb))=w2 at *;exact bodyPost_ret (v:=ans E hd ad n d cb) (by simp[results,Tryz.results32,go_sem,k0,k1,k2,k3,k4,k5]) rfl ⟨rfl,T⟩
end
end Go.Proofs.YtndhbnhobhkmaaaGreatDoor
