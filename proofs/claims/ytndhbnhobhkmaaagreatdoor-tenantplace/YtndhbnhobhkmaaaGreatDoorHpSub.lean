/-
  The program's heap in memory: its own block, its window, a shelf a kind, a line a small kind, its table of pages, its pages.
  What the heap's own calls ask of others, each told over all of the heap's things side by side.
-/
import Derived.Test.YtndhbnhobhkmaaaGreatDoorPaCalls
import Derived.Test.YtndhbnhobhkmaaaGreatDoorTaCalls
import Derived.Test.YtndhbnhobhkmaaaGreatDoorPlCalls
namespace Go.Proofs.YtndhbnhobhkmaaaGreatDoor
open Go.RowKit
open An
def G17(w:World):Prop:=Tab w∧Sf.Tab w
theorem G17.fr{w w':World}(h:G17 w)(f:Fr (fun _=>False) w w'):G17 w':=⟨h.1.carry f id,h.2.carry f id⟩
theorem G17.gr{w:World}(h:G17 w):Gr w:=⟨h.1,h.2.pos⟩
theorem G17.k{w:World}(h:G17 w):K w w:=K.start h.1
theorem oS{w w0:World}{base:Nat}{v:Value}{e:TypeId}{size n:Nat}{xs:List Value}(h:w0.ownsRow base e size v n xs)(hs:∀x,v.ownBlock=some x→w.heap[x]? =w0.heap[x]?):w.ownsRow base e size v n xs:=by
 obtain⟨h1,h2⟩:=h;refine⟨h1,?_⟩;rcases h2 with h2|⟨g,cap,cur,rfl,hb,hc,rest⟩
 ·exact .inl h2
 ·exact .inr ⟨g,cap,cur,rfl,hb,by rw[hs g rfl];exact hc,rest⟩
theorem Ao{w w0:World}{a b:Nat}{has:List Bool}(h:Sf.Sh w0 a b has)(ha:w.heap[a]? =w0.heap[a]?)(hb:w.heap[b]? =w0.heap[b]?)(hp:Sf.Pos w):Sf.Sh w a b has:=by
 obtain⟨ws,c,h⟩:=h;exact⟨ws,c,h.bits,by rw[ha];exact h.st,oS h.row fun x e=>by simp only[Value.ownBlock,Option.some.injEq] at e;rw[←e];exact hb,h.ne,h.a0,h.b0,h.le,hp⟩
theorem Cc{w w0:World}{a k:Nat}{Z:Nat→Prop}{has:List Bool}(h:Cq.Cm w0 a Z k has)(hz:∀i,Z i→w.heap[i]? =w0.heap[i]?)(ht:Sf.Tab w):Cq.Cm w a Z k has:=by
 obtain⟨g,cap,m,A,B,h1,h2,h3,h4,h5,h6,h7⟩:=h;have hb:=fun x hx=>hz x (h6 x hx)
 refine⟨g,cap,m,A,B,⟨by rw[hb a (.inl rfl)];exact h1.st,oS h1.row fun x e=>hb x (.inr (.inl e)),fun i hi=>Ao (h1.sh i hi) (hb _ (.inr (.inr ⟨i,hi,.inl rfl⟩))) (hb _ (.inr (.inr ⟨i,hi,.inr rfl⟩))) ht.pos,h1.ne,h1.na,h1.lo,h1.b0,ht⟩,h2,h3,h4,h5,h6,fun i hi=> ?_⟩;have:=Array.getElem?_eq_some_iff.1 ((hz i hi).trans (Array.getElem?_eq_getElem (h7 i hi)));exact this.1
def Ct(m k:Nat)(has:List Bool)(w:World)(Z:Nat→Prop):Prop:=∃w0 Z0,Cq.Cm w0 m Z0 k has∧(∀i,Z0 i→Z i∧w.heap[i]? =w0.heap[i]?)∧∀i,Z i→i<w.heap.size
theorem Ct.good(m k:Nat)(has:List Bool):Good (Ct m k has):=
 ⟨fun⟨w0,Z0,h1,h2,h3⟩ f hs=>⟨w0,Z0,h1,fun i hi=>⟨(h2 i hi).1,(f.block i (h3 i (h2 i hi).1) (hs i (h2 i hi).1)).trans (h2 i hi).2⟩,fun i hi=>Nat.lt_of_lt_of_le (h3 i hi) f.size⟩,
  fun⟨w0,Z0,h1,h2,_⟩ k1 k2=>⟨w0,Z0,h1,fun i hi=>⟨k1 i (h2 i hi).1,(h2 i hi).2⟩,k2⟩⟩
theorem Ct.into{m k:Nat}{has:List Bool}{w:World}{Z:Nat→Prop}(h:Ct m k has w Z)(ht:Sf.Tab w):∃Z0,Cq.Cm w m Z0 k has∧∀i,Z0 i→Z i:=by
 obtain⟨w0,Z0,h1,h2,h3⟩:=h;exact⟨Z0,Cc h1 (fun i hi=>(h2 i hi).2) ht,fun i hi=>(h2 i hi).1⟩
theorem Ct.lt{m k:Nat}{has:List Bool}{w:World}{Z:Nat→Prop}(h:Ct m k has w Z):∀i,Z i→i<w.heap.size:=by obtain⟨w0,Z0,h1,h2,h3⟩:=h;exact h3
theorem Ct.back{m k:Nat}{has:List Bool}{w w':World}{Z Z0:Nat→Prop}(h:Cq.Cm w' m Z0 k has)(hz:∀i,Z0 i→Z i)(hl:∀i,Z i→i<w.heap.size)(f:Fr Z0 w w'):∃Z',Ct m k has w' Z'∧Gw w w' Z Z':=
 ⟨Z,⟨w',Z0,h,fun i hi=>⟨hz i hi,rfl⟩,fun i hi=>Nat.lt_of_lt_of_le (hl i hi) f.size⟩,Gw.same hl (f.mono fun i _ e=>hz i e)⟩
def Sht(a b:Nat)(has:List Bool)(w:World)(Z:Nat→Prop):Prop:=Sf.Sh w a b has∧(Z a∧Z b)∧∀i,Z i→i<w.heap.size
theorem Sht.good(a b:Nat)(has:List Bool):Good (Sht a b has):=
 ⟨fun h f hs=>⟨fo h.1 f (hs _ h.2.1.1) (hs _ h.2.1.2),h.2.1,fun i hi=>Nat.lt_of_lt_of_le (h.2.2 i hi) f.size⟩,fun h k1 k2=>⟨h.1,⟨k1 _ h.2.1.1,k1 _ h.2.1.2⟩,k2⟩⟩
structure Px where
 a:Nat
 m:Nat
 h:Nat
 t:Nat
 k:Nat
 ad:Option Addr
 cap:Nat
 A:Nat→Nat
 B:Nat→Nat
 N:Nat→Nat
 pb:Nat
structure Rs where
 W:List Int
 T:Tb
 sh:Nat→List Bool
 ln:Nat→List Int
 pg:Nat→Option (Nat×Pg)
 cnt:Nat
def gZ(A:Nat→Nat)(n:Nat):List Value:=(List.range n).map fun c=>Value.pointer (some ⟨A c,0,none⟩)
def hcl(x:Px)(wl:Nat):List Value:=[.pointer (some ⟨x.a,0,none⟩),.pointer (some ⟨x.m,0,none⟩),.slice x.ad wl x.cap,.pointer (some ⟨x.t,0,none⟩)]++(gZ x.A 24++(gZ x.N 8++[.map (some x.pb)]))
def hob(x:Px)(wl:Nat):Obj:=.cells (hcl x wl).toArray 145 (0,0)
def shf(x:Px)(sh:Nat→List Bool):Nat→World→(Nat→Prop)→Prop:=fun c=>Sht (x.A c) (x.B c) (sh c)
def lnf(x:Px)(ln:Nat→List Int):Nat→World→(Nat→Prop)→Prop:=fun c=>Lm (x.N c) (ln c)
def pgt(a:Nat):Option (Nat×Pg)→World→(Nat→Prop)→Prop
 |none=>Non
 |some y=>Pm y.1 a y.2
def pgf(x:Px)(pg:Nat→Option (Nat×Pg)):Nat→World→(Nat→Prop)→Prop:=fun v=>pgt x.a (pg v)
def pgm(pg:Nat→Option (Nat×Pg)):Int→Option Nat:=fun v=>if 0≤v then(pg v.toNat).map Prod.fst else none
theorem cF(x:Px)(sh:Nat→List Bool)(c:Nat):Good (shf x sh c):=Sht.good ..
theorem cu(x:Px)(ln:Nat→List Int)(c:Nat):Good (lnf x ln c):=Lm.good ..
theorem wu(a:Nat)(y:Option (Nat×Pg)):Good (pgt a y):=by
 cases y
 ·exact Non.good
 ·exact Pm.good ..
theorem bB(x:Px)(pg:Nat→Option (Nat×Pg))(c:Nat):Good (pgf x pg c):=wu ..
theorem sG(x:Px)(sh:Nat→List Bool)(c:Nat)(l:List Bool):fset (shf x sh) c (Sht (x.A c) (x.B c) l)=shf x (fset sh c l):=by
 funext i;unfold shf fset;split
 ·rename_i e;rw[e]
 ·rfl
theorem tN(x:Px)(ln:Nat→List Int)(c:Nat)(l:List Int):fset (lnf x ln) c (Lm (x.N c) l)=lnf x (fset ln c l):=by
 funext i;unfold lnf fset;split
 ·rename_i e;rw[e]
 ·rfl
theorem nh(x:Px)(pg:Nat→Option (Nat×Pg))(v:Nat)(y:Option (Nat×Pg)):fset (pgf x pg) v (pgt x.a y)=pgf x (fset pg v y):=by
 funext i;unfold pgf fset;split<;>rfl
abbrev hl(x:Px)(M:Ms)(R:Rs)(O:World→(Nat→Prop)→Prop)(ts:List (World→(Nat→Prop)→Prop)):List (World→(Nat→Prop)→Prop):=
 Am 111 x.a M.bs M.ss::O::Blk x.h (hob x R.W.length)::Ct x.m x.k M.has::Tm x.t R.T::Lv x.ad R.W::Fam 24 (shf x R.sh)::Fam 8 (lnf x R.ln)::Mg x.pb R.cnt (pgm R.pg)::Fam 6400 (pgf x R.pg)::ts
section
variable{x:Px}{wl:Nat}{w:World}
theorem hcl_s(x:Px)(wl:Nat){c:Nat}(hc:c<24):(hcl x wl)[4+c]? =some (.pointer (some ⟨x.A c,0,none⟩)):=by
 unfold hcl;rw[List.getElem?_append_right (by simp)];simp only[List.length_cons,List.length_nil,Nat.zero_add,Nat.reduceAdd,Nat.add_sub_cancel_left];rw[List.getElem?_append_left (by simp[gZ];omega)];simp[gZ,hc]
theorem hcl_l(x:Px)(wl:Nat){c:Nat}(hc:c<8):(hcl x wl)[28+c]? =some (.pointer (some ⟨x.N c,0,none⟩)):=by
 unfold hcl;rw[List.getElem?_append_right (by simp;omega)];simp only[List.length_cons,List.length_nil,Nat.zero_add,Nat.reduceAdd];rw[List.getElem?_append_right (by simp[gZ];omega)];rw[List.getElem?_append_left (by simp[gZ];omega)];simp[gZ,hc,show 28+c - 4 - 24=c by omega]
theorem cK(h:w.heap[x.h]? =some (hob x wl))(j:Nat):w.cell? ⟨x.h,j,none⟩=(hcl x wl)[j]? :=by unfold hob at h;simp[World.cell?,h]
theorem js(h:w.heap[x.h]? =some (hob x wl)):w.cell? ⟨x.h,0,none⟩=some (.pointer (some ⟨x.a,0,none⟩)):=by rw[cK h];rfl
theorem eJ(h:w.heap[x.h]? =some (hob x wl)):w.cell? ⟨x.h,1,none⟩=some (.pointer (some ⟨x.m,0,none⟩)):=by rw[cK h];rfl
theorem uA(h:w.heap[x.h]? =some (hob x wl)):w.cell? ⟨x.h,2,none⟩=some (.slice x.ad wl x.cap):=by rw[cK h];rfl
theorem di(h:w.heap[x.h]? =some (hob x wl)):w.cell? ⟨x.h,3,none⟩=some (.pointer (some ⟨x.t,0,none⟩)):=by rw[cK h];rfl
theorem rh(h:w.heap[x.h]? =some (hob x wl)){c:Nat}(hc:c<24):w.cell? ⟨x.h,4+c,none⟩=some (.pointer (some ⟨x.A c,0,none⟩)):=by rw[cK h,hcl_s x wl hc]
theorem mn(h:w.heap[x.h]? =some (hob x wl)){c:Nat}(hc:c<8):w.cell? ⟨x.h,28+c,none⟩=some (.pointer (some ⟨x.N c,0,none⟩)):=by rw[cK h,hcl_l x wl hc]
theorem ml(h:w.heap[x.h]? =some (hob x wl)):w.cell? ⟨x.h,36,none⟩=some (.map (some x.pb)):=by rw[cK h];rfl
theorem hob_z(h:w.heap[x.h]? =some (hob x wl))(j:Nat):w.frozen? ⟨x.h,j,none⟩=false:=by unfold hob at h;simp[World.frozen?,h]
end
section
variable{W w:World}{ts:List (World→(Nat→Prop)→Prop)}{P Q:World→(Nat→Prop)→Prop}{n:Nat}{F:Nat→World→(Nat→Prop)→Prop}
theorem aa.Cs(h:aa W w ts)(i j:Nat)(hi:ts[i]? =some P)(hj:ts[j]? =some (Fam n F))(hne:i≠j)(hF:∀c,Good (F c)){c:Nat}(hc:c<n){Pg:Program}{G:Nat}{args:Array Value}{R:Ending→Prop}
  (base:∀U,Both P (F c) w U→Calls Pg G args w fun e w'=>R e∧Fr (fun _=>False) w w'):Calls Pg G args w fun e w'=>R e∧Fr (fun _=>False) w w':=by
 have hil:=(List.getElem?_eq_some_iff.1 hi).1;have h1:=h.merge i j hi hj hne;have hg:((ts.set i (Both P (Fam n F))).set j Non)[i]? =some (Both P (Fam n F)):=by rw[List.getElem?_set_ne (fun e=>hne e.symm),List.getElem?_set_self hil]
 obtain⟨U,hU,_⟩:=h1.get i hg;have hs:Both P (Both (F c) (Fam n (fset F c Non))) w U:=hU.imp fun Y y=>y.split hF hc
 obtain⟨V,v1,_,_⟩:=hs.rest (Fam.good fun d=>by unfold fset;split;exact Non.good;exact hF d);exact base V v1
theorem aa.two2(h:aa W w ts)(i j:Nat)(hi:ts[i]? =some P)(hj:ts[j]? =some Q)(hne:i≠j){P':World→(Nat→Prop)→Prop}(hP':Good P'){Pg:Program}{G:Nat}{args:Array Value}{R:Ending→Prop}
  (base:∀U,Both P Q w U→Calls Pg G args w fun e w'=>R e∧∃U',Both P' Q w' U'∧Gw w w' U U'):Calls Pg G args w fun e w'=>R e∧aa W w' (ts.set i P'):=by
 have gQ:=h.nV hj;have hil:=(List.getElem?_eq_some_iff.1 hi).1;have hjl:=(List.getElem?_eq_some_iff.1 hj).1;have h1:=h.merge i j hi hj hne;have hg:((ts.set i (Both P Q)).set j Non)[i]? =some (Both P Q):=by rw[List.getElem?_set_ne (fun e=>hne e.symm),List.getElem?_set_self hil]
 refine(h1.lift i hg (Both.good hP' gQ) (R:=R) base).mono ?_;rintro e w' ⟨he,h2⟩;refine⟨he,?_⟩;have h3:=h2.apart i j (P:=P') (Q:=Q) (by rw[List.getElem?_set_self (by simp;exact hil)]) (by rw[List.getElem?_set_ne hne,List.getElem?_set_self (by simp;exact hjl)]) hne hP' gQ;have e2:(((((ts.set i (Both P Q)).set j Non).set i (Both P' Q)).set i P').set j Q)=ts.set i P':=by
  rw[List.set_set,List.set_comm _ _ (fun e=>hne e.symm),List.set_set,List.set_set,List.set_comm _ _ hne];congr 1;obtain⟨_,e⟩:=List.getElem?_eq_some_iff.1 hj;rw[←e];exact List.set_getElem_self hjl
 rw[e2] at h3;exact h3
end
section
variable{W w:World}{x:Px}{M:Ms}{R:Rs}{O:World→(Nat→Prop)→Prop}{ts:List (World→(Nat→Prop)→Prop)}
theorem aI(h:aa W w (hl x M R O ts)):w.heap[x.h]? =some (hob x R.W.length):=by
 obtain⟨U,h1,_⟩:=h.get 2 rfl;exact h1.1
theorem nB{ss:List Sp}{p m:Int}(hm:1≤m)(b:Bool):aT ss p m b=ss++[(p,m,b)]:=if_pos (by omega)
theorem rQ(h:aa W w (hl x M R O ts)):Calls Tryz.prog 114 #[.pointer (some ⟨x.a,0,none⟩)] w fun e w'=>e=.returned (.int .i64 M.bs.length)∧w'=w:=by
 obtain⟨U,h1,_⟩:=h.get 0 rfl;exact kO h1
theorem zO(h:aa W w (hl x M R O ts)){p:Nat}(hp:p * 512+512≤M.bs.length)(hk:M.ss.length≤1000000):Calls Tryz.prog 126 #[.pointer (some ⟨x.a,0,none⟩),.int .i64 ((p:Int) * 512),.int .i64 512] w fun e w'=>e=.returned (.int .i64 0)∧aa W w' (hl x ⟨M.has,over M.bs (p * 512) (nz 512),M.ss++[((p:Int) * 512,512,true)]⟩ R O ts):=
 h.lift 0 rfl (Am.good _ _ _ _) fun U hU=>by
  have:=oh hU (p * 512) 512 hp hk;rw[nB (by omega),show((p * 512:Nat):Int)=(p:Int) * 512 by omega] at this;exact this
theorem zP(h:aa W w (hl x M R O ts)){p q:Nat}(hp:p * 512+512≤M.bs.length)(hq:q * 512+512≤M.bs.length)(hk:M.ss.length<1000000):Calls Tryz.prog 146 #[.pointer (some ⟨x.a,0,none⟩),.int .i64 ((p:Int) * 512),.int .i64 ((q:Int) * 512),.int .i64 512] w fun e w'=>e=.returned (.int .i64 0)∧aa W w' (hl x ⟨M.has,over M.bs (p * 512) (win M.bs (q * 512)),M.ss++[((q:Int) * 512,512,false)]++[((p:Int) * 512,512,true)]⟩ R O ts):=
 h.lift 0 rfl (Am.good _ _ _ _) fun U hU=>by
  have:=Cv hU (p * 512) (q * 512) 512 hp hq hk;rw[nB (by omega),nB (by omega),show((p * 512:Nat):Int)=(p:Int) * 512 by omega,show((q * 512:Nat):Int)=(q:Int) * 512 by omega] at this;exact this
theorem rP(h:aa W w (hl x M R O ts))(gr:G17 w)(p:Int):Calls Tryz.prog 144 #[.pointer (some ⟨x.m,0,none⟩),.int .i64 p] w fun e w'=>e=.returned (.int .i64 (Cq.giE M.has p))∧aa W w' (hl x ⟨Cq.giS M.has p,M.bs,M.ss⟩ R O ts):=
 h.lift 3 rfl (Ct.good _ _ _) fun U hU=>by
  obtain⟨Z0,c1,c2⟩:=hU.into gr.2;exact(Cq.c_give c1 p).mono fun e w' ⟨he,k1,k2⟩=>⟨he,Ct.back k1 c2 hU.lt k2⟩
theorem vA(h:aa W w (hl x M R O ts))(gr:G17 w)(p:Int):Calls Tryz.prog 98 #[.pointer (some ⟨x.m,0,none⟩),.int .i64 p] w fun e w'=>e=.returned (.int .i64 (Cq.colI M.has.length x.k p))∧Fr (fun _=>False) w w':=by
 obtain⟨U,hU,_⟩:=h.get 3 rfl;obtain⟨Z0,c1,c2⟩:=hU.into gr.2;exact(Cq.ym c1 p).mono fun e w' ⟨he,_,k2⟩=>⟨he,k2⟩
theorem rO(h:aa W w (hl x M R O ts))(gr:G17 w)(j:Nat){ad:Option Addr}{l:List Int}(hj:(hl x M R O ts)[j]? =some (Lv ad l))(hne:3≠j)(hm:l.length≤maxLen)(cap:Nat):Calls Tryz.prog 143 #[.pointer (some ⟨x.m,0,none⟩),.slice ad l.length cap] w fun e w'=>e=.returned (.tuple #[.int .i64 (Cq.takV x.k M.has l),.int .i64 (Cq.takE x.k M.has l)])∧aa W w' (hl x ⟨Cq.takS x.k M.has l,M.bs,M.ss⟩ R O ts):=
 h.two2 3 j rfl hj hne (Ct.good _ _ _) fun U hU=>by
  obtain⟨Z,Y,k1,k2,k3,k4,k5,k6⟩:=hU;obtain⟨Z0,c1,c2⟩:=k1.into gr.2;refine(Cq.c_take cap c1 k2.1 (fun b off e h0 hz=>k3 b (c2 b hz) (k2.2.1 b off e h0)) hm).mono ?_;rintro e w' ⟨he,m1,m2⟩;obtain⟨Z',t1,t2⟩:=Ct.back m1 c2 k1.lt m2;have hU:Both (Ct x.m x.k M.has) (Lv ad l) w U:=⟨Z,Y,k1,k2,k3,k4,k5,k6⟩;have t3:Gw w w' Z Z:=Gw.same k1.lt (m2.mono fun i _ e=>c2 i e);refine⟨he,U,⟨Z,Y,⟨w',Z0,m1,fun i hi=>⟨c2 i hi,rfl⟩,fun i hi=>Nat.lt_of_lt_of_le (k1.lt i hi) m2.size⟩,(Lv.good _ _).carry k2 m2 fun i hi hz=>k3 i (c2 i hz) hi,k3,k4,k5,fun i hi=>Nat.lt_of_lt_of_le (k6 i hi) m2.size⟩,Gw.same k6 (m2.mono fun i _ e=>k4 i (c2 i e))⟩
theorem rI(h:aa W w (hl x M R O ts))(ok:TbOk R.T){v:Int}(hv:I64 v):Calls Tryz.prog 142 #[.pointer (some ⟨x.t,0,none⟩),.int .i64 v] w fun e w'=>e=.returned (.int .i64 (tbF R.T v))∧Fr (fun _=>False) w w':=by
 obtain⟨U,hU,_⟩:=h.get 4 rfl;exact eW hU ok hv
theorem yB(h:aa W w (hl x M R O ts))(ok:TbOk R.T):Calls Tryz.prog 108 #[.pointer (some ⟨x.t,0,none⟩)] w fun e w'=>∃ad cap,e=.returned (.slice ad (R.T.map Prod.fst).length cap)∧aa W w' (hl x M R O (ts++[Lv ad (R.T.map Prod.fst)])):=by
 obtain⟨U,hU,_⟩:=h.get 4 rfl;refine(c_all hU ok).mono ?_;rintro e w' ⟨ad,cap,he,hn,hb,f⟩;refine⟨ad,cap,he,?_⟩;exact h.more (Lv.good _ _) (Lv.new hn) f fun i ⟨⟨off,e⟩,h0⟩=>⟨hb i off e h0,(Lv.new hn).2.2 i ⟨⟨off,e⟩,h0⟩⟩
theorem z_tmap(h:aa W w (hl x M R O ts))(ok:TbOk R.T){v p:Int}(hv:I64 v)(hp:I64 p):Calls Tryz.prog 237 #[.pointer (some ⟨x.t,0,none⟩),.int .i64 v,.int .i64 p] w fun e w'=>e=.returned (.int .i64 (tbME R.T v p))∧aa W w' (hl x M ⟨R.W,tbM R.T v p,R.sh,R.ln,R.pg,R.cnt⟩ O ts):=
 h.lift 4 rfl (Tm.good _ _) fun _ hU=>c_map hU ok hv hp
theorem vw(h:aa W w (hl x M R O ts))(ok:TbOk R.T){v:Int}(hv:I64 v):Calls Tryz.prog 152 #[.pointer (some ⟨x.t,0,none⟩),.int .i64 v] w fun e w'=>e=.returned (.tuple #[.int .i64 (tbUV R.T v),.int .i64 (tbUE R.T v)])∧aa W w' (hl x M ⟨R.W,tbU R.T v,R.sh,R.ln,R.pg,R.cnt⟩ O ts):=
 h.lift 4 rfl (Tm.good _ _) fun _ hU=>Ci hU ok hv
theorem zK(h:aa W w (hl x M R O ts))(ok:TbOk R.T){v p:Int}(hv:I64 v)(hp:I64 p):Calls Tryz.prog 145 #[.pointer (some ⟨x.t,0,none⟩),.int .i64 v,.int .i64 p] w fun e w'=>e=.returned (.tuple #[.int .i64 (tbSV R.T v p),.int .i64 (tbSE R.T v p)])∧aa W w' (hl x M ⟨R.W,tbS R.T v p,R.sh,R.ln,R.pg,R.cnt⟩ O ts):=
 h.lift 4 rfl (Tm.good _ _) fun _ hU=>c_swap hU ok hv hp
theorem vx(h:aa W w (hl x M R O ts)){c:Nat}(hc:c<24)(s:Int):Calls Tryz.prog 218 #[.pointer (some ⟨x.A c,0,none⟩),.int .i64 s] w fun e w'=>e=.returned (.bool (Sf.isT (R.sh c) s))∧Fr (fun _=>False) w w':=
 h.vo 6 rfl hc fun _ hU=>(Sf.fq hU.1 s).mono fun _ _ ⟨he,hw⟩=>⟨he,frOf hw⟩
theorem gB(h:aa W w (hl x M R O ts))(gr:G17 w){c:Nat}(hc:c<24):Calls Tryz.prog 192 #[.pointer (some ⟨x.A c,0,none⟩)] w fun e w'=>e=.returned (.int .i64 (Sf.lowI (R.sh c)))∧Fr (fun _=>False) w w':=
 h.vo 6 rfl hc fun _ hU=>(Sf.jP hU.1 gr.2).mono fun _ _ ⟨he,hw⟩=>⟨he,hw▸Fr.refl _ _⟩
theorem zL(h:aa W w (hl x M R O ts)){c:Nat}(hc:c<24)(s:Int):Calls Tryz.prog 201 #[.pointer (some ⟨x.A c,0,none⟩),.int .i64 s] w fun e w'=>e=.returned (.int .i64 (Sf.taE (R.sh c) s))∧aa W w' (hl x M ⟨R.W,R.T,fset R.sh c (Sf.taS (R.sh c) s),R.ln,R.pg,R.cnt⟩ O ts):=by
 have:=h.mem 6 rfl (cF x R.sh) hc (Sht.good (x.A c) (x.B c) (Sf.taS (R.sh c) s)) (G:=201) (args:=#[.pointer (some ⟨x.A c,0,none⟩),.int .i64 s]) (Pg:=Tryz.prog) (R:=fun e=>e=.returned (.int .i64 (Sf.taE (R.sh c) s))) fun U hU=>(Sf.jO hU.1 s).mono fun e w' ⟨he,k1,k2⟩=>⟨he,U,⟨k1,hU.2.1,fun i hi=>Nat.lt_of_lt_of_le (hU.2.2 i hi) k2.size⟩,Gw.same hU.2.2 (k2.mono fun i _ e=>e▸hU.2.1.2)⟩
 rw[sG] at this;exact this
theorem zM(h:aa W w (hl x M R O ts)){c:Nat}(hc:c<24)(s:Int):Calls Tryz.prog 172 #[.pointer (some ⟨x.A c,0,none⟩),.int .i64 s] w fun e w'=>e=.returned (.int .i64 (Sf.giE (R.sh c) s))∧aa W w' (hl x M ⟨R.W,R.T,fset R.sh c (Sf.giS (R.sh c) s),R.ln,R.pg,R.cnt⟩ O ts):=by
 have:=h.mem 6 rfl (cF x R.sh) hc (Sht.good (x.A c) (x.B c) (Sf.giS (R.sh c) s)) (G:=172) (args:=#[.pointer (some ⟨x.A c,0,none⟩),.int .i64 s]) (Pg:=Tryz.prog) (R:=fun e=>e=.returned (.int .i64 (Sf.giE (R.sh c) s))) fun U hU=>(Sf.lv hU.1 s).mono fun e w' ⟨he,k1,k2⟩=>⟨he,U,⟨k1,hU.2.1,fun i hi=>Nat.lt_of_lt_of_le (hU.2.2 i hi) k2.size⟩,Gw.same hU.2.2 (k2.mono fun i _ e=>e▸hU.2.1.2)⟩
 rw[sG] at this;exact this
theorem jA(h:aa W w (hl x M R O ts)){c:Nat}(hc:c<8)(ok:LiOk (R.ln c)):Calls Tryz.prog 175 #[.pointer (some ⟨x.N c,0,none⟩)] w fun e w'=>e=.returned (.int .i64 (liF (R.ln c)))∧Fr (fun _=>False) w w':=
 h.vo 7 rfl hc fun _ hU=>AO hU ok
theorem yC(h:aa W w (hl x M R O ts)){c:Nat}(hc:c<8)(ok:LiOk (R.ln c))(hl':(R.ln c).length≤5000){v:Int}(hv:I64 v):Calls Tryz.prog 184 #[.pointer (some ⟨x.N c,0,none⟩),.int .i64 v] w fun e w'=>e=.returned (.int .i64 (liPE (R.ln c) v))∧aa W w' (hl x M ⟨R.W,R.T,R.sh,fset R.ln c (liP (R.ln c) v),R.pg,R.cnt⟩ O ts):=by
 have:=h.mem 7 rfl (cu x R.ln) hc (Lm.good (x.N c) (liP (R.ln c) v)) (G:=184) (args:=#[.pointer (some ⟨x.N c,0,none⟩),.int .i64 v]) (Pg:=Tryz.prog) (R:=fun e=>e=.returned (.int .i64 (liPE (R.ln c) v))) fun U hU=>n_push hU ok hl' hv
 rw[tN] at this;exact this
theorem oq(h:aa W w (hl x M R O ts)){c:Nat}(hc:c<8)(ok:LiOk (R.ln c))(hl':(R.ln c).length≤5000){v:Int}(hv:I64 v):Calls Tryz.prog 186 #[.pointer (some ⟨x.N c,0,none⟩),.int .i64 v] w fun e w'=>e=.returned (.int .i64 (liRE (R.ln c) v))∧aa W w' (hl x M ⟨R.W,R.T,R.sh,fset R.ln c (liR (R.ln c) v),R.pg,R.cnt⟩ O ts):=by
 have:=h.mem 7 rfl (cu x R.ln) hc (Lm.good (x.N c) (liR (R.ln c) v)) (G:=186) (args:=#[.pointer (some ⟨x.N c,0,none⟩),.int .i64 v]) (Pg:=Tryz.prog) (R:=fun e=>e=.returned (.int .i64 (liRE (R.ln c) v))) fun U hU=>wM hU ok hl' hv
 rw[tN] at this;exact this
theorem yD{v p:Nat}{g:Pg}(hp:R.pg v=some (p,g)):pgf x R.pg v=Pm p x.a g:=by unfold pgf;rw[hp];rfl
theorem mO(h:aa W w (hl x M R O ts)){v p:Nat}{g g':Pg}(hv:v<6400)(hp:R.pg v=some (p,g)){bs':List UInt8}{ss':List Sp}{G:Nat}{args:Array Value}{Rr:Ending→Prop}
  (base:∀U,Pa x.a M.bs M.ss p g w U→Calls Tryz.prog G args w fun e w'=>Rr e∧∃U',Pa x.a bs' ss' p g' w' U'∧Gw w w' U U'):Calls Tryz.prog G args w fun e w'=>Rr e∧aa W w' (hl x ⟨M.has,bs',ss'⟩ ⟨R.W,R.T,R.sh,R.ln,fset R.pg v (some (p,g')),R.cnt⟩ O ts):=by
 have hm:pgm (fset R.pg v (some (p,g')))=pgm R.pg:=by
  funext u;unfold pgm fset;by_cases e:u.toNat=v
  ·rw[if_pos e,e,hp];rfl
  ·rw[if_neg e]
 have:=h.pair 0 9 rfl rfl (by decide) (bB x R.pg) hv (Am.good 111 x.a bs' ss') (Pm.good p x.a g') (G:=G) (args:=args) (Pg:=Tryz.prog) (R:=Rr) fun U hU=>by
  rw[yD hp] at hU;exact base U hU
 refine this.mono ?_;rintro e w' ⟨he,h2⟩;refine⟨he,?_⟩;have e2:=nh x R.pg v (some (p,g'));unfold hl;rw[hm,←e2];exact h2
theorem rN(h:aa W w (hl x M R O ts)){v p:Nat}{g:Pg}(hv:v<6400)(hp:R.pg v=some (p,g)){G:Nat}{args:Array Value}{Rr:Ending→Prop}
  (base:∀U,Pa x.a M.bs M.ss p g w U→Calls Tryz.prog G args w fun e w'=>Rr e∧Fr (fun _=>False) w w'):Calls Tryz.prog G args w fun e w'=>Rr e∧Fr (fun _=>False) w w':=
 h.Cs 0 9 rfl rfl (by decide) (bB x R.pg) hv fun U hU=>by
  rw[yD hp] at hU;exact base U hU
theorem vz(h:aa W w (hl x M R O ts))(gr:G17 w){v p:Nat}{g:Pg}(hv:v<6400)(hp:R.pg v=some (p,g))(ok:g.Ok M.bs)(hk:M.ss.length≤900000):Calls Tryz.prog 222 #[.pointer (some ⟨p,0,none⟩)] w fun e w'=>e=.returned (.tuple #[.int .i64 (paV g),.int .i64 (paE g)])∧aa W w' (hl x ⟨M.has,paB g M.bs,paT g M.ss⟩ ⟨R.W,R.T,R.sh,R.ln,fset R.pg v (some (p,paS g)),R.cnt⟩ O ts):=
 mO h hv hp fun _ hU=>zR hU gr.gr ok hk
theorem rM(h:aa W w (hl x M R O ts))(gr:G17 w){v p:Nat}{g:Pg}(hv:v<6400)(hp:R.pg v=some (p,g))(ok:g.Ok M.bs)(hk:M.ss.length≤900000){j:Int}(hj:I64 j):Calls Tryz.prog 183 #[.pointer (some ⟨p,0,none⟩),.int .i64 j] w fun e w'=>e=.returned (.int .i64 (pfE g j))∧aa W w' (hl x ⟨M.has,pfB g M.bs j,pfT g M.ss j⟩ ⟨R.W,R.T,R.sh,R.ln,fset R.pg v (some (p,pfS g j)),R.cnt⟩ O ts):=
 mO h hv hp fun _ hU=>x_free hU gr.gr ok hk hj
theorem zN(h:aa W w (hl x M R O ts))(gr:G17 w){v p:Nat}{g:Pg}(hv:v<6400)(hp:R.pg v=some (p,g))(ok:g.Fit M.bs.length){b:Int}(hb:I64 b):Calls Tryz.prog 148 #[.pointer (some ⟨p,0,none⟩),.int .i64 b] w fun e w'=>e=.returned (.int .i64 (pmE M.bs.length b))∧aa W w' (hl x M ⟨R.W,R.T,R.sh,R.ln,fset R.pg v (some (p,pmS g M.bs.length b)),R.cnt⟩ O ts):=
 mO h hv hp fun _ hU=>x_move hU gr.gr ok hb
theorem vy(h:aa W w (hl x M R O ts))(gr:G17 w){v p:Nat}{g:Pg}(hv:v<6400)(hp:R.pg v=some (p,g))(ok:g.Ok M.bs){j:Int}(hj:I64 j):Calls Tryz.prog 224 #[.pointer (some ⟨p,0,none⟩),.int .i64 j] w fun e w'=>e=.returned (.bool (decide (g.May j)))∧Fr (fun _=>False) w w':=
 rN h hv hp fun _ hU=>x_has hU gr.gr ok hj
theorem rJ(h:aa W w (hl x M R O ts))(gr:G17 w){v p:Nat}{g:Pg}(hv:v<6400)(hp:R.pg v=some (p,g))(ok:g.Ok M.bs):Calls Tryz.prog 185 #[.pointer (some ⟨p,0,none⟩)] w fun e w'=>e=.returned (.int .i64 (g.used:Int))∧Fr (fun _=>False) w w':=
 rN h hv hp fun _ hU=>x_used hU gr.gr ok
theorem rK(h:aa W w (hl x M R O ts))(gr:G17 w){v p:Nat}{g:Pg}(hv:v<6400)(hp:R.pg v=some (p,g))(ok:g.Ok M.bs):Calls Tryz.prog 185 #[.pointer (some ⟨p,0,none⟩)] w fun e w'=>e=.returned (.int .i64 (g.used:Int))∧aa W w' (hl x M R O ts):=
 (rJ h gr hv hp ok).mono fun _ _ ⟨he,f⟩=>⟨he,h.kept f⟩
theorem rL(h:aa W w (hl x M R O ts))(gr:G17 w){v p:Nat}{g:Pg}(hv:v<6400)(hp:R.pg v=some (p,g))(ok:g.Ok M.bs):Calls Tryz.prog 182 #[.pointer (some ⟨p,0,none⟩)] w fun e w'=>e=.returned (.bool (decide g.Full))∧Fr (fun _=>False) w w':=
 rN h hv hp fun _ hU=>x_full hU gr.gr ok
theorem mM(h:aa W w (hl x M R O ts))(gr:G17 w){v p:Nat}{g:Pg}(hv:v<6400)(hp:R.pg v=some (p,g))(ok:g.Ok M.bs):Calls Tryz.prog 182 #[.pointer (some ⟨p,0,none⟩)] w fun e w'=>e=.returned (.bool (decide g.Full))∧aa W w' (hl x M R O ts):=
 (rL h gr hv hp ok).mono fun _ _ ⟨he,f⟩=>⟨he,h.kept f⟩
theorem z_pnew(h:aa W w (hl x M R O ts))(gr:G17 w){b kd:Nat}(hk:kd≤7)(hf:Fits M.bs.length b):Calls Tryz.prog 223 #[.pointer (some ⟨x.a,0,none⟩),.int .i64 b,.int .i64 kd] w fun e w'=>∃p,e=.returned (.tuple #[.pointer (some ⟨p,0,none⟩),.int .i64 0])∧aa W w' (hl x M R O ts++[Pm p x.a ⟨b,kd,0,[],[]⟩]):=by
 obtain⟨U,hU,_,hT⟩:=h.turn 0 rfl;refine(x_new hU gr.gr hk hf).mono ?_;rintro e w' ⟨p,U',he,k1,g⟩;refine⟨p,he,?_⟩;exact(hT (Both (Am 111 x.a M.bs M.ss) (Pm p x.a ⟨b,kd,0,[],[]⟩)) w' U' (Both.good (Am.good ..) (Pm.good ..)) k1 g).dc 0 rfl (Am.good ..) (Pm.good ..)
end
end Go.Proofs.YtndhbnhobhkmaaaGreatDoor
