/-
  A table of objects by addresses (map[int]object) that a tenant owns: looked up, stored, deleted.
  Keys and their bits: plain mathematics off the document. Nothing of the program is named here.
  The handles of one tenant: which ones are good, what each call answers and leaves: plain mathematics off the document. Nothing of the program is named here.
  Shelves as lists of Booleans (true: taken): plain mathematics. Nothing of the program is named here.
-/
import Derived.Test.YtndhbnhobhkmaaaGreatDoorSeen
import Derived.Test.YtndhbnhobhkmaaaGreatDoorSuBase
namespace Go.Proofs.YtndhbnhobhkmaaaGreatDoor
open Go.RowKit
def obV(y:Int×Int):Value:=.agg #[.int .i64 y.1,.complex .f64 (fb y.2) (fb 0)]
def jZ{H:Type}:Value→Option (DataW H×List MemPlace)
 |.agg ⟨[.int .i64 n,.complex .f64 x y]⟩=>some (.agg [.lit (.int .i64 n),.lit (.float .f64 x),.lit (.float .f64 y)],[])
 |_=>none
theorem jd{H:Type}(n:Int)(x y:Nat):jZ (H:=H) (.agg #[.int .i64 n,.complex .f64 x y])=some (.agg [.lit (.int .i64 n),.lit (.float .f64 x),.lit (.float .f64 y)],[]):=rfl
theorem nG{H:Type}{v:Value}{z:DataW H×List MemPlace}(h:jZ v=some z):∃n x y,v=.agg #[.int .i64 n,.complex .f64 x y]∧z=(.agg [.lit (.int .i64 n),.lit (.float .f64 x),.lit (.float .f64 y)],[]):=by
 unfold jZ at h;split at h
 ·cases h;exact⟨_,_,_,rfl,rfl⟩
 ·cases h
theorem mR(w:World):(zeroValue 81).run Tryz.prog w=.ok (.agg #[.int .i64 0,.complex .f64 0 0]) w:=by kernel_rfl
def Do(D:DataW Unit)(f:Int→Option (Int×Int))(cnt:Nat):Prop:=(∀x:Int,Maps.has D (.int .i64 x)=(f x).isSome)∧(∀x y,f x=some y→∀z,D.atKey (.int .i64 x) z=.agg [.lit (.int .i64 y.1),.lit (.float .f64 (fb y.2)),.lit (.float .f64 (fb 0))])∧Maps.size D=cnt
def Oo(w:World)(B n:Nat)(f:Int→Option (Int×Int))(cnt:Nat):Prop:=∃D:DataW Unit,w.ownsMap Tryz.prog 3 jZ B n D∧Do D f cnt
section
variable{w w':World}{B n cnt:Nat}{f:Int→Option (Int×Int)}
theorem Oo.new(w:World):Oo (w.alloc (.map #[] 0)) w.heap.size 0 (fun _=>none) 0:=⟨_,World.ownsMap_made w _ _ _,fun x=>by simp[Maps.has],(fun x s h=>by cases h),rfl⟩
theorem Oo.carry{S:Nat→Prop}(h:Oo w B n f cnt)(fr:Fr S w w')(hn:¬S B):Oo w' B n f cnt:=by
 obtain⟨D,⟨es,clock,hb,F,hs,hD⟩,h2⟩:=h;exact⟨D,⟨es,clock,by rw[fr.block B (Array.getElem?_eq_some_iff.1 hb).1 hn];exact hb,F,hs,hD⟩,h2⟩
theorem Oo.look(h:Oo w B n f cnt){x:Int}(hx:(Lit.int .i64 x).wf=true){y:Int×Int}(hs:f x=some y):(Instr.lookup 72 (.map (some B)) (.int .i64 x) false).run Tryz.prog w=.ok (obV y) w:=by
 obtain⟨D,h1,h2⟩:=h;obtain⟨v,ps,hrun,hv⟩:=h1.lookup bk Tryz.underlying72 (mR w) (jd 0 0 0) (bH hx);obtain⟨a,b,c,rfl,ht⟩:=nG hv;rw[h2.2.1 x y hs] at ht;simp only[Prod.mk.injEq,DataW.agg.injEq,List.cons.injEq,DataW.lit.injEq,Lit.int.injEq,Lit.float.injEq,true_and,and_true] at ht;obtain⟨⟨e1,e2,e3⟩,_⟩:=ht;rw[hrun,←e1,←e2,←e3];rfl
theorem Oo.store(h:Oo w B n f cnt)(hn:n<maxLen){x:Int}(hx:(Lit.int .i64 x).wf=true)(y:Int×Int):∃w',(Instr.mapUpdate 72 (.map (some B)) (.int .i64 x) (obV y)).run Tryz.prog w=.ok () w'∧Oo w' B (n+1) (fun z=>if z=x then some y else f z) (if(f x).isSome then cnt else cnt+1)∧Fr (fun i=>i=B) w w':=by
 obtain⟨D,h1,h2⟩:=h;obtain⟨w',hrun,h3,hg⟩:=h1.update bk Tryz.underlying72 hn (bH hx) (jd y.1 (fb y.2) (fb 0));refine⟨w',hrun,⟨_,h3,fun z=> ?_,fun z t ht q=> ?_,?_⟩,(Fr.refl _ _).grown hg (fun k e=>.inl (by simpa using e.symm))⟩
 ·dsimp only;by_cases e:z=x
  ·subst e;rw[Maps.has_put_same h1.isMap (by trivial),if_pos rfl];rfl
  ·rw[Maps.has_put_other (by simpa using e),h2.1 z,if_neg e]
 ·dsimp only at ht;by_cases e:z=x
  ·subst e;rw[if_pos rfl] at ht;cases ht;rw[Maps.atKey_put_same h1.isMap (by trivial)]
  ·rw[if_neg e] at ht;rw[Maps.atKey_put_other (by simpa using e),h2.2.1 z t ht]
 ·rw[Maps.size_put (h1.tidy bk),h2.1 x,h2.2.2]
theorem Oo.drop(h:Oo w B n f cnt){x:Int}(hx:(Lit.int .i64 x).wf=true)(ty:TypeId):∃w',(Builtin.delete_ #[72,3] ty #[.map (some B),.int .i64 x]).run Tryz.prog w=.ok (.tuple #[]) w'∧Oo w' B n (fun y=>if y=x then none else f y) (cnt - (if(f x).isSome then 1 else 0))∧Fr (fun i=>i=B) w w':=by
 obtain⟨D,h1,h2⟩:=h;obtain⟨w',hrun,h3,hg⟩:=h1.drop bk Tryz.underlying72 (bH hx) ty;refine⟨w',hrun,⟨_,h3,fun y=> ?_,fun y t ht z=> ?_,?_⟩,(Fr.refl _ _).grown hg.grown (fun k e=>.inl (by simpa using e.symm))⟩
 ·dsimp only;by_cases e:y=x
  ·subst e;rw[Maps.has_del_same,if_pos rfl];rfl
  ·rw[Maps.has_del_other (by simpa using e),h2.1 y,if_neg e]
 ·dsimp only at ht;by_cases e:y=x
  ·subst e;rw[if_pos rfl] at ht;cases ht
  ·rw[if_neg e] at ht;rw[Maps.atKey_del_other (by simpa using e),h2.2.1 y t ht]
 ·have:=Maps.size_del (k:=.int .i64 x) (h1.tidy bk);rw[h2.1 x,h2.2.2] at this;omega
theorem Oo.tight(h:Oo w B n f cnt):Oo w B cnt f cnt:=by
 obtain⟨D,⟨es,clock,hb,F,hs,hD⟩,h2⟩:=h;refine⟨D,⟨es,clock,hb,F,?_,hD⟩,h2⟩;have:=h2.2.2;subst hD;rw[←this];show es.size≤List.length _;rw[length_read];exact Nat.le_refl _
def Ot(B:Nat)(f:Int→Option (Int×Int))(cnt:Nat)(w:World)(Z:Nat→Prop):Prop:=Oo w B cnt f cnt∧Z B∧∀i,Z i→i<w.heap.size
theorem Ot.good(B:Nat)(f:Int→Option (Int×Int))(cnt:Nat):Good (Ot B f cnt):=
 ⟨fun h fr hs=>⟨h.1.carry fr (hs _ h.2.1),h.2.1,fun i hi=>Nat.lt_of_lt_of_le (h.2.2 i hi) fr.size⟩,fun h h1 h2=>⟨h.1,h1 _ h.2.1,h2⟩⟩
end
section
variable{W w:World}{ts:List (World→(Nat→Prop)→Prop)}{B cnt:Nat}{f:Int→Option (Int×Int)}
theorem aa.objs(h:aa W w ts):aa W (w.alloc (.map #[] 0)) (ts++[Ot w.heap.size (fun _=>none) 0]):=
 h.more (Z:=fun i=>i=w.heap.size) (Ot.good _ _ _) ⟨Oo.new w,rfl,fun i hi=>by simp only[World.size_alloc];omega⟩ ((Fr.refl _ _).alloc _) fun i hi=>by simp only[World.size_alloc];omega
theorem aa.oo(h:aa W w ts)(j:Nat)(hj:ts[j]? =some (Ot B f cnt)):Oo w B cnt f cnt:=by
 obtain⟨U,h1,_⟩:=h.get j hj;exact h1.1
theorem aa.gf(h:aa W w ts)(j:Nat)(hj:ts[j]? =some (Ot B f cnt)){w':World}{n' cnt':Nat}{f':Int→Option (Int×Int)}(ho:Oo w' B n' f' cnt')(fr:Fr (fun i=>i=B) w w'):aa W w' (ts.set j (Ot B f' cnt')):=by
 obtain⟨U,h1,_,h2⟩:=h.turn j hj;exact h2 _ w' U (Ot.good _ _ _) ⟨ho.tight,h1.2.1,fun i hi=>Nat.lt_of_lt_of_le (h1.2.2 i hi) fr.size⟩ (Gw.same h1.2.2 (fr.mono fun i _ e=>e▸h1.2.1))
end
section
variable{w:World}{ops:Array Oper}{rest:List Oper}{o:Oper}{act:Act}{Q:Exit→Act→World→Prop}{B n cnt:Nat}{f:Int→Option (Int×Int)}
theorem vH(hgd:o.guard=none)(mo xo:Operand)(hop:o.op=Op.call { callee:=Callee.builtin Builtin.delete,args:=#[mo,xo],argTypes:=#[72,3] })(hm:act.eval mo=.map (some B)){x:Int}(hx:act.eval xo=.int .i64 x)(hwf:(Lit.int .i64 x).wf=true)(h:Oo w B n f cnt)
  (hK:∀w',Oo w' B n (fun y=>if y=x then none else f y) (cnt - (if(f x).isSome then 1 else 0))→Fr (fun i=>i=B) w w'→wpList Tryz.prog ops Q rest (act.put o.dst (.tuple #[])) w'):wpList Tryz.prog ops Q (o::rest) act w:=by
 refine wpList_plain hgd fun K' hK'=> ?_
 obtain⟨w',hrun,r1,r2⟩:=h.drop hwf o.type;unfold Oper.wp;simp[execOp,hop,resolve,invoke,builtin,hm,hx,hrun,Result.andThen];exact hK' _ _ (hK w' r1 r2)
end
end Go.Proofs.YtndhbnhobhkmaaaGreatDoor
namespace Go.Proofs.YtndhbnhobhkmaaaGreatDoor.Ka
abbrev KR(t s r n:Int):Prop:=(0≤t∧t≤7)∧(0≤s∧s≤4159)∧(1≤r∧r≤7)∧(1≤n∧n≤17592186044415)
def pkB(t s r n:Int):Int:=if KR t s r n then t+16 * r+128 * s+1048576 * n else 0
def pkE(t s r n:Int):Int:=if KR t s r n then 0 else 12
abbrev HB(h:Int):Prop:=KR (h % 16) (h / 128 % 8192) (h / 16 % 8) (h / 1048576)
def unT(h:Int):Int:=if HB h then h % 16 else 0
def unS(h:Int):Int:=if HB h then h / 128 % 8192 else 0
def unR(h:Int):Int:=if HB h then h / 16 % 8 else 0
def unN(h:Int):Int:=if HB h then h / 1048576 else 0
def unE(h:Int):Int:=if HB h then 0 else 5
section
variable{t s r n:Int}
theorem ns(h:KR t s r n):pkB t s r n=t+16 * r+128 * s+1048576 * n:=if_pos h
theorem pkB_no(h:¬KR t s r n):pkB t s r n=0:=if_neg h
theorem hY(h:KR t s r n):pkE t s r n=0:=if_pos h
theorem jc(h:¬KR t s r n):pkE t s r n=12:=if_neg h
theorem back(h:KR t s r n):HB (pkB t s r n)∧pkB t s r n % 16=t∧pkB t s r n / 128 % 8192=s∧pkB t s r n / 16 % 8=r∧pkB t s r n / 1048576=n:=by
 rw[ns h];have h0:=h;unfold KR at h;have e1:(t+16 * r+128 * s+1048576 * n) % 16=t:=by omega
 have e2:(t+16 * r+128 * s+1048576 * n) / 128 % 8192=s:=by omega
 have e3:(t+16 * r+128 * s+1048576 * n) / 16 % 8=r:=by omega
 have e4:(t+16 * r+128 * s+1048576 * n) / 1048576=n:=by omega
 refine⟨?_,e1,e2,e3,e4⟩;unfold HB;rw[e1,e2,e3,e4];exact h0
theorem one{h:Int}(hb:HB h):pkB (h % 16) (h / 128 % 8192) (h / 16 % 8) (h / 1048576)=h:=by
 rw[ns hb];omega
theorem oF{h:Int}(hb:HB h):unT h=h % 16∧unS h=h / 128 % 8192∧unR h=h / 16 % 8∧unN h=h / 1048576∧unE h=0:=⟨if_pos hb,if_pos hb,if_pos hb,if_pos hb,if_pos hb⟩
theorem rW{h:Int}(hb:¬HB h):unT h=0∧unS h=0∧unR h=0∧unN h=0∧unE h=5:=⟨if_neg hb,if_neg hb,if_neg hb,if_neg hb,if_neg hb⟩
theorem alike{t' s' r' n':Int}(h:KR t s r n)(h':KR t' s' r' n'):pkB t s r n=pkB t' s' r' n'↔t=t'∧s=s'∧r=r'∧n=n':=by
 obtain⟨_,a1,a2,a3,a4⟩:=back h;obtain⟨_,b1,b2,b3,b4⟩:=back h';constructor
 ·intro e;rw[e] at a1 a2 a3 a4;exact⟨a1.symm.trans b1,a2.symm.trans b2,a3.symm.trans b3,a4.symm.trans b4⟩
 ·rintro⟨rfl,rfl,rfl,rfl⟩;rfl
end
structure Sl where
 s:Int
 r:Int
 n:Int
 a:Int
structure Ct where
 T:Int
 nx:Int
 L:List Sl
def Sl.bits(T:Int)(x:Sl):Int:=pkB T x.s x.r x.n
structure Ct.Ok(c:Ct):Prop where
 t:0≤c.T∧c.T≤7
 nx:1≤c.nx∧c.nx≤17592186044416
 srt:c.L.Pairwise fun x y=>x.s<y.s
 kr:∀x∈c.L,KR c.T x.s x.r x.n∧x.n<c.nx∧0≤x.a
def newC(t n:Int):Ct:=⟨t,n,[]⟩
theorem AE{t n:Int}(h:(0≤t∧t≤7)∧1≤n∧n≤17592186044416):(newC t n).Ok:=⟨h.1,h.2,List.Pairwise.nil,fun x hx=>by cases hx⟩
def scan:List Sl→Int→Nat×Int
 |[],s=>(0,s)
 |x::l,s=>if x.s≤s then((scan l (if x.s=s then s+1 else s)).1+1,(scan l (if x.s=s then s+1 else s)).2) else(0,s)
abbrev Ct.can(c:Ct)(lo hi:Int):Prop:=(scan c.L lo).2<hi∧c.nx<17592186044416
def Ct.slot(c:Ct)(lo r a:Int):Sl:=⟨(scan c.L lo).2,r,c.nx,a⟩
def plE(c:Ct)(lo hi:Int):Int:=if c.can lo hi then 0 else 10
def plV(c:Ct)(lo hi r:Int):Int:=if c.can lo hi then(c.slot lo r 0).bits c.T else 0
def plS(c:Ct)(lo hi r a:Int):Ct:=if c.can lo hi then⟨c.T,c.nx+1,c.L.take (scan c.L lo).1++c.slot lo r a::c.L.drop (scan c.L lo).1⟩ else c
def grE(c:Ct)(a:Int):Int:=if a<0 then 12 else plE c 0 4096
def grV(c:Ct)(a:Int):Int:=if a<0 then 0 else plV c 0 4096 7
def grS(c:Ct)(a:Int):Ct:=if a<0 then c else plS c 0 4096 7 a
def look(c:Ct)(h:Int):Option Sl:=c.L.find? fun x=>x.bits c.T==h
def sub(p q:Int):Bool:=decide ((q % 2=1→p % 2=1)∧(q / 2 % 2=1→p / 2 % 2=1)∧(q / 4 % 2=1→p / 4 % 2=1))
abbrev fiOk(x:Sl)(r:Int):Prop:=(0≤r∧r≤7)∧sub x.r r=true
def fiE(c:Ct)(h r:Int):Int:=match look c h with
 |some x=>if fiOk x r then 0 else 5
 |none=>5
def fiV(c:Ct)(h r:Int):Int:=match look c h with
 |some x=>if fiOk x r then x.a else 0
 |none=>0
def reE(c:Ct)(h r:Int):Int:=match look c h with
 |some x=>if 1≤r∧r≤7 then(if sub x.r r then plE c 4096 4160 else 5) else 2
 |none=>5
def reV(c:Ct)(h r:Int):Int:=match look c h with
 |some x=>if 1≤r∧r≤7 then(if sub x.r r then plV c 4096 4160 r else 0) else 0
 |none=>0
def reS(c:Ct)(h r:Int):Ct:=match look c h with
 |some x=>if 1≤r∧r≤7 then(if sub x.r r then plS c 4096 4160 r x.a else c) else c
 |none=>c
def rvS(c:Ct)(a:Int):Ct:=⟨c.T,c.nx,c.L.filter fun x=>decide (x.a≠a)⟩
def rvN(c:Ct)(a:Int):Nat:=c.L.length - (c.L.filter fun x=>decide (x.a≠a)).length
theorem dV:∀(l:List Sl) (s:Int),l.Pairwise (fun x y=>x.s<y.s)→(∀x∈l,True)→
  (scan l s).1≤l.length∧s≤(scan l s).2∧(∀x∈l,x.s≠(scan l s).2)∧(∀i (h:i<l.length),i<(scan l s).1↔l[i].s<(scan l s).2)∧(∀q,s≤q→q<(scan l s).2→∃x∈l,x.s=q)∧(scan l s).2≤s+l.length
 |[],s,_,_=>by simp[scan]
 |x::l,s,hp,_=>by
  rw[List.pairwise_cons] at hp;obtain⟨hx,hl⟩:=hp;unfold scan;by_cases h:x.s≤s
  ·rw[if_pos h];obtain⟨g1,g2,g3,g4,g5,g6⟩:=dV l (if x.s=s then s+1 else s) hl (fun _ _=>trivial);generalize hsc:scan l (if x.s=s then s+1 else s)=sc at *;have hs':s≤sc.2∧x.s<sc.2:=by split at g2<;>omega
   refine⟨by simp only[List.length_cons];omega,hs'.1,?_,?_,?_,?_⟩
   ·intro y hy;rcases List.mem_cons.1 hy with rfl|hy
    ·show y.s≠sc.2;omega
    ·exact g3 y hy
   ·intro i hi;cases i with
    |zero=>simp only[List.getElem_cons_zero];exact⟨fun _=>hs'.2,fun _=>by show 0<sc.1+1;omega⟩
    |succ i=>
     simp only[List.getElem_cons_succ];have:=g4 i (by simpa using hi);show i+1<sc.1+1↔_;omega
   ·intro q hq1 hq2;by_cases e:x.s=q
    ·exact⟨x,List.mem_cons_self ..,e⟩
    ·obtain⟨y,hy,e2⟩:=g5 q (by split<;>omega) hq2;exact⟨y,List.mem_cons_of_mem _ hy,e2⟩
   ·simp only[List.length_cons];show sc.2≤_;split at g6<;>omega
  ·rw[if_neg h];refine⟨by simp,by show s≤s;omega,?_,?_,?_,?_⟩
   ·intro y hy;rcases List.mem_cons.1 hy with rfl|hy
    ·show y.s≠s;omega
    ·have:=hx y hy;show y.s≠s;omega
   ·intro i hi;show i<0↔_<s;cases i with
    |zero=>simp only[List.getElem_cons_zero];omega
    |succ i=>
     simp only[List.getElem_cons_succ];have:=hx _ (List.getElem_mem (l:=l) (n:=i) (by simpa using hi));omega
   ·intro q hq1 hq2;have:q<s:=hq2;omega
   ·show s≤_;omega
section
variable{c:Ct}{lo hi r a:Int}
theorem Ct.Ok.sD(h:c.Ok)(hlo:0≤lo)(hhi:hi≤4160)(hr:1≤r∧r≤7)(hc:c.can lo hi):KR c.T (scan c.L lo).2 r c.nx:=by
 obtain⟨_,g2,_⟩:=dV c.L lo h.srt (fun _ _=>trivial);have:=h.t;have:=h.nx;have:=hc.1;have:=hc.2;unfold KR;omega
theorem ta(h:c.Ok)(hlo:0≤lo)(hhi:hi≤4160)(hr:1≤r∧r≤7)(ha:0≤a):(plS c lo hi r a).Ok:=by
 unfold plS;split
 ·rename_i hc;have hk:=h.sD hlo hhi hr hc;obtain⟨g1,g2,g3,g4,g5,_⟩:=dV c.L lo h.srt (fun _ _=>trivial);have hn:=h.nx;have hc2:=hc.2;refine⟨h.t,⟨by show 1≤c.nx+1;omega,by show c.nx+1≤_;omega⟩,?_,?_⟩
  ·show(c.L.take (scan c.L lo).1++c.slot lo r a::c.L.drop (scan c.L lo).1).Pairwise _;have hsp:(c.L.take (scan c.L lo).1++c.L.drop (scan c.L lo).1).Pairwise fun x y=>x.s<y.s:=by rw[List.take_append_drop];exact h.srt
   rw[List.pairwise_append] at hsp ⊢;refine⟨hsp.1,?_,?_⟩
   ·rw[List.pairwise_cons];refine⟨fun y hy=> ?_,hsp.2.1⟩;obtain⟨i,hi',e⟩:=List.getElem_of_mem hy;rw[List.getElem_drop] at e;rw[List.length_drop] at hi';have h1:=g4 ((scan c.L lo).1+i) (by omega);have h2:=g3 y (List.mem_of_mem_drop hy);rw[e] at h1;show(scan c.L lo).2<y.s;omega
   ·intro x hx y hy;rcases List.mem_cons.1 hy with rfl|hy
    ·obtain⟨i,hi',e⟩:=List.getElem_of_mem hx;rw[List.getElem_take] at e;rw[List.length_take] at hi';have h1:=g4 i (by omega);rw[e] at h1;show x.s<(scan c.L lo).2;omega
    ·exact hsp.2.2 x hx y hy
  ·intro x hx;show KR c.T x.s x.r x.n∧x.n<c.nx+1∧0≤x.a;rcases List.mem_append.1 hx with hx|hx
   ·obtain⟨k1,k2,k3⟩:=h.kr x (List.mem_of_mem_take hx);exact⟨k1,by omega,k3⟩
   ·rcases List.mem_cons.1 hx with rfl|hx
    ·exact⟨hk,by show c.nx<c.nx+1;omega,ha⟩
    ·obtain⟨k1,k2,k3⟩:=h.kr x (List.mem_of_mem_drop hx);exact⟨k1,by omega,k3⟩
 ·exact h
theorem grS_ok(h:c.Ok)(a:Int):(grS c a).Ok:=by
 unfold grS;split
 ·exact h
 ·exact ta h (by omega) (by omega) (by omega) (by omega)
theorem bR{h:Int}{x:Sl}(hl:look c h=some x):x∈c.L∧x.bits c.T=h:=by
 unfold look at hl;refine⟨List.mem_of_find?_eq_some hl,?_⟩;have:=List.find?_some hl;simpa using this
theorem lY{h:Int}(hl:look c h=none):∀x∈c.L,x.bits c.T≠h:=by
 unfold look at hl;rw[List.find?_eq_none] at hl;intro x hx e;exact hl x hx (by simpa using e)
theorem rvS_ok(h:c.Ok)(a:Int):(rvS c a).Ok:=
 ⟨h.t,h.nx,h.srt.filter _,fun x hx=>h.kr x (List.mem_filter.1 hx).1⟩
theorem ju(h:c.Ok){x y:Sl}(hx:x∈c.L)(hy:y∈c.L)(e:x.bits c.T=y.bits c.T):x.s=y.s∧x.r=y.r∧x.n=y.n:=
 let ⟨_,h1,h2,h3⟩:=(alike (h.kr x hx).1 (h.kr y hy).1).1 e
 ⟨h1,h2,h3⟩
theorem lv(h:c.Ok){x y:Sl}(hx:x∈c.L)(hy:y∈c.L)(e:x.s=y.s):x=y:=by
 obtain⟨i,hi,rfl⟩:=List.getElem_of_mem hx;obtain⟨j,hj,rfl⟩:=List.getElem_of_mem hy;rcases Nat.lt_trichotomy i j with k|k|k
 ·have:=List.pairwise_iff_getElem.1 h.srt i j hi hj k;omega
 ·subst k;rfl
 ·have:=List.pairwise_iff_getElem.1 h.srt j i hj hi k;omega
theorem AQ(h:c.Ok){x:Sl}(hx:x∈c.L):look c (x.bits c.T)=some x:=by
 cases hl:look c (x.bits c.T) with
 |none=>exact(lY hl x hx rfl).elim
 |some y=>
  obtain⟨hy,e⟩:=bR hl;rw[lv h hy hx (ju h hy hx e).1]
end
end Go.Proofs.YtndhbnhobhkmaaaGreatDoor.Ka
namespace Go.Proofs.YtndhbnhobhkmaaaGreatDoor.Sf
def low:List Bool→Nat
 |[]=>0
 |true::r=>low r+1
 |false::_=>0
theorem iq:∀l:List Bool,low l≤l.length
 |[]=>Nat.le_refl _
 |true::r=>by have:=iq r;simp only[low,List.length_cons];omega
 |false::r=>by simp only[low,List.length_cons];omega
theorem ir:∀(l:List Bool) (i:Nat) (_h:i<low l) (hi:i<l.length),l[i]=true
 |true::r,0,_,_=>rfl
 |true::r,i+1,h,hi=>by
  have:=ir r i (by simp only[low] at h;omega) (by simpa using hi);simpa using this
 |false::r,i,h,_=>by simp[low] at h
theorem lV:∀(l:List Bool) (h:low l<l.length),l[low l]=false
 |[],h=>by simp at h
 |true::r,h=>by
  have:=lV r (by simpa [low] using h);simpa [low] using this
 |false::r,_=>by simp[low]
theorem bO(l:List Bool)(k:Nat)(hk:k<l.length)(h0:l[k]=false)(hb:∀i (hi:i<k),l[i]=true):low l=k:=by
 rcases Nat.lt_trichotomy (low l) k with h|h|h
 ·have h1:=lV l (by omega);have h2:=hb (low l) h;rw[h1] at h2;cases h2
 ·exact h
 ·have:=ir l k h hk;rw[h0] at this;cases this
theorem kj(l:List Bool)(h:∀i (hi:i<l.length),l[i]=true):low l=l.length:=by
 rcases Nat.lt_or_ge (low l) l.length with h1|h1
 ·have h2:=lV l h1;rw[h _ h1] at h2;cases h2
 ·have:=iq l;omega
def aR:List Bool→Nat
 |[]=>0
 |true::r=>aR r
 |false::r=>aR r+1
theorem kE:∀l:List Bool,aR l≤l.length
 |[]=>Nat.le_refl _
 |true::r=>by have:=kE r;simp only[aR,List.length_cons];omega
 |false::r=>by have:=kE r;simp only[aR,List.length_cons];omega
theorem dx:∀(l:List Bool) (k:Nat) (hk:k<l.length),l[k]=false→aR (l.set k true)+1=aR l
 |false::r,0,_,_=>by simp[aR]
 |true::r,0,_,h=>by simp at h
 |true::r,k+1,hk,h=>by
  have:=dx r k (by simpa using hk) (by simpa using h);simpa [aR] using this
 |false::r,k+1,hk,h=>by
  have:=dx r k (by simpa using hk) (by simpa using h);simp only[List.set_cons_succ,aR];omega
theorem dh:∀l m:List Bool,aR (l++m)=aR l+aR m
 |[],m=>by simp[aR]
 |true::r,m=>by simp[aR,dh r m]
 |false::r,m=>by simp[aR,dh r m];omega
def lowI(l:List Bool):Int:=if low l<l.length then(low l:Int) else -1
def takV(l:List Bool):Int:=if low l<l.length then(low l:Int) else 0
def takE(l:List Bool):Int:=if low l<l.length then 0 else 13
def takS(l:List Bool):List Bool:=if low l<l.length then l.set (low l) true else l
def hasN(l:List Bool)(k:Int):Bool:=decide (0≤k∧k<l.length)
def isT(l:List Bool)(k:Int):Bool:=hasN l k&&l.getD k.toNat false
def taE(l:List Bool)(k:Int):Int:=if hasN l k then(if isT l k then 7 else 0) else 12
def taS(l:List Bool)(k:Int):List Bool:=if hasN l k then l.set k.toNat true else l
def giE(l:List Bool)(k:Int):Int:=if hasN l k then(if isT l k then 0 else 13) else 12
def giS(l:List Bool)(k:Int):List Bool:=if hasN l k then l.set k.toNat false else l
theorem bX(l:List Bool):(takS l).length=l.length:=by unfold takS;split<;>simp
theorem jo(l:List Bool)(k:Int):(giS l k).length=l.length:=by unfold giS;split<;>simp
theorem sr(l:List Bool)(k:Int)(h:isT l k=true):taS l k=l:=by
 unfold taS;split
 ·rename_i hn;simp only[isT,hn,Bool.true_and] at h;simp only[hasN,decide_eq_true_eq] at hn;apply List.ext_getElem (by simp);intro i h1 h2;rw[List.getElem_set];split
  ·rename_i e;subst e;rw[List.getD_eq_getElem?_getD,List.getElem?_eq_getElem h2] at h;simpa using h.symm
  ·rfl
 ·rfl
theorem xE(l:List Bool)(k:Int)(h:isT l k=false):giS l k=l:=by
 unfold giS;split
 ·rename_i hn;simp only[isT,hn,Bool.true_and] at h;simp only[hasN,decide_eq_true_eq] at hn;apply List.ext_getElem (by simp);intro i h1 h2;rw[List.getElem_set];split
  ·rename_i e;subst e;rw[List.getD_eq_getElem?_getD,List.getElem?_eq_getElem h2] at h;simpa using h.symm
  ·rfl
 ·rfl
theorem eI{l:List Bool}{k:Int}:hasN l k=true↔0≤k∧k<l.length:=by simp[hasN]
theorem oQ{l:List Bool}{k:Int}:taE l k=0↔hasN l k=true∧isT l k=false:=by
 unfold taE;cases hasN l k<;>cases isT l k<;>simp
theorem xG{l:List Bool}{k:Int}:giE l k=0↔hasN l k=true∧isT l k=true:=by
 unfold giE;cases hasN l k<;>cases isT l k<;>simp
def fresh(k m:Nat):List Bool:=List.replicate k true++List.replicate m false
end Go.Proofs.YtndhbnhobhkmaaaGreatDoor.Sf
