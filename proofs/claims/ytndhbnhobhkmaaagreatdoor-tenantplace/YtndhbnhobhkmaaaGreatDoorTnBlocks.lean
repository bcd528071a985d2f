/-
  A tenant that keeps its word: each object is a block that is had, charged what it costs; what each call leaves.
  A row of the tenant's blocks (address, size, usable bytes) that grows.
  What Blocks of a tenant answers: its objects, by rising addresses.
-/
import Derived.Test.YtndhbnhobhkmaaaGreatDoorTnMade
namespace Go.Proofs.YtndhbnhobhkmaaaGreatDoor
open Go.RowKit
open An
def csum(f:Int→Option (Int×Int)):List Int→Int
 |[]=>0
 |a::r=>((f a).getD (0,0)).2+csum f r
def Kys(f:Int→Option (Int×Int))(n:Nat)(cb:Int):Prop:=∃ks:List Int,ks.Nodup∧(∀a,a∈ks↔(f a).isSome=true)∧n=ks.length∧cb=csum f ks
theorem dz{f g:Int→Option (Int×Int)}:∀{ks:List Int},(∀a∈ks,((f a).getD (0,0)).2=((g a).getD (0,0)).2)→csum f ks=csum g ks
 |[],_=>rfl
 |a::r,h=>by
  show _+_=_+_
  rw[h a (List.mem_cons_self ..),dz fun b hb=>h b (List.mem_cons_of_mem _ hb)]
theorem fK{f:Int→Option (Int×Int)}{a:Int}:∀{ks:List Int},a∈ks→csum f ks=((f a).getD (0,0)).2+csum f (ks.erase a)
 |b::r,h=>by
  by_cases e:b=a
  ·subst e;rw[List.erase_cons_head];rfl
  ·rw[List.erase_cons_tail (by simpa using e)];have h2:a∈r:=(List.mem_cons.1 h).resolve_left fun k=>e k.symm
   show _+csum f r=_+(_+csum f (r.erase a))
   rw[fK h2];omega
theorem jw{f:Int→Option (Int×Int)}:∀{ks:List Int},(∀a∈ks,16≤((f a).getD (0,0)).2)→16 * (ks.length:Int)≤csum f ks
 |[],_=>by simp[csum]
 |a::r,h=>by
  have h1:=h a (List.mem_cons_self ..);have h2:=jw fun b hb=>h b (List.mem_cons_of_mem _ hb)
  show 16 * (((r.length+1:Nat)):Int)≤_+csum f r
  omega
section
variable{f:Int→Option (Int×Int)}{n:Nat}{cb a m ch:Int}{y:Int×Int}
theorem Kys.noneK:Kys (fun _=>none) 0 0:=⟨[],List.nodup_nil,fun a=>by simp,rfl,rfl⟩
theorem Kys.new(h:Kys f n cb)(ha:f a=none):Kys (fun z=>if z=a then some (m,ch) else f z) (n+1) (cb+ch):=by
 obtain⟨ks,h1,h2,h3,h4⟩:=h;have hn:a∉ks:=fun e=>by have:=(h2 a).1 e;rw[ha] at this;exact absurd this (by simp)
 refine⟨a::ks,List.nodup_cons.2 ⟨hn,h1⟩,fun z=> ?_,by rw[h3];rfl,?_⟩
 ·rw[List.mem_cons];show _↔(if z=a then some (m,ch) else f z).isSome=true;by_cases e:z=a
  ·subst e;simp
  ·rw[if_neg e,←h2 z];simp[e]
 ·show _=((if a=a then some (m,ch) else f a).getD (0,0)).2+csum _ ks
  have e2:csum (fun z=>if z=a then some (m,ch) else f z) ks=csum f ks:=dz fun b hb=>by
   have hne:b≠a:=fun e=>hn (by rw[←e];exact hb)
   simp only[if_neg hne]
  rw[if_pos rfl,h4,e2];show _=ch+_;omega
theorem Kys.del(h:Kys f n cb)(ha:f a=some y):Kys (fun z=>if z=a then none else f z) (n - 1) (cb+ -y.2):=by
 obtain⟨ks,h1,h2,h3,h4⟩:=h;have hm:a∈ks:=(h2 a).2 (by rw[ha];rfl);refine⟨ks.erase a,h1.erase a,fun z=> ?_,by rw[List.length_erase_of_mem hm,h3],?_⟩
 ·rw[h1.mem_erase_iff];show _↔(if z=a then none else f z).isSome=true;by_cases e:z=a
  ·subst e;simp
  ·rw[if_neg e,←h2 z];simp[e]
 ·have e2:csum (fun z=>if z=a then none else f z) (ks.erase a)=csum f (ks.erase a):=dz fun b hb=>by
   have hne:b≠a:=(h1.mem_erase_iff.1 hb).1;simp only[if_neg hne]
  rw[h4,fK hm,ha,e2];show y.2+_+ -y.2=_;omega
theorem Kys.size(h:Kys f n cb)(ha:f a=some y):Kys (fun z=>if z=a then some (m,y.2) else f z) n cb:=by
 obtain⟨ks,h1,h2,h3,h4⟩:=h;refine⟨ks,h1,fun z=> ?_,h3,?_⟩
 ·rw[h2 z];show _↔(if z=a then some (m,y.2) else f z).isSome=true;by_cases e:z=a
  ·subst e;simp[ha]
  ·rw[if_neg e]
 ·rw[h4];refine dz fun b _=> ?_
  by_cases e:b=a
  ·subst e;simp[ha]
  ·simp only[if_neg e]
theorem Kys.few(h:Kys f n cb)(hl:∀a y,f a=some y→16≤y.2)(hc:cb≤65536):n≤4096:=by
 obtain⟨ks,h1,h2,h3,h4⟩:=h;have:=jw (f:=f) (ks:=ks) fun a ha=>by
  obtain⟨y,hy⟩:=Option.isSome_iff_exists.1 ((h2 a).1 ha);rw[hy];exact hl a y hy
 omega
end
structure TnOk(x:Tp)(S:TnS)(b:Nat):Prop where
 q:Plain S.s
 lb:S.s.lb≤65536
 hc:Hc x.k S.M S.H
 ss:S.M.ss.length≤b
 id:0≤x.id∧x.id≤7
 cT:S.c.T=x.id
 ob:∀a y,S.f a=some y→∃c s j:Nat,HadB S.H.L c s j∧a=adI c s j∧y.2=ah c∧1≤y.1∧y.1≤y.2
 bo:∀c s j:Nat,HadB S.H.L c s j→(S.f (adI c s j)).isSome=true
 sl:∀z∈S.c.L,(S.f z.a).isSome=true
 ks:Kys S.f S.n S.s.cb
 pgs:S.M.has.length≤512
section
variable{x:Tp}{S:TnS}{b:Nat}{n a:Int}{y:Int×Int}
theorem TnOk.obj(h:TnOk x S b)(ha:S.f a=some y):∃c s j:Nat,HadB S.H.L c s j∧PlT c s j∧c≤23∧a=adI c s j∧y.2=ah c∧1≤y.1∧y.1≤y.2∧16≤y.2∧y.2≤8192∧131072≤a∧a+y.2≤3276800:=by
 obtain⟨c,s,j,hb,e,e2,e3,e4⟩:=h.ob a y ha;obtain⟨p,c2,_⟩:=hb.there h.hc.ok;have hu:=cD c (by omega) (by omega);have hi:=p.inside;exact⟨c,s,j,hb,p,c2,e,e2,e3,e4,by omega,by omega,by omega,by omega⟩
theorem TnOk.few(h:TnOk x S b):S.n≤4096:=h.ks.few (fun a y ha=>by obtain⟨_,_,_,_,_,_,_,_,_,_,h1,_⟩:=h.obj ha;exact h1) (by have:=h.q.ok.fb1;have:=h.q.rb;have:=h.lb;omega)
theorem TnOk.less(h:TnOk x S b){b':Nat}(hb:b≤b'):TnOk x S b':=⟨h.q,h.lb,h.hc,Nat.le_trans h.ss hb,h.id,h.cT,h.ob,h.bo,h.sl,h.ks,h.pgs⟩
theorem TnOk.maxLen(h:TnOk x S b):S.n<maxLen:=by have:=h.few;unfold Go.maxLen;omega
theorem TnOk.found(h:TnOk x S b){hh r:Int}(hf:Ka.fiE S.c hh r=0):∃y,S.f (Ka.fiV S.c hh r)=some y:=by
 unfold Ka.fiE at hf;unfold Ka.fiV;cases e:Ka.look S.c hh with
 |none=>rw[e] at hf;simp at hf
 |some z=>
  rw[e] at hf;simp only at hf ⊢;by_cases k:Ka.fiOk z r
  ·rw[if_pos k];exact Option.isSome_iff_exists.1 (h.sl z (Ka.ct e).1)
  ·rw[if_neg k] at hf;simp at hf
theorem tn_new{p:Nat}{l:List Int}{t q pg:Int}(cf:Cq.Cfg p x.k)(hl:l.length≤17592186044416)(hfit:fitE 0 q q pg=0)(ht:0≤x.id∧x.id≤7)(ht2:x.id=t)(h512:p≤512){s:Int}:TnOk x (newT (mN p) l t s q) 0:=by
 have hq:May q:=by
  unfold fitE at hfit;split at hfit
  ·omega
  ·unfold May;omega
 obtain⟨hp,hlb⟩:=Plain.new hq;exact⟨hp,(by show(Qt.newQ (okA q 0) (okB q 0)).lb≤_;rw[hlb];exact hq.2),uC cf hl,(by show(0:Nat)≤0;omega),ht,ht2.symm,fun a y e=>(by cases e),fun c s j hb=>(by obtain⟨x,hx,_⟩:=hb;cases hx),fun z hz=>(by cases hz),Kys.noneK,(by show(List.replicate p false).length≤512;simpa using h512)⟩
theorem TnOk.took(h:TnOk x S b)(hb:b≤800000){c s j:Nat}{M':Ms}{H':Hp}(hr:hM x.k S.M S.H n=(M',H',adI c s j,0))(g:Gave (fun q=>Cq.inW x.k S.H.W q=true) S.M S.H n M' H' (adI c s j) c s j)(hq:S.s.cb+ag n≤S.s.lb)(hk:0≤ofI n){C:Ka.Ct}(hC:C.T=S.c.T∧∀z∈C.L,z∈S.c.L∨z.a=adI c s j):
  TnOk x { owS (S.took M' H' (ag n)) (adI c s j) n with c:=C } (b+2)∧S.f (adI c s j)=none∧ag n=ah c∧1≤n∧n≤ah c:=by
 have hn1:1≤n∧n≤8192:=by
  by_cases k:n<1∨8192<n
  ·have:=(bP n).2 k;omega
  ·omega
 have hch:ag n=ah c:=by rw[cy n hn1.1 hn1.2,g.kd]
 have hfits:n≤ah c:=by rw[←g.kd];exact kb n hn1.1 hn1.2
 obtain⟨t1,t2,t3⟩:=zY h.q h.hc hr (Nat.le_trans h.ss hb) hq (by omega);have hbn:HadB H'.L c s j:=(g.had c s j).2 (.inr ⟨rfl,rfl,rfl⟩);obtain⟨p0,_,_⟩:=hbn.there t2.ok;have hno:S.f (adI c s j)=none:=by
  cases e:S.f (adI c s j) with
  |none=>rfl
  |some y=>
   obtain⟨c',s',j',hb',e',_⟩:=h.ob _ y e;obtain⟨p1,_,_⟩:=hb'.there h.hc.ok;have:=p0.same p1 e';obtain⟨rfl,rfl,rfl⟩:c=c'∧s=s'∧j=j':=⟨by omega,by omega,by omega⟩;exact(g.new hb').elim
 have hss:=h.ss;have hlen:M'.has.length=S.M.has.length:=by
  have l1:=((iE (k:=x.k) (C:=fun q=>Cq.inW x.k S.H.W q=true) (fun _ e=>e) h.hc.ok h.hc.ms n).ok h.hc.ok h.hc.ms).1.stp.len;rw[hr] at l1;exact l1
 have hpg:=h.pgs;refine⟨⟨t1,h.lb,t2,by show M'.ss.length≤_;omega,h.id,by show C.T=_;rw[hC.1];exact h.cT,fun a y e=> ?_,fun c' s' j' hb'=> ?_,fun z hz=> ?_,?_,by show M'.has.length≤_;omega⟩,hno,hch,hn1.1,hfits⟩
 ·have e':(if a=adI c s j then some (n,ag n) else S.f a)=some y:=e;by_cases k:a=adI c s j
  ·rw[if_pos k] at e';cases e';exact⟨c,s,j,hbn,k,hch,hn1.1,by show n≤ag n;omega⟩
  ·rw[if_neg k] at e';obtain⟨c',s',j',hb',e2,e3⟩:=h.ob a y e';exact⟨c',s',j',(g.had c' s' j').2 (.inl hb'),e2,e3⟩
 ·show(if adI c' s' j'=adI c s j then some (n,ag n) else S.f (adI c' s' j')).isSome=true;rcases(g.had c' s' j').1 hb' with k|⟨rfl,rfl,rfl⟩
  ·split
   ·rfl
   ·exact h.bo c' s' j' k
  ·rw[if_pos rfl];rfl
 ·show(if z.a=adI c s j then some (n,ag n) else S.f z.a).isSome=true;split
  ·rfl
  ·rename_i k;rcases hC.2 z hz with hz'|hz'
   ·exact h.sl z hz'
   ·exact(k hz').elim
 ·show Kys (fun z=>if z=adI c s j then some (n,ag n) else S.f z) (if(S.f (adI c s j)).isSome then S.n else S.n+1) (S.s.cb+ag n)
  rw[hno];exact h.ks.new hno
end
end Go.Proofs.YtndhbnhobhkmaaaGreatDoor
namespace Go.Proofs.YtndhbnhobhkmaaaGreatDoor.Bk
open Go.RowKit
def BkAt(w:World)(ad:Option Addr)(ss:List (Int×Int×Int)):Prop:=∀i (h:i<ss.length),∃b off,ad=some ⟨b,off,none⟩∧b<w.heap.size∧w.cell? ⟨b,off+i * 3,none⟩=some (.int .i64 (ss[i]).1)∧w.cell? ⟨b,off+i * 3+1,none⟩=some (.int .i64 (ss[i]).2.1)∧w.cell? ⟨b,off+i * 3+2,none⟩=some (.int .i64 (ss[i]).2.2)
def qk(x:(Int×Int×Int)):List Value:=[.int .i64 x.1,.int .i64 x.2.1,.int .i64 x.2.2]
def qc(L:List (Int×Int×Int)):List Value:=L.flatMap qk
theorem gY(x:(Int×Int×Int))(L:List (Int×Int×Int)):qc (x::L)=.int .i64 x.1:: .int .i64 x.2.1:: .int .i64 x.2.2::qc L:=rfl
theorem cZ(l m:List (Int×Int×Int)):qc (l++m)=qc l++qc m:=by simp[qc]
theorem ly(L:List (Int×Int×Int)):∀u∈qc L,u.oneCell'=true:=by
 intro u hu;simp only[qc,List.mem_flatMap,qk] at hu;obtain⟨x,_,hx⟩:=hu;simp at hx;rcases hx with rfl|rfl|rfl<;>rfl
theorem sU:∀(L:List (Int×Int×Int)) (k:Nat) (h:k<L.length),(qc L)[k * 3]? =some (.int .i64 L[k].1)∧(qc L)[k * 3+1]? =some (.int .i64 L[k].2.1)∧(qc L)[k * 3+2]? =some (.int .i64 L[k].2.2)
 |x::L,0,_=>by simp[gY]
 |x::L,k+1,h=>by
  have:=sU L k (by simpa using h);rw[gY];simpa [Nat.add_mul,Nat.add_right_comm _ 3] using this
theorem qf:∃i,Tryz.prog.info? 58=some i∧i.zero=some (.agg #[.int .i64 0,.int .i64 0,.int .i64 0])∧i.size=3∧i.bytes=24:=by
 have h:(Tryz.prog.info? 58).map (fun i=>(i.zero,i.size,i.bytes))=some (some (.agg #[.int .i64 0,.int .i64 0,.int .i64 0]),3,24):=by kernel_rfl
 cases hq:Tryz.prog.info? 58 with
 |none=>rw[hq] at h;cases h
 |some i=>
  rw[hq] at h;simp only[Option.map_some,Option.some.injEq,Prod.mk.injEq] at h;exact⟨i,rfl,h.1,h.2.1,h.2.2⟩
structure Gr3(w wr:World)(y:Value)(L:List (Int×Int×Int)):Prop where
 row:wr.ownsRow w.heap.size 58 3 y L.length (qc L)
 fr:Fr (fun k=>w.heap.size≤k) w wr
section
variable{w wr:World}{y:Value}{L:List (Int×Int×Int)}
theorem Gr3.start(w:World):Gr3 w w (.slice none 0 0) []:=⟨⟨rfl,.inl ⟨rfl,rfl⟩⟩,Fr.refl _ _⟩
theorem Gr3.le(h:Gr3 w wr y L):w.heap.size≤wr.heap.size:=h.fr.size
theorem Gr3.kept{w':World}(h:Gr3 w wr y L)(f:Fr (fun _=>False) wr w'):Gr3 w w' y L:=⟨pj h.row f fun _ _=>id,Fr.trans' h.fr f fun _ _ e=>e.elim⟩
theorem Gr3.form(h:Gr3 w wr y L):∃ad cap,y=.slice ad L.length cap:=by
 rcases h.row.2 with⟨e1,e2⟩|⟨g,cap,cur,e1,_⟩
 ·exact⟨none,0,by rw[e2];exact e1⟩
 ·exact⟨_,cap,e1⟩
theorem Gr3.vU{ad:Option Addr}{n cap:Nat}(h:Gr3 w wr (.slice ad n cap) L):BkAt wr ad L∧∀b off,ad=some ⟨b,off,none⟩→0<L.length→w.heap.size≤b:=by
 refine⟨fun i hi=> ?_,fun b off e h0=> ?_⟩
 ·rcases h.row.2 with⟨e1,e2⟩|⟨g,cap',cur,e1,hb,hc,_⟩
  ·omega
  ·simp only[Value.slice.injEq] at e1;obtain⟨rfl,_,_⟩:=e1;obtain⟨a0,a1,a2⟩:=sU L i hi;have hcell:∀j u,(qc L)[j]? =some u→wr.cell? ⟨g,j,none⟩=some u:=fun j u hu=>by
    have:=h.row.cells (g:=g) rfl j u hu
    rwa [add_plain,Nat.zero_add] at this
   refine⟨g,0,rfl,(Array.getElem?_eq_some_iff.1 hc).1,?_,?_,?_⟩
   ·rw[Nat.zero_add];exact hcell _ _ a0
   ·rw[Nat.zero_add];exact hcell _ _ a1
   ·rw[Nat.zero_add];exact hcell _ _ a2
 ·have:=h.row.lt b (by rw[e];rfl);exact this.1
end
theorem yW{w wr:World}{ops:Array Oper}{rest:List Oper}{o:Oper}{a:Act}{Q:Exit→Act→World→Prop}{y:Value}{L:List (Int×Int×Int)}{x:(Int×Int×Int)}(hgd:o.guard=none)(s t:Operand)
  (ho:o.op=.call { callee:=.builtin .append,args:=#[s,t],argTypes:=#[51,51] })
  (hG:Gr3 w wr y L)(hs:a.eval s=y)(ht:a.eval t=.slice (some ⟨wr.heap.size,0,none⟩) 1 1)(hl:L.length<100000)
  (h:∀w' y',Gr3 w w' y' (L++[x])→Fr (fun k=>y.ownBlock=some k) wr w'→wpList Tryz.prog ops Q rest (a.put o.dst y') w'):wpList Tryz.prog ops Q (o::rest) a (wr.alloc (.cells #[.int .i64 x.1,.int .i64 x.2.1,.int .i64 x.2.2] 58)):=by
 obtain⟨i0,hi,hz0,hz1,hz2⟩:=qf;have hbase:=hG.le;refine aE hgd s t 51 ho w.heap.size 58 i0 _ 3 24 Tryz.underlying51 hi hz0 hz1 hz2 rfl (by decide) y L.length (qc L) hs (hG.row.alloc _) ⟨wr.heap.size,0,none⟩ 1 1 (by decide) (qc [x]) ht rfl ?_ (ly [x]) (by unfold maxLen;omega) (by omega) (by simp;omega) ?_
 ·intro j u hj;rw[add_plain,Nat.zero_add];have e:qc [x]=[.int .i64 x.1,.int .i64 x.2.1,.int .i64 x.2.2]:=rfl;rw[e] at hj;simp only[World.cell?,heap_alloc_new];simpa using hj
 ·intro g cap w' hown hg _;refine h w' _ ⟨?_,?_⟩ ?_
  ·rw[cZ,List.length_append];exact hown
  ·exact(hG.fr.alloc _).grown hg fun k e=>.inl (hG.row.lt k e).1
  ·exact((Fr.refl _ wr).alloc _).grown hg fun k e=>.inl e
end Go.Proofs.YtndhbnhobhkmaaaGreatDoor.Bk
namespace Go.Proofs.YtndhbnhobhkmaaaGreatDoor
open Go.RowKit Go.Maps Go.Sort Go.Shelf
open An
attribute [local go_sem] Qt.cX
theorem Br(mb:Option Nat)(W:World):CallsIn Fence.wide 5 Tryz.prog 42 #[.map mb] W fun e w'=>e=.returned (.func (.func 78) #[] #[.pointer (some ⟨W.heap.size,0,none⟩)])∧w'=W.alloc (.cells #[.map mb] 72):=AnyZI.keys_in Tryz.keysO Fence.wide 5 trivial rfl mb W
theorem uV{f:Int→Option (Int×Int)}{l1 l2:List Int}(h:l1.Perm l2):csum f l1=csum f l2:=by
 induction h with
 |nil=>rfl
 |cons a _ ih=>show _+_=_+_;rw[ih]
 |swap a b l=>show _+(_+_)=_+(_+_);omega
 |trans _ _ h1 h2=>exact h1.trans h2
section
variable{w:World}{B n:Nat}{f:Int→Option (Int×Int)}{ks:List Int}
theorem xh{D:DataW Unit}(hn:ks.Nodup)(hm:∀a,a∈ks↔(f a).isSome=true)(h1:w.ownsMap Tryz.prog 3 ij B n D)(h2:Do D f n):ks.Perm (intKeys D):=by
 have hc:CollectedI D (fun _=>false) ks:=by
  refine⟨hn,fun x=> ?_⟩;rw[h2.1 x,hm x];simp
 exact hc.perm h1 bg Tryz.underlying3 fun _=>rfl
theorem qA(h:Oo w B n f n)(hn:n≤4096)(hk:ks.Nodup)(hm:∀a,a∈ks↔(f a).isSome=true):Calls Tryz.prog 41 #[.func (.func 78) #[] #[.pointer (some ⟨w.heap.size,0,none⟩)]] (w.alloc (.cells #[.map (some B)] 72)) fun e w'=>∃ad cap ss,ss.Perm ks∧e=.returned (.slice ad (List.length ss) cap)∧az w' ad ss∧Fr (fun _=>False) w w':=by
 obtain⟨D,hown,hD⟩:=h;have hbl:=hown.lt;have hsz:Maps.size D=n:=hD.2.2;have HP:=hid (xh hk hm hown hD);have hseq:SeqGives Fence.wide 2 Tryz.prog 78 #[.pointer (some ⟨w.heap.size,0,none⟩)] encZ (fun ss=>ss.Perm (intKeys D)) (Maps.size D) (w.alloc (.cells #[.map (some B)] 72)):=
  AnyZI.keys_gives (ρ:=Tryz.ma) { Tryz.keysO with } Fence.wide _ trivial rfl (by omega) w.heap.size B n D _ (by simp) (by simp) (by
   obtain⟨es,clock,hb,Ft,hs,hD⟩:=hown;exact⟨es,clock,(Below.heap_alloc _ _ B hbl).trans hb,Ft,hs,hD⟩)
 have cS:=AnyZI.sorted_in Tryz.mX Fence.wide 5 trivial trivial trivial trivial rfl (by omega) (sC _) (enters_of Tryz.func77 (by kernel_rfl) rfl) 78 #[.pointer (some ⟨w.heap.size,0,none⟩)] trivial (enters_of Tryz.func78 (by kernel_rfl) rfl) _ _ (by unfold maxLen;omega) (by omega) _ hseq
 change CallsIn _ _ Tryz.prog 41 _ _ _ at cS
 refine((callsIn_wide (n:=5)).1 cS).mono ?_;rintro e w' ⟨v,ss,rfl,hS,hrow,hnil,hb⟩;have hl:=List.length_mergeSort ss (le:=fun x y=>decide (x≤y));rw[←hl] at hrow;have hp:=List.mergeSort_perm ss (fun x y=>decide (x≤y));generalize ss.mergeSort (fun x y=>decide (x≤y))=zs at *;have hrow2:w'.ownsRow w.heap.size 3 1 v zs.length (ic zs):=ownsRow_base_a hrow (by simp);obtain⟨ad,cap,rfl,h1,h2⟩:=fW hrow2;exact⟨ad,cap,zs,hp.trans (hS.trans HP.out.symm),rfl,h1,Fr.trans ((Fr.refl _ w).alloc _) (Fr.nv hb)⟩
end
theorem Bk.run3{w wr:World}{y:Value}{L:List (Int×Int×Int)}(hG:Bk.Gr3 w wr y L)(hl:L.length<100000)(x:Int×Int×Int)(ty:TypeId):∃y' w',(Builtin.append_ #[51,51] ty #[y,.slice (some ⟨wr.heap.size,0,none⟩) 1 1]).run Tryz.prog (wr.alloc (.cells #[.int .i64 x.1,.int .i64 x.2.1,.int .i64 x.2.2] 58))=.ok y' w'∧Bk.Gr3 w w' y' (L++[x])∧Fr (fun k=>y.ownBlock=some k) wr w':=by
 obtain⟨i0,hi,hz0,hz1,hz2⟩:=Bk.qf;have hbase:=hG.le;obtain⟨g,cap,w',hr,h2,h3,h4⟩:=bO (P:=Tryz.prog) (wr.alloc (.cells #[.int .i64 x.1,.int .i64 x.2.1,.int .i64 x.2.2] 58)) w.heap.size 51 ty 58 i0 _ 3 24 Tryz.underlying51 hi hz0 hz1 hz2 rfl (by decide) y L.length (Bk.qc L) (hG.row.alloc _) ⟨wr.heap.size,0,none⟩ 1 1 (by decide) (Bk.qc [x]) rfl (fun j u hj=>by
  rw[add_plain,Nat.zero_add];have e:Bk.qc [x]=[.int .i64 x.1,.int .i64 x.2.1,.int .i64 x.2.2]:=rfl;rw[e] at hj;simp only[World.cell?,heap_alloc_new];simpa using hj) (Bk.ly [x]) (by unfold maxLen;omega) (by omega) (by simp;omega)
 refine⟨_,w',hr,⟨?_,(hG.fr.alloc _).grown h3 fun k e=>.inl (hG.row.lt k e).1⟩,((Fr.refl _ wr).alloc _).grown h3 fun k e=>.inl e⟩;rw[Bk.cZ,List.length_append];exact h2
def dU(f:Int→Option (Int×Int))(a:Int):Int×Int×Int:=(a,((f a).getD (0,0)).1,((f a).getD (0,0)).2)
section
variable{W w:World}{x:Tp}{S:TnS}{ts:List (World→(Nat→Prop)→Prop)}
theorem rj{y:Value}{L:List (Int×Int×Int)}{wr:World}(g:aa W w (tnl x S ts))(h:Bk.Gr3 w wr y L):aa W wr (tnl x S ts):=g.kept (Fr.new h.fr)
set_option maxRecDepth 20000 in
set_option maxHeartbeats 2000000 in
theorem wO(g:aa W w (tnl x S ts)){b:Nat}(ok:TnOk x S b):Calls Tryz.prog 18 #[.pointer (some ⟨x.T,0,none⟩)] w fun e w'=>∃y zs,zs.Nodup∧(∀a,a∈zs↔(S.f a).isSome=true)∧S.s.cb=csum S.f zs∧e=.returned y∧Bk.Gr3 w w' y (zs.map (dU S.f))∧aa W w' (tnl x S ts):=by
 obtain⟨ks,k1,k2,k3,k4⟩:=ok.ks;have hfew:=ok.few;have hO:=hid fun a y (e:S.f a=some y)=>ok.obj e
 have c7:=ak g 7 rfl;have HS:=hid (qA (g.oo 3 rfl) hfew k1 k2);have HK:=hid (callsIn_wide.1 (Br (some x.B) w));have G:=hid g;clear g ok;go_enter Tryz.func18,Tryz.ntmps18;go_wp2_with fail;refine HK.out.mono ?_;rintro e w1 ⟨rfl,rfl⟩;go_wp2_with fail;refine HS.out.mono ?_;rintro e w1 ⟨ad,cap,zs,hz,rfl,hN,f1⟩;have HN:=hid hN;have F1:=hid f1;have HZ:=hid hz;clear hN f1 hz HS HK c7;go_wp2;have g1:=G.out.kept F1.out;have HT:Hid (∀wr y L,Bk.Gr3 w1 wr y L→aa W wr (tnl x S ts)):=fun wr y L h=>rj (hid g1).out h
 have HY:Hid (∀k (hk:k<zs.length),∃y,S.f zs[k]=some y∧I64 zs[k]∧Rt y.2 0):=fun k hk=>by
  obtain⟨y,hy⟩:=Option.isSome_iff_exists.1 ((k2 _).1 ((HZ.out.mem_iff).1 (List.getElem_mem hk)));obtain⟨c,s,j,_,_,_,_,_,_,_,y0,y1,y2,y3⟩:=hO.out _ _ hy;exact⟨y,hy,by unfold I64;omega,by unfold Rt;omega⟩
 have HL:zs.length≤4096:=by rw[HZ.out.length_eq,←k3];exact hfew
 have HZN:Hid (zs.Nodup∧(∀a,a∈zs↔(S.f a).isSome=true)∧S.s.cb=csum S.f zs):=⟨(HZ.out.nodup_iff).2 k1,fun a=>(HZ.out.mem_iff).trans (k2 a),by rw[k4];exact(uV HZ.out).symm⟩;clear g1 G k1 k2 k3 k4 hO HZ hfew;go_loopw [3,16] (fun y i wr=>∃(k:Nat),k≤zs.length∧i=.int .i64 (k:Int)∧Hid (Bk.Gr3 w1 wr y ((zs.take k).map (dU S.f)))) (fun _ i _=>zs.length - (intOf i).toNat)
 case atStart=>exact⟨0,by omega,by simp,Bk.Gr3.start w1⟩
 case round=>
  obtain⟨k,hk,rfl,HG⟩:=hrel;by_cases hlt:k<zs.length
  ·obtain⟨y,hy,hi,hr⟩:=HY.out k hlt;have gw:=HT.out _ _ _ HG.out;have c7:=ak gw 7 rfl;have hlk:=(gw.oo 3 rfl).look (aB hi.1 hi.2) hy;obtain⟨g,off,rfl,hgl,hcell⟩:=(HN.out.fr (Fr.new HG.out.fr)) k hlt;have hll:((zs.take k).map (dU S.f)).length<100000:=by rw[List.length_map,List.length_take];omega
   have H2:=hid fun w=>ft hr w
   have HE:Hid ((zs.take k).map (dU S.f)++[(zs[k],y.1,y.2)]=(zs.take (k+1)).map (dU S.f)):=by
    show _=_
    rw[List.take_add_one,List.getElem?_eq_getElem hlt,List.map_append];simp[dU,hy]
   have hkb:decide (((k:Nat):Int)<(zs.length:Int))=true:=by simp;omega
   have hw1:IntKind.i64.wrap ((k:Int)+1)=(k:Int)+1:=by rw[IntKind.wrap_i64];omega
   have HM:=hid (show zs.length - (k+1)<zs.length - k by omega);clear gw hr hy hi HY HT HN HZN;generalize zs[k]=v at *;generalize (zs.take k).map (dU S.f)=L at *;unfold obV at hlk;generalize y.2=y2 at *;generalize y.1=y1 at *;generalize fb y2=xb at *;generalize fb 0=yb at *;have HOB:=hid fun k (e:u3.ownBlock=some k)=>(HG.out.row.lt k e).2
   have HG1:=hid (HG.out.kept ((Fr.refl _ wr).alloc (.cells #[.int .i64 y1,.complex .f64 xb yb] 81)));have s0:(wr.alloc (.cells #[.int .i64 y1,.complex .f64 xb yb] 81)).cell? ⟨wr.heap.size,0,none⟩=some (.int .i64 y1):=by simp only[World.cell?,heap_alloc_new];rfl
   have s1:(wr.alloc (.cells #[.int .i64 y1,.complex .f64 xb yb] 81)).cell? ⟨wr.heap.size,1,none⟩=some (.complex .f64 xb yb):=by simp only[World.cell?,heap_alloc_new];rfl
   have hsz:wr.heap.size<(wr.alloc (.cells #[.int .i64 y1,.complex .f64 xb yb] 81)).heap.size:=by simp
   go_wp2_with fail;clear c7 hlk hcell hgl HG;generalize wr.alloc (.cells #[.int .i64 y1,.complex .f64 xb yb] 81)=wz at *;generalize wr.heap.size=B at *;have HB:Hid (∀wc,Fr (fun _=>False) wz wc→Calls Tryz.prog 28 #[.complex .f64 xb yb] wc fun e w'=>e=.returned (.int .i64 y2)∧(w'.cell? ⟨B,0,none⟩=some (.int .i64 y1)∧w'.cell? ⟨B,1,none⟩=some (.complex .f64 xb yb))∧∃y' w'',(Builtin.append_ #[51,51] 51 #[u3,.slice (some ⟨w'.heap.size,0,none⟩) 1 1]).run Tryz.prog (w'.alloc (.cells #[.int .i64 v,.int .i64 y1,.int .i64 y2] 58))=.ok y' w''∧(w''.cell? ⟨B,0,none⟩=some (.int .i64 y1)∧w''.cell? ⟨B,1,none⟩=some (.complex .f64 xb yb))∧Bk.Gr3 w1 w'' y' (L++[(v,y1,y2)])):=fun wc fc=>by
    refine(H2.out wc).mono ?_;rintro e w' ⟨rfl,m,rfl⟩;have f:=fc.drewN m;obtain⟨y',w'',hr,hg,hf⟩:=Bk.run3 (HG1.out.kept f) hll (v,y1,y2) 51;have hB:¬(u3.ownBlock=some B):=fun e=>absurd (HOB.out B e) (by omega)
    exact⟨rfl,⟨(World.cell?_of_block (f.block B hsz id)).trans s0,(World.cell?_of_block (f.block B hsz id)).trans s1⟩,y',w'',hr,⟨(World.cell?_of_block (hf.block B (by have:=f.size;omega) hB)).trans ((World.cell?_of_block (f.block B hsz id)).trans s0),(World.cell?_of_block (hf.block B (by have:=f.size;omega) hB)).trans ((World.cell?_of_block (f.block B hsz id)).trans s1)⟩,hg⟩
   clear H2 HG1;go_region_held3 (fun w'=>w'.cell? ⟨B,0,none⟩=some (.int .i64 y1)∧w'.cell? ⟨B,1,none⟩=some (.complex .f64 xb yb)) (first|exact⟨by with_reducible assumption,by with_reducible assumption⟩|go_keep) (first|(go_at_call 28;refine(HB.out _ (by first|exact(Fr.refl _ _).drew |exact Fr.refl _ _)).mono ?_;rintro e w4 ⟨rfl,⟨t0,t1⟩,y',w5,hrun,⟨q0,q1⟩,hg5⟩;have HG5:=hid hg5;clear hg5)|(refine od rfl (.tmp 26) (.tmp 34) _ _ rfl rfl rfl hrun ?_))
   all_goals
    go_wp2;go_roundw
   case rel=>exact⟨k+1,by omega,by simp,by rw[←HE.out];exact HG5.out⟩
   case measure=>simp only[intOf];exact HM.out
  ·obtain rfl:k=zs.length:=by omega
   have hkb:decide (((zs.length:Nat):Int)<(zs.length:Int))=false:=by simp
   have gw:=hid (HT.out _ _ _ HG.out);have HG2:Hid (Bk.Gr3 w1 wr u3 (zs.map (dU S.f))):=by have:=HG.out;rw[List.take_length] at this;exact this
   clear HG HT HY HN;go_wp2;go_ret;exact⟨u3,zs,HZN.out.1,HZN.out.2.1,HZN.out.2.2,by simp,⟨ownsRow_base_a HG2.out.row F1.out.size,Fr.trans' (F1.out.mono fun _ _ e=>e.elim) HG2.out.fr fun k _ e=>Nat.le_trans F1.out.size e⟩,gw.out⟩
end
end Go.Proofs.YtndhbnhobhkmaaaGreatDoor
