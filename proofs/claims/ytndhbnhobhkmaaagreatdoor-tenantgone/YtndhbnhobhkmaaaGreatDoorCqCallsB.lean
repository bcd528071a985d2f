/-
  The document's map of pages in memory; lists of numbers that come in.
  The document's map of pages: what each of its calls answers and leaves.
  The document's configurations: which may be; a new map.
  Pages by their colours, a shelf a colour: how the shelves' answers make up the map's. Nothing of the program is named here.
  A copy of a list: 'append([]int{}, l...)', of any length.
  The program's map in memory: a row of shelves, a colour each.
  What the calls of package colour do that ask of one page or of none: contracts, at the landed code.
  What the calls of package colour do to a page.
-/
import Derived.Test.YtndhbnhobhkmaaaGreatDoorHpPages
set_option maxRecDepth 20000
namespace Go.Proofs.YtndhbnhobhkmaaaGreatDoor.Cq
open Go.RowKit
def aA(w:World)(ad:Option Addr)(l:List Int):Prop:=∀i (h:i<l.length),∃b off,ad=some ⟨b,off,none⟩∧b<w.heap.size∧w.cell? ⟨b,off+i,none⟩=some (.int .i64 l[i])
theorem aA.fr{w w':World}{ad:Option Addr}{l:List Int}(h:aA w ad l)(hf:Fr (fun _=>False) w w'):aA w' ad l:=fun i hi=>by
 obtain⟨b,off,h1,h2,h3⟩:=h i hi;exact⟨b,off,h1,by have:=hf.size;omega,(World.cell?_of_block (hf.block b h2 (fun h=>h))).trans h3⟩
theorem frOf{w w':World}(f:∃m,w'=w.drewN m):Fr (fun _=>False) w w':=by obtain⟨m,rfl⟩:=f;exact(Fr.refl _ w).drewN m
def bl(l:List Bool):List Value:=l.map Value.bool
section
variable{w w':World}{r t k:Nat}{has:List Bool}
end
section
variable{w:World}{r t k:Nat}{has:List Bool}{ad:Option Addr}{l:List Int}
end
structure Cf(w:World)(B:Nat)(n k:Int):Prop where
 heap:w.heap[B]? =some (.cells #[.int .i64 n,.int .i64 k] 23 (0,0))
section
variable{w w':World}{B:Nat}{n k:Int}
theorem Cf.new(w:World)(n k:Int):Cf (w.alloc (.cells #[.int .i64 n,.int .i64 k] 23)) w.heap.size n k:=⟨heap_alloc_new w _⟩
theorem Cf.lt(h:Cf w B n k):B<w.heap.size:=(Array.getElem?_eq_some_iff.1 h.heap).1
theorem Cf.carry{S:Nat→Prop}(h:Cf w B n k)(f:Fr S w w')(hn:¬S B):Cf w' B n k:=⟨by rw[f.block B h.lt hn];exact h.heap⟩
theorem Cf.kept(h:Cf w B n k)(f:Fr (fun _=>False) w w'):Cf w' B n k:=h.carry f id
theorem Cf.alloc(h:Cf w B n k)(o:Obj):Cf (w.alloc o) B n k:=h.kept ((Fr.refl _ _).alloc o)
theorem Cf.c0(h:Cf w B n k):w.cell? ⟨B,0,none⟩=some (.int .i64 n):=by simp[World.cell?,h.heap]
theorem Cf.c1(h:Cf w B n k):w.cell? ⟨B,1,none⟩=some (.int .i64 k):=by simp[World.cell?,h.heap]
end
end Go.Proofs.YtndhbnhobhkmaaaGreatDoor.Cq
namespace Go.Proofs.YtndhbnhobhkmaaaGreatDoor.Cq
def colL(k m:Nat)(has:List Bool)(c:Nat):List Bool:=(List.range m).map fun j=>has.getD (j * k+c) true
theorem br(k m:Nat)(has:List Bool)(c:Nat):(colL k m has c).length=m:=by simp[colL]
theorem dA{k m:Nat}{has:List Bool}{c j:Nat}(h:j<(colL k m has c).length):(colL k m has c)[j]=has.getD (j * k+c) true:=by simp[colL]
theorem dv{p k:Nat}(_hk:0<k):p=p / k * k+p % k:=by have:=Nat.div_add_mod p k;rw[Nat.mul_comm] at this;exact this.symm
theorem nC{c k j:Nat}(hc:c<k):(j * k+c) % k=c∧(j * k+c) / k=j:=by
 rw[Nat.add_comm,Nat.mul_comm];exact⟨by rw[Nat.add_mul_mod_self_left,Nat.mod_eq_of_lt hc],by rw[Nat.add_mul_div_left _ _ (by omega),Nat.div_eq_of_lt hc,Nat.zero_add]⟩
theorem nD{c k j m:Nat}(hc:c<k)(hj:j<m):j * k+c<m * k:=by
 have h:(j+1) * k≤m * k:=Nat.mul_le_mul_right k hj;rw[Nat.add_mul] at h;omega
theorem sQ{p k m:Nat}(_hk:0<k)(h:p<m * k):p / k<m:=Nat.div_lt_of_lt_mul (by rw[Nat.mul_comm];exact h)
theorem xX{k m:Nat}{has:List Bool}{p c:Nat}(b:Bool)(hk:0<k)(hl:has.length=m * k)(hp:p<m * k)(hc:c<k):colL k m (has.set p b) c=if p % k=c then(colL k m has c).set (p / k) b else colL k m has c:=by
 split
 ·rename_i e;apply List.ext_getElem (by simp[colL]);intro j h1 h2;rw[dA,List.getElem_set];rw[br] at h1;split
  ·rename_i ej;subst ej;have:p / k * k+c=p:=by rw[←e];exact(dv hk).symm
   rw[this,List.getD_eq_getElem?_getD,List.getElem?_set_self (by omega)];rfl
  ·rename_i ej;rw[dA];rw[List.getD_eq_getElem?_getD,List.getElem?_set_ne,←List.getD_eq_getElem?_getD];intro e2;apply ej;rw[e2];exact(nC hc).2
 ·rename_i e;unfold colL;apply List.map_congr_left;intro j hj;rw[List.getD_eq_getElem?_getD,List.getElem?_set_ne,←List.getD_eq_getElem?_getD];intro e2;apply e;rw[e2];exact(nC hc).1
theorem xY(k m c:Nat)(hc:c<k):colL k m (List.replicate (m * k) false) c=List.replicate m false:=by
 apply List.ext_getElem (by simp[colL]);intro j h1 h2;rw[br] at h1;rw[dA,List.getElem_replicate,List.getD_eq_getElem?_getD,List.getElem?_replicate,if_pos (nD hc h1)];rfl
def ofC(k:Nat)(has:List Bool)(c p:Nat):Bool:= !(has.getD p true)&&decide (p % k=c)
theorem AP{k m:Nat}{has:List Bool}{c:Nat}(hc:c<k):low (ofC k has c) (m * k)=if Sf.low (colL k m has c)<m then Sf.low (colL k m has c) * k+c else m * k:=by
 have hl:=br k m has c;have hbelow:∀i,i % k=c→i / k<Sf.low (colL k m has c)→i / k<m→has.getD i true=true:=fun i hi hb hm=>by
  have h1:=Sf.ir (colL k m has c) (i / k) hb (by omega);rw[dA,←hi,←dv (by omega)] at h1;exact h1
 split
 ·rename_i h;refine bO _ _ _ (nD hc h) ?_ fun i hi=> ?_
  ·have h1:=Sf.lV (colL k m has c) (by omega);rw[dA] at h1;unfold ofC;rw[h1,(nC hc).1];simp
  ·unfold ofC;by_cases e:i % k=c
   ·have e1:=dv (p:=i) (k:=k) (by omega);have:i / k<Sf.low (colL k m has c):=by
     refine Nat.lt_of_not_le fun hge=> ?_
     have:=Nat.mul_le_mul_right k hge;omega
    rw[hbelow i e this (by omega)];rfl
   ·simp[e]
 ·rename_i h;refine gj _ _ fun i hi=> ?_
  unfold ofC;by_cases e:i % k=c
  ·have hr:=sQ (by omega) hi;rw[hbelow i e (by have:=Sf.iq (colL k m has c);omega) hr];rfl
  ·simp[e]
theorem iq(f:Nat→Bool)(n:Nat):low f n≤n:=by rcases bG f n with⟨h,_⟩|⟨h,_⟩<;>omega
theorem low_or(f g:Nat→Bool)(n:Nat):low (fun p=>f p||g p) n=min (low f n) (low g n):=by
 have hf:=bG f n;have hg:=bG g n;have lf:=iq f n;have lg:=iq g n;by_cases h:min (low f n) (low g n)<n
 ·refine bO _ _ _ h ?_ fun i hi=> ?_
  ·by_cases h1:low f n≤low g n
   ·rw[Nat.min_eq_left h1] at h ⊢;rcases hf with⟨_,h2,_⟩|⟨h2,_⟩
    ·simp[h2]
    ·omega
   ·rw[Nat.min_eq_right (by omega)] at h ⊢;rcases hg with⟨_,h2,_⟩|⟨h2,_⟩
    ·simp[h2]
    ·omega
  ·have h1:f i=false:=by
    rcases hf with⟨_,_,h2⟩|⟨h2,h3⟩
    ·exact h2 i (by omega)
    ·exact h3 i (by omega)
   have h2:g i=false:=by
    rcases hg with⟨_,_,h2⟩|⟨h2,h3⟩
    ·exact h2 i (by omega)
    ·exact h3 i (by omega)
   simp[h1,h2]
 ·have:min (low f n) (low g n)=n:=by omega
  rw[this];refine gj _ _ fun i hi=> ?_
  have h1:f i=false:=by
   rcases hf with⟨_,_,h2⟩|⟨h2,h3⟩
   ·omega
   ·exact h3 i hi
  have h2:g i=false:=by
   rcases hg with⟨_,_,h2⟩|⟨h2,h3⟩
   ·omega
   ·exact h3 i hi
  simp[h1,h2]
theorem xq(k:Nat)(D:List Int)(c p:Nat):inW k (D++[(c:Int)]) p=(inW k D p||decide (p % k=c)):=by
 unfold inW;rw[List.any_append];congr 1;simp only[List.any_cons,List.any_nil,Bool.or_false];rw[Bool.eq_iff_iff];simp;omega
theorem qQ(k:Nat)(has:List Bool)(D:List Int)(c p:Nat):aX k has (D++[(c:Int)]) p=(aX k has D p||ofC k has c p):=by
 unfold aX ofC;rw[xq,Bool.and_or_distrib_left]
def Av(k:Nat)(acc:List Int)(x:Int):List Int:=if 0≤x∧x<k∧x∉acc then acc++[x] else acc
def aS(k:Nat)(win:List Int):List Int:=win.foldl (Av k) []
theorem jt{k:Nat}{win:List Int}{j:Nat}(h:j<win.length):aS k (win.take (j+1))=Av k (aS k (win.take j)) win[j]:=by
 unfold aS;rw[List.take_add_one,List.getElem?_eq_getElem h,List.foldl_append];rfl
theorem dz(k:Nat)(win:List Int):∀j:Nat,j≤win.length→(∀x∈aS k (win.take j),0≤x∧x<k)∧(aS k (win.take j)).Nodup∧∀x:Int,0≤x→x<k→(x∈aS k (win.take j)↔x∈win.take j)
 |0,_=>by simp[aS]
 |j+1,h=>by
  obtain⟨h1,h2,h3⟩:=dz k win j (by omega);rw[jt (by omega),List.take_add_one,List.getElem?_eq_getElem (by omega)];generalize aS k (win.take j)=D at *;generalize win[j]=y at *;generalize win.take j=l at *;unfold Av;split
  ·rename_i hy;refine⟨fun x hx=> ?_,?_,fun x hx0 hx1=> ?_⟩
   ·rcases List.mem_append.1 hx with h|h
    ·exact h1 x h
    ·simp at h;subst h;exact⟨hy.1,hy.2.1⟩
   ·rw[List.nodup_append];refine⟨h2,by simp,fun a ha b hb=> ?_⟩;simp at hb;subst hb;exact fun e=>hy.2.2 (e▸ha)
   ·simp[h3 x hx0 hx1]
  ·rename_i hy;refine⟨h1,h2,fun x hx0 hx1=> ?_⟩;simp only[Option.toList_some,List.mem_append,List.mem_singleton];constructor
   ·exact fun hx=>.inl ((h3 x hx0 hx1).1 hx)
   ·rintro(hx|hx)
    ·exact(h3 x hx0 hx1).2 hx
    ·subst hx;exact Decidable.byContradiction fun hn=>hy ⟨hx0,hx1,hn⟩
theorem aE:∀(k:Nat) (l:List Int),l.Nodup→(∀x∈l,0≤x∧x<(k:Int))→l.length≤k
 |0,l,_,h=>by
  cases l with
  |nil=>simp
  |cons x r=>have:=h x (by simp);omega
 |k+1,l,hn,h=>by
  have h1:=aE k (l.erase (k:Int)) (hn.erase _) fun x hx=>by
   rw[hn.mem_erase_iff] at hx;have:=h x hx.2;have:=hx.1;omega
  have:=List.length_erase (a:=(k:Int)) (l:=l);split at this<;>omega
theorem iH(k:Nat)(win:List Int)(j:Nat)(h:j≤win.length):(aS k (win.take j)).length≤k:=by
 obtain⟨h1,h2,_⟩:=dz k win j h;exact aE k _ h2 h1
section
variable{k:Nat}{has:List Bool}{win:List Int}
theorem uZ(hk:0<k)(p:Nat):inW k (aS k win) p=inW k win p:=by
 obtain⟨_,_,h3⟩:=dz k win win.length (Nat.le_refl _);rw[List.take_length] at h3;have hm:=Nat.mod_lt p hk;unfold inW;rw[Bool.eq_iff_iff,List.any_eq_true,List.any_eq_true];constructor
 ·rintro⟨x,hx,e⟩;have e':x=((p % k:Nat):Int):=by simpa using e
  exact⟨x,(h3 x (by omega) (by omega)).1 hx,e⟩
 ·rintro⟨x,hx,e⟩;have e':x=((p % k:Nat):Int):=by simpa using e
  exact⟨x,(h3 x (by omega) (by omega)).2 hx,e⟩
theorem oi(hk:0<k):aX k has (aS k win)=aX k has win:=by funext p;unfold aX;rw[uZ hk]
theorem rq(hk:0<k):takP k has (aS k win)=takP k has win:=by unfold takP;rw[oi hk]
end
def loI(k:Nat)(has:List Bool)(win:List Int):Int:=if takP k has win<has.length then(takP k has win:Int) else -1
section
variable{k m:Nat}{has:List Bool}{D:List Int}{c:Nat}
theorem AU:loI k has []= -1:=by
 unfold loI takP;rw[gj _ _ fun i _=>by simp[aX,inW]];simp
theorem wY(hl:has.length=m * k)(hc:c<k):loI k has (D++[(c:Int)])=if 0≤Sf.lowI (colL k m has c)∧(loI k has D<0∨Sf.lowI (colL k m has c) * k+c<loI k has D) then Sf.lowI (colL k m has c) * k+c else loI k has D:=by
 have e1:takP k has (D++[(c:Int)])=min (takP k has D) (low (ofC k has c) (m * k)):=by
  unfold takP;rw[show aX k has (D++[(c:Int)])=fun p=>aX k has D p||ofC k has c p from funext (qQ k has D c),low_or,hl]
 have l1:takP k has D≤has.length:=iq _ _;have l2:=br k m has c;rw[AP hc] at e1;unfold loI Sf.lowI;rw[e1,l2];by_cases h:Sf.low (colL k m has c)<m
 ·have hp:=nD hc h;simp only[h,if_true];rw[show((Sf.low (colL k m has c):Int) * (k:Int)+(c:Int))=((Sf.low (colL k m has c) * k+c:Nat):Int) by simp];generalize Sf.low (colL k m has c) * k+c=P at *;generalize takP k has D=T at *;by_cases hT:T<has.length
  ·rw[if_pos hT,if_pos (by omega)];by_cases h2:P<T
   ·rw[Nat.min_eq_right (by omega),if_pos (by omega)]
   ·rw[Nat.min_eq_left (by omega),if_neg (by omega)]
  ·rw[if_neg hT,Nat.min_eq_right (by omega),if_pos (by omega),if_pos (by omega)]
 ·simp only[h,if_false];rw[Nat.min_eq_left (by omega)]
  symm
  apply if_neg;omega
end
theorem eN{k m:Nat}{has:List Bool}{p:Nat}(hk:0<k)(hl:has.length=m * k)(hp:p<has.length):Sf.hasN (colL k m has (p % k)) ((p / k:Nat):Int)=true:=by
 have:=sQ hk (hl▸hp);rw[Sf.eI,br];exact⟨Int.natCast_nonneg _,Int.ofNat_lt.2 this⟩
theorem va{k m:Nat}{has:List Bool}{p:Nat}(hk:0<k)(hl:has.length=m * k)(hp:p<has.length):Sf.isT (colL k m has (p % k)) ((p / k:Nat):Int)=has.getD p true:=by
 have:=sQ hk (hl▸hp);unfold Sf.isT;rw[eN hk hl hp,Bool.true_and,Int.toNat_natCast,List.getD_eq_getElem?_getD,List.getElem?_eq_getElem (by rw[br];exact this),dA,←dv hk];rfl
end Go.Proofs.YtndhbnhobhkmaaaGreatDoor.Cq
namespace Go.Proofs.YtndhbnhobhkmaaaGreatDoor.Cq
open Go.RowKit
theorem Tryz.iy:(Tryz.prog.info? 3).map (fun i=>(i.zero,i.size,i.bytes))=some (some (.int .i64 0),1,8):=by kernel_rfl
def ic(l:List Int):List Value:=l.map fun x=>Value.int .i64 x
theorem iz(l:List Int):(ic l).length=l.length:=by simp[ic]
theorem ue(l:List Int):∀u∈ic l,u.oneCell'=true:=by
 intro v hv;simp only[ic,List.mem_map] at hv;obtain⟨x,_,rfl⟩:=hv;rfl
theorem gg{w:World}{base g cap:Nat}{l:List Int}(h:w.ownsRow base 3 1 (.slice (some ⟨g,0,none⟩) l.length cap) l.length (ic l)):aA w (some ⟨g,0,none⟩) l:=fun i hi=>by
 refine⟨g,0,rfl,(h.lt g rfl).2,?_⟩;have:=h.cells (g:=g) rfl i (.int .i64 l[i]) (by simp[ic,hi]);rw[add_plain] at this;exact this
def Gr(w:World):Prop:=Sf.Tab w
theorem wo:∃i,Tryz.prog.info? 106=some i∧i.zero=some (.pointer none)∧i.size=1∧i.bytes=8:=by
 have h:(Tryz.prog.info? 106).map (fun i=>(i.zero,i.size,i.bytes))=some (some (.pointer none),1,8):=by kernel_rfl
 cases hq:Tryz.prog.info? 106 with
 |none=>rw[hq] at h;cases h
 |some i=>
  rw[hq] at h;simp only[Option.map_some,Option.some.injEq,Prod.mk.injEq] at h;exact⟨i,rfl,h.1,h.2.1,h.2.2⟩
def ptrs(j:Nat)(A:Nat→Nat):List Value:=(List.range j).map fun i=>Value.pointer (some ⟨A i,0,none⟩)
def upd{α:Type}(A:Nat→α)(j:Nat)(x:α)(i:Nat):α:=if i=j then x else A i
theorem bd{α:Type}(A:Nat→α)(j:Nat)(x:α):upd A j x j=x:=if_pos rfl
theorem bK{α:Type}(A:Nat→α){j i:Nat}(x:α)(h:i<j):upd A j x i=A i:=if_neg (by omega)
theorem wm(j:Nat)(A:Nat→Nat)(x:Nat):ptrs (j+1) (upd A j x)=ptrs j A++[.pointer (some ⟨x,0,none⟩)]:=by
 unfold ptrs;rw[List.range_succ,List.map_append];congr 1
 ·apply List.map_congr_left;intro i hi;rw[bK A x (by simpa using hi)]
 ·simp[bd]
def Blk(a:Nat)(v:Value)(j:Nat)(A B:Nat→Nat)(x:Nat):Prop:=x=a∨v.ownBlock=some x∨∃i,i<j∧(x=A i∨x=B i)
structure Cj(w:World)(base a:Nat)(v:Value)(m j:Nat)(A B:Nat→Nat)(col:Nat→List Bool):Prop where
 st:w.heap[a]? =some (.cells #[.int .i64 (m:Int),v] 105 (0,0))
 row:w.ownsRow base 106 1 v j (ptrs j A)
 sh:∀i,i<j→Sf.Sh w (A i) (B i) (col i)
 ne:∀i,i<j→A i≠a∧B i≠a∧v.ownBlock≠some (A i)∧v.ownBlock≠some (B i)∧∀i',i'<j→B i≠A i'∧(i'≠i→B i≠B i')
 na:v.ownBlock≠some a
 lo:base≤a∧∀i,i<j→base≤A i∧base≤B i
 b0:2<base
 tab:Sf.Tab w
section
variable{w w':World}{base a m j:Nat}{v:Value}{A B:Nat→Nat}{col:Nat→List Bool}
theorem Cj.lta(h:Cj w base a v m j A B col):a<w.heap.size:=(Array.getElem?_eq_some_iff.1 h.st).1
theorem Cj.low(h:Cj w base a v m j A B col){x:Nat}(hx:Blk a v j A B x):base≤x∧x<w.heap.size:=by
 rcases hx with rfl|hx|⟨i,hi,rfl|rfl⟩
 ·exact⟨h.lo.1,h.lta⟩
 ·exact h.row.lt x hx
 ·exact⟨(h.lo.2 i hi).1,(h.sh i hi).lta⟩
 ·exact⟨(h.lo.2 i hi).2,(h.sh i hi).ltb⟩
theorem eh{S:Nat→Prop}{e:TypeId}{size n:Nat}{xs:List Value}(h:w.ownsRow base e size v n xs)(f:Fr S w w')(hs:∀x,v.ownBlock=some x→¬S x):w'.ownsRow base e size v n xs:=by
 obtain⟨h1,h2⟩:=h;refine⟨h1,?_⟩;rcases h2 with h2|⟨g,cap,cur,rfl,hb,hc,rest⟩
 ·exact .inl h2
 ·exact .inr ⟨g,cap,cur,rfl,hb,by rw[f.block g (Array.getElem?_eq_some_iff.1 hc).1 (hs g rfl)];exact hc,rest⟩
theorem tq{base':Nat}{e:TypeId}{size n:Nat}{xs:List Value}(h:w.ownsRow base e size v n xs)(hb:base'≤base):w.ownsRow base' e size v n xs:=by
 obtain⟨h1,h2⟩:=h;refine⟨h1,?_⟩;rcases h2 with h2|⟨g,cap,cur,rfl,hb',hc,rest⟩
 ·exact .inl h2
 ·exact .inr ⟨g,cap,cur,rfl,by omega,hc,rest⟩
theorem Cj.carry{S:Nat→Prop}(h:Cj w base a v m j A B col)(f:Fr S w w')(hs:∀x,Blk a v j A B x→¬S x)(h0:¬S 2):Cj w' base a v m j A B col:=
 ⟨by rw[f.block a h.lta (hs a (.inl rfl))];exact h.st,eh h.row f (fun x hx=>hs x (.inr (.inl hx))),
  fun i hi=>(h.sh i hi).carry f (hs _ (.inr (.inr ⟨i,hi,.inl rfl⟩))) (hs _ (.inr (.inr ⟨i,hi,.inr rfl⟩))) h0,h.ne,h.na,h.lo,h.b0,h.tab.carry f h0⟩
theorem Cj.kept(h:Cj w base a v m j A B col)(f:Fr (fun _=>False) w w'):Cj w' base a v m j A B col:=h.carry f (fun _ _=>id) id
theorem Cj.down(h:Cj w base a v m j A B col):Cj w 3 a v m j A B col:=by
 have b:=h.b0;exact⟨h.st,tq h.row b,h.sh,h.ne,h.na,⟨by have:=h.lo.1;omega,fun i hi=>by have:=h.lo.2 i hi;omega⟩,by omega,h.tab⟩
theorem Cj.turn(h:Cj w base a v m j A B col){c:Nat}(hc:c<j){l:List Bool}(hs:Sf.Sh w' (A c) (B c) l)(f:Fr (fun i=>i=B c) w w'):Cj w' base a v m j A B (upd col c l):=by
 obtain⟨n1,n2,n3,n4,n5⟩:=h.ne c hc;have n0:¬2=B c:=by have:=(h.sh c hc).b0;omega
 refine⟨by rw[f.block a h.lta (fun e=>n2 e.symm)];exact h.st,eh h.row f (fun x hx e=>n4 (by rw[hx,e])),fun i hi=> ?_,h.ne,h.na,h.lo,h.b0,h.tab.carry f n0⟩;by_cases e:i=c
 ·subst e;rw[bd];exact hs
 ·rw[show upd col c l i=col i from if_neg e];exact(h.sh i hi).carry f (fun e2=>(n5 i hi).1 e2.symm) (fun e2=>(n5 i hi).2 e e2.symm) n0
theorem Cj.congr{col':Nat→List Bool}(h:Cj w base a v m j A B col)(e:∀i,i<j→col i=col' i):Cj w base a v m j A B col':=
 ⟨h.st,h.row,fun i hi=>by rw[←e i hi];exact h.sh i hi,h.ne,h.na,h.lo,h.b0,h.tab⟩
theorem Cj.c0(h:Cj w base a v m j A B col):w.cell? ⟨a,0,none⟩=some (.int .i64 (m:Int)):=by simp[World.cell?,h.st]
theorem Cj.c1(h:Cj w base a v m j A B col):w.cell? ⟨a,1,none⟩=some v:=by simp[World.cell?,h.st]
theorem Cj.cg{g cap:Nat}(h:Cj w base a (.slice (some ⟨g,0,none⟩) j cap) m j A B col){i:Nat}(hi:i<j):w.cell? ⟨g,i,none⟩=some (.pointer (some ⟨A i,0,none⟩)):=by
 rw[h.row.cellAt i (by omega)];simp[ptrs,hi]
theorem Cj.grow(h:Cj w base a v m j A B col){sa sb:Nat}{c:List Bool}(hs:Sf.Sh w sa sb c)(hn:∀x,Blk a v j A B x→x≠sa∧x≠sb)(hl:base≤sa∧base≤sb){o:Obj}{w2:World}{g cap:Nat}
  (hg:(w.alloc o).grownBy w2 v.ownBlock)(hr:w2.ownsRow base 106 1 (.slice (some ⟨g,0,none⟩) (j+1) cap) (j+1) (ptrs j A++[.pointer (some ⟨sa,0,none⟩)]))(hsep:v.ownBlock=some g∨g=(w.alloc o).heap.size):
  Cj (w2.setCell ⟨a,1,none⟩ (.slice (some ⟨g,0,none⟩) (j+1) cap)) base a (.slice (some ⟨g,0,none⟩) (j+1) cap) m (j+1) (upd A j sa) (upd B j sb) (upd col j c)∧Fr (fun x=>x=a∨v.ownBlock=some x) w (w2.setCell ⟨a,1,none⟩ (.slice (some ⟨g,0,none⟩) (j+1) cap)):=by
 have f2:Fr (fun x=>v.ownBlock=some x) w w2:=((Fr.refl _ w).alloc o).grown hg fun x e=>.inl e
 have f3:Fr (fun x=>x=a∨v.ownBlock=some x) w (w2.setCell ⟨a,1,none⟩ (.slice (some ⟨g,0,none⟩) (j+1) cap)):=(f2.mono fun x _ e=>.inr e).setCell (p:=⟨a,1,none⟩) (.inl rfl) _;have hva:g≠a:=by
  rcases hsep with e|e
  ·exact fun e2=>h.na (by rw[e,e2])
  ·have:=h.lta;simp at e;omega
 have hgx:∀x,x<w.heap.size→v.ownBlock≠some x→g≠x:=fun x hx hne=>by
  rcases hsep with e|e
  ·exact fun e2=>hne (by rw[e,e2])
  ·simp at e;omega
 have hnb:=hn a (.inl rfl);have h0a:¬(2=a∨v.ownBlock=some 2):=by
  rintro(e|e)
  ·have:=h.lo.1;have:=h.b0;omega
  ·have:=h.row.lt _ e;have:=h.b0;omega
 have hvs:v.ownBlock≠some sa∧v.ownBlock≠some sb:=⟨fun e=>(hn sa (.inr (.inl e))).1 rfl,fun e=>(hn sb (.inr (.inl e))).2 rfl⟩;have hab:sb≠sa:=by obtain⟨ws,cc,hw⟩:=hs;exact fun e=>hw.ne e.symm
 refine⟨⟨?_,?_,fun i hi=> ?_,fun i hi=> ?_,?_,⟨h.lo.1,fun i hi=> ?_⟩,h.b0,h.tab.carry f3 h0a⟩,f3⟩
 ·have e2:w2.heap[a]? =_:=(f2.block a h.lta h.na).trans h.st;rw[heap_setCell_same w2 a 1 _ _ _ e2];rfl
 ·rw[wm];exact eh hr (Fr.setCell (S:=fun x=>x=a) (p:=⟨a,1,none⟩) (Fr.refl _ _) rfl _) (fun x hx e=>hva (by simp only[Value.ownBlock,Option.some.injEq] at hx;omega))
 ·by_cases e:i=j
  ·subst e;rw[bd,bd,bd];refine hs.carry f3 ?_ ?_ h0a
   ·rintro(e|e)
    ·exact hnb.1 e.symm
    ·exact hvs.1 e
   ·rintro(e|e)
    ·exact hnb.2 e.symm
    ·exact hvs.2 e
  ·have hi':i<j:=by omega
   rw[bK A sa hi',bK B sb hi',bK col c hi'];obtain⟨n1,n2,n3,n4,n5⟩:=h.ne i hi';refine(h.sh i hi').carry f3 ?_ ?_ h0a
   ·rintro(e|e)
    ·exact n1 e
    ·exact n3 e
   ·rintro(e|e)
    ·exact n2 e
    ·exact n4 e
 ·have key:∀x,x<w.heap.size→v.ownBlock≠some x→(Value.slice (some ⟨g,0,none⟩) (j+1) cap).ownBlock≠some x:=fun x h1 h2 e=>hgx x h1 h2 (by simpa [Value.ownBlock] using e)
  by_cases e:i=j
  ·subst e;rw[bd,bd];refine⟨fun e=>hnb.1 e.symm,fun e=>hnb.2 e.symm,key _ hs.lta hvs.1,key _ hs.ltb hvs.2,fun i' hi'=> ?_⟩;by_cases e2:i'=i
   ·subst e2;rw[bd];exact⟨hab,fun e=>(e rfl).elim⟩
   ·have hi2:i'<i:=by omega
    rw[bK A sa hi2,bK B sb hi2];exact⟨fun e=>(hn _ (.inr (.inr ⟨i',hi2,.inl rfl⟩))).2 e.symm,fun _ e=>(hn _ (.inr (.inr ⟨i',hi2,.inr rfl⟩))).2 e.symm⟩
  ·have hi':i<j:=by omega
   rw[bK A sa hi',bK B sb hi'];obtain⟨n1,n2,n3,n4,n5⟩:=h.ne i hi';refine⟨n1,n2,key _ (h.sh i hi').lta n3,key _ (h.sh i hi').ltb n4,fun i' hi2=> ?_⟩;by_cases e2:i'=j
   ·subst e2;rw[bd,bd];have:=hn _ (.inr (.inr ⟨i,hi',.inr rfl⟩));exact⟨this.1,fun _=>this.2⟩
   ·have hi3:i'<j:=by omega
    rw[bK A sa hi3,bK B sb hi3];exact n5 i' hi3
 ·exact fun e=>hva (by simpa [Value.ownBlock] using e)
 ·by_cases e:i=j
  ·subst e;rw[bd,bd];exact hl
  ·have hi':i<j:=by omega
   rw[bK A sa hi',bK B sb hi'];exact h.lo.2 i hi'
end
def Cm(w:World)(a:Nat)(Z:Nat→Prop)(k:Nat)(has:List Bool):Prop:=
 ∃g cap m A B,Cj w 3 a (.slice (some ⟨g,0,none⟩) k cap) m k A B (colL k m has)∧has.length=m * k∧0<k∧k≤32∧has.length≤4096∧(∀x,Blk a (.slice (some ⟨g,0,none⟩) k cap) k A B x→Z x)∧∀x,Z x→x<w.heap.size
section
variable{w w':World}{a k:Nat}{Z:Nat→Prop}{has:List Bool}{ad:Option Addr}{l:List Int}
theorem Cm.zlt(h:Cm w a Z k has):∀i,Z i→i<w.heap.size:=by obtain⟨g,cap,m,A,B,h1,h2,h3,h4,h5,h6,h7⟩:=h;exact h7
theorem Cm.carry{S:Nat→Prop}(h:Cm w a Z k has)(f:Fr S w w')(hn:∀i,Z i→¬S i)(h0:¬S 2):Cm w' a Z k has:=by
 obtain⟨g,cap,m,A,B,h1,h2,h3,h4,h5,h6,h7⟩:=h;exact⟨g,cap,m,A,B,h1.carry f (fun x hx=>hn x (h6 x hx)) h0,h2,h3,h4,h5,h6,fun i hi=>by have:=h7 i hi;have:=f.size;omega⟩
theorem Cm.kept(h:Cm w a Z k has)(f:Fr (fun _=>False) w w'):Cm w' a Z k has:=h.carry f (fun _ _=>id) id
end
theorem Cm.made{w:World}{a base g cap m k:Nat}{A B:Nat→Nat}{col:Nat→List Bool}{has:List Bool}(h:Cj w base a (.slice (some ⟨g,0,none⟩) k cap) m k A B col)(hc:∀i,i<k→col i=colL k m has i)(hl:has.length=m * k)(hk:0<k)(hk2:k≤32)(h4:has.length≤4096):
  ∃Z:Nat→Prop,(∀i,Z i→base≤i)∧Cm w a Z k has:=
 ⟨Blk a (.slice (some ⟨g,0,none⟩) k cap) k A B,fun _ hi=>(h.low hi).1,g,cap,m,A,B,h.down.congr hc,hl,hk,hk2,h4,fun _ h=>h,fun _ hi=>(h.low hi).2⟩
theorem vh(n k:Int)(w:World):Calls Tryz.prog 54 #[.agg #[.int .i64 n,.int .i64 k]] w fun e w'=>e=.returned (.int .i64 (if Cfg n k then 0 else 12))∧Fr (fun _=>False) w w':=by
 have A:=Cf.new w n k;have c0:=A.c0;have c1:=A.c1;clear A;by_cases h1:1≤k
 ·by_cases h2:k≤32
  ·by_cases h3:1≤n
   ·by_cases h4:n≤4096
    ·have hmod:Int.tmod n k=n % k:=Int.tmod_eq_emod_of_nonneg (by omega);have hz:(k==0)=false:=by simp;omega
     have m0:=Int.emod_nonneg n (show k≠0 by omega);have m1:=Int.emod_lt_of_pos n (show 0<k by omega);have hw0:IntKind.i64.wrap (n % k)=n % k:=by rw[IntKind.wrap_i64];omega
     by_cases h5:n % k=0
     ·have he:Hid ((if Cfg n k then(0:Int) else 12)=0):=if_pos ⟨h1,h2,h3,h4,h5⟩;generalize (if Cfg n k then(0:Int) else 12)=v at *;generalize n % k=q at *;subst h5;go_enter Tryz.func54,Tryz.ntmps54;go_wp2;go_ret;exact⟨by rw[he.out];simp,(Fr.refl _ _).alloc _⟩
     ·have he:Hid ((if Cfg n k then(0:Int) else 12)=12):=if_neg fun h=>h5 h.2.2.2.2
      have hq:(n % k==0)=false:=by simpa using h5
      generalize (if Cfg n k then(0:Int) else 12)=v at *;generalize n % k=q at *;go_enter Tryz.func54,Tryz.ntmps54;go_wp2;go_ret;exact⟨by rw[he.out];simp,(Fr.refl _ _).alloc _⟩
    ·have he:Hid ((if Cfg n k then(0:Int) else 12)=12):=if_neg fun h=>h4 h.2.2.2.1
     generalize (if Cfg n k then(0:Int) else 12)=v at *;go_enter Tryz.func54,Tryz.ntmps54;go_wp2;go_ret;exact⟨by rw[he.out];simp,(Fr.refl _ _).alloc _⟩
   ·have he:Hid ((if Cfg n k then(0:Int) else 12)=12):=if_neg fun h=>h3 h.2.2.1
    generalize (if Cfg n k then(0:Int) else 12)=v at *;go_enter Tryz.func54,Tryz.ntmps54;go_wp2;go_ret;exact⟨by rw[he.out];simp,(Fr.refl _ _).alloc _⟩
  ·have he:Hid ((if Cfg n k then(0:Int) else 12)=12):=if_neg fun h=>h2 h.2.1
   generalize (if Cfg n k then(0:Int) else 12)=v at *;go_enter Tryz.func54,Tryz.ntmps54;go_wp2;go_ret;exact⟨by rw[he.out];simp,(Fr.refl _ _).alloc _⟩
 ·have he:Hid ((if Cfg n k then(0:Int) else 12)=12):=if_neg fun h=>h1 h.1
  generalize (if Cfg n k then(0:Int) else 12)=v at *;go_enter Tryz.func54,Tryz.ntmps54;go_wp2;go_ret;exact⟨by rw[he.out];simp,(Fr.refl _ _).alloc _⟩
section
variable{w w':World}{a k:Nat}{Z:Nat→Prop}{has:List Bool}
theorem vc(h:Cm w a Z k has)(p:Int):Calls Tryz.prog 139 #[.pointer (some ⟨a,0,none⟩),.int .i64 p] w fun e w'=>e=.returned (.bool (decide (0≤p∧p<has.length)))∧∃n,w'=w.drewN n:=by
 obtain⟨g,cap,m,A,B,h1,h2,h3,h4,h5,h6,h7⟩:=h;have c0:=h1.c0;have c1:=h1.c1;have hmul:(m:Int) * (k:Int)=(has.length:Int):=by rw[h2];simp
 have hw0:IntKind.i64.wrap (has.length:Int)=(has.length:Int):=by rw[IntKind.wrap_i64];omega
 clear h1 h2 h6 h7;generalize has.length=n at *;by_cases hp:0≤p
 ·have hd:decide (0≤p)=true:=decide_eq_true hp;go_enter Tryz.func139,Tryz.ntmps139;go_wp2;go_quiet (simp only[hmul,hw0]);go_wp2;go_ret;exact⟨by simp[hp],nq,rfl⟩
 ·have hd:decide (0≤p)=false:=decide_eq_false hp;go_enter Tryz.func139,Tryz.ntmps139;go_wp2;go_quiet (fail);go_wp2;go_ret;exact⟨by simp;omega,nq,rfl⟩
theorem Cm.drewN(h:Cm w a Z k has)(n:Nat):Cm (w.drewN n) a Z k has:=h.kept ((Fr.refl _ w).drewN n)
theorem eV(h:Cm w a Z k has)(p:Int):Calls Tryz.prog 98 #[.pointer (some ⟨a,0,none⟩),.int .i64 p] w fun e w'=>e=.returned (.int .i64 (colI has.length k p))∧∃n,w'=w.drewN n:=by
 have HT:=hid (vc h p);have HD:=hid fun n=>h.drewN n
 by_cases hp:0≤p∧p<has.length
 ·have e1:Hid (colI has.length k p=((p.toNat % k:Nat):Int)):=if_pos hp;rw[decide_eq_true hp] at HT;obtain⟨g,cap,m,A,B,h1,h2,h3,h4,h5,h6,h7⟩:=h;have c1:=fun n=>(h1.kept ((Fr.refl (fun _=>False) w).drewN n)).c1
  obtain⟨q,rfl⟩:∃q:Nat,p=(q:Int):=⟨p.toNat,by omega⟩;have hz:((k:Int)==0)=false:=by simp;omega
  have hmod:Int.tmod (q:Int) (k:Int)=((q % k:Nat):Int):=by rw[Int.tmod_eq_emod_of_nonneg (by omega)];simp
  have hlt:=Nat.mod_lt q h3;have hw0:IntKind.i64.wrap ((q % k:Nat):Int)=((q % k:Nat):Int):=by rw[IntKind.wrap_i64];omega
  rw[Int.toNat_natCast] at e1;generalize colI has.length k (q:Int)=v at *;generalize q % k=r at *;clear h1 h2 h6 h7 hp;go_enter Tryz.func98,Tryz.ntmps98;go_wp2_with fail;refine HT.out.mono ?_;rintro e w1 ⟨rfl,n1,rfl⟩;have c1':=c1 n1;go_wp2;go_ret;exact⟨by rw[e1.out];simp,n1,rfl⟩
 ·have e1:Hid (colI has.length k p= -1):=if_neg hp;rw[decide_eq_false hp] at HT;generalize colI has.length k p=v at *;clear h hp;go_enter Tryz.func98,Tryz.ntmps98;go_wp2_with fail;refine HT.out.mono ?_;rintro e w1 ⟨rfl,n1,rfl⟩;go_wp2;go_ret;exact⟨by rw[e1.out];simp,n1,rfl⟩
theorem yi(h:Cm w a Z k has)(p:Int):Calls Tryz.prog 98 #[.pointer (some ⟨a,0,none⟩),.int .i64 p] w fun e w'=>e=.returned (.int .i64 (colI has.length k p))∧Cm w' a Z k has∧Fr (fun _=>False) w w':=
 (eV h p).mono fun _ _ ⟨he,hn⟩=>⟨he,h.kept (frOf hn),frOf hn⟩
theorem zE(h:Cm w a Z k has):Calls Tryz.prog 100 #[.pointer (some ⟨a,0,none⟩)] w fun e w'=>e=.returned (.int .i64 (has.length / k:Nat))∧Cm w' a Z k has∧Fr (fun _=>False) w w':=by
 have HH:=hid h;obtain⟨g,cap,m,A,B,h1,h2,h3,h4,h5,h6,h7⟩:=h;have c0:=h1.c0;have e1:has.length / k=m:=by rw[h2];exact Nat.mul_div_cancel _ h3
 rw[e1];clear h1 h6 h7 h2 e1 h3 h4 h5;go_enter Tryz.func100,Tryz.ntmps100;go_wp2;go_ret;exact⟨by simp,HH.out,Fr.refl _ _⟩
end
section
variable{w w':World}{a k:Nat}{Z:Nat→Prop}{has:List Bool}
theorem eU(h:Cm w a Z k has){g cap m:Nat}{A B:Nat→Nat}(h1:Cj w 3 a (.slice (some ⟨g,0,none⟩) k cap) m k A B (colL k m has))(p:Nat)(hp:p<has.length)(hk:0<k)(hk2:k≤32)(h4:has.length≤4096):Calls Tryz.prog 200 #[.pointer (some ⟨a,0,none⟩),.int .i64 p] w fun e w'=>e=.returned (.tuple #[.pointer (some ⟨A (p % k),0,none⟩),.int .i64 (p / k:Nat)])∧∃n,w'=w.drewN n:=by
 have HT:=hid fun n=>eV (h.drewN n) p
 rw[show colI has.length k (p:Int)=((p % k:Nat):Int) from(if_pos (by omega)).trans (by rw[Int.toNat_natCast])] at HT;have hlt:=Nat.mod_lt p hk;have c1:=h1.c1;have cg:=h1.cg hlt;have hz:((k:Int)==0)=false:=by simp;omega
 have hdiv:Int.tdiv (p:Int) (k:Int)=((p / k:Nat):Int):=by rw[Int.tdiv_eq_ediv_of_nonneg (by omega)];simp
 have hle:p / k≤p:=Nat.div_le_self _ _;generalize A (p % k)=x at *;generalize p % k=r at *;generalize p / k=q at *;have hw0:IntKind.i64.wrap (q:Int)=(q:Int):=by rw[IntKind.wrap_i64];omega
 clear h h1;go_enter Tryz.func200,Tryz.ntmps200;go_wp2_with fail;go_quiet (first|(go_at_call 98;refine Calls.quiet_of (HT.out _)));go_wp2;go_ret2;exact⟨by simp,nq,rfl⟩
end
section
variable{w w':World}{a k:Nat}{Z:Nat→Prop}{has:List Bool}
theorem Cj.page{g cap m:Nat}{A B:Nat→Nat}(h1:Cj w 3 a (.slice (some ⟨g,0,none⟩) k cap) m k A B (colL k m has))(h2:has.length=m * k)(h3:0<k)(h4:k≤32)(h5:has.length≤4096)(h6:∀x,Blk a (.slice (some ⟨g,0,none⟩) k cap) k A B x→Z x)(h7:∀x,Z x→x<w.heap.size)
  {p:Nat}(hp:p<has.length)(b:Bool)(hs:Sf.Sh w' (A (p % k)) (B (p % k)) ((colL k m has (p % k)).set (p / k) b))(f:Fr (fun i=>i=B (p % k)) w w'):Cm w' a Z k (has.set p b)∧Fr Z w w':=by
 have hc:=Nat.mod_lt p h3;refine⟨⟨g,cap,m,A,B,(h1.turn hc hs f).congr fun i hi=> ?_,by simpa using h2,h3,h4,by simpa using h5,h6,fun x hx=>by have:=h7 x hx;have:=f.size;omega⟩,f.mono fun x _ e=>h6 x (.inr (.inr ⟨p % k,hc,.inr e⟩))⟩;rw[xX b h3 h2 (by omega) hi];unfold upd;split
 ·rename_i e;rw[if_pos e.symm,e]
 ·rename_i e;rw[if_neg (fun e2=>e e2.symm)]
theorem kD(p:Nat)(hp:p<has.length):has.getD p true=has.getD p false:=by
 rw[List.getD_eq_getElem?_getD,List.getD_eq_getElem?_getD,List.getElem?_eq_getElem hp];rfl
theorem c_give(h:Cm w a Z k has)(p:Int):Calls Tryz.prog 144 #[.pointer (some ⟨a,0,none⟩),.int .i64 p] w fun e w'=>e=.returned (.int .i64 (giE has p))∧Cm w' a Z k (giS has p)∧Fr Z w w':=by
 have HH:=hid h;have HT:=hid (vc h p);by_cases hp:0≤p∧p<has.length
 ·obtain⟨q,rfl⟩:∃q:Nat,p=(q:Int):=⟨p.toNat,by omega⟩;have hq:q<has.length:=by omega
  rw[decide_eq_true hp] at HT;have HC:=h;obtain⟨g,cap,m,A,B,h1,h2,h3,h4,h5,h6,h7⟩:=h;have H2:=hid fun n=>eU (HC.drewN n) (h1.kept ((Fr.refl (fun _=>False) w).drewN n)) q hq h3 h4 h5
  have hc:=Nat.mod_lt q h3;have H3:=hid fun n=>Sf.lA ((h1.sh (q % k) hc).drewN n) ((q / k:Nat):Int)
  have e1:Hid (Sf.giE (colL k m has (q % k)) ((q / k:Nat):Int)=giE has (q:Int)):=by
   show _=_
   unfold Sf.giE giE;rw[eN h3 h2 hq,if_pos rfl,va h3 h2 hq,kD q hq,if_pos hp,Int.toNat_natCast]
  have e2:Sf.giS (colL k m has (q % k)) ((q / k:Nat):Int)=(colL k m has (q % k)).set (q / k) false:=by
   unfold Sf.giS;rw[eN h3 h2 hq,if_pos rfl,Int.toNat_natCast]
  have e3:giS has (q:Int)=has.set q false:=by unfold giS;rw[if_pos hp,Int.toNat_natCast]
  have HP:=hid fun n (w':World)=>(h1.kept ((Fr.refl (fun _=>False) w).drewN n)).page (Z:=Z) (w':=w') h2 h3 h4 h5 h6 h7 hq false
  rw[e2] at H3;rw[e3];generalize (colL k m has (q % k)).set (q / k) false=l at *;generalize Sf.giE (colL k m has (q % k)) ((q / k:Nat):Int)=E at *;generalize A (q % k)=x at *;generalize q / k=y at *;clear h1 h6 h7 hp hc h2 h3 h4 h5 hq HC e2 e3 HH;go_enter Tryz.func144,Tryz.ntmps144;go_wp2_with fail;refine HT.out.mono ?_;rintro e w1 ⟨rfl,n1,rfl⟩;go_wp2_with fail;refine(H2.out n1).mono ?_;rintro e w2 ⟨rfl,n2,rfl⟩;go_wp2_with fail;refine(H3.out (n1+n2)).mono ?_;rintro e w3 ⟨rfl,hs3,f3⟩;have HR:=hid (HP.out (n1+n2) w3 hs3 f3);clear hs3 f3;go_wp2;go_ret;exact⟨by rw[←e1.out];simp,HR.out.1,Fr.trans ((Fr.refl Z w).drewN (n1+n2)) HR.out.2⟩
 ·have e1:Hid (giE has p=12):=by show _=_;unfold giE;rw[if_neg hp]
  have e2:giS has p=has:=by unfold giS;rw[if_neg hp]
  rw[decide_eq_false hp] at HT;rw[e2];generalize giE has p=v at *;clear h hp e2;go_enter Tryz.func144,Tryz.ntmps144;go_wp2_with fail;refine HT.out.mono ?_;rintro e w1 ⟨rfl,n1,rfl⟩;go_wp2;go_ret;exact⟨by rw[e1.out];simp,HH.out.drewN n1,(Fr.refl _ w).drewN n1⟩
end
end Go.Proofs.YtndhbnhobhkmaaaGreatDoor.Cq
