/-
  A family of things side by side, of which one turns; things taken together and apart. Nothing of the program is named here.
  A table of numbers by numbers (map[int]int) that the call, or an object, owns: looked up, stored, deleted, counted, walked over.
  A table of pages by numbers (map[int]*page.Page): looked up, stored, deleted. A page is told by its block.
  How many blocks of the document's page are had: counted, and as the document counts them.
  What the document's page does: Alloc.
  An arena as one thing in memory, more: bytes cleared, written, copied.
  What the document's page does: Has, Free.
  What the document's page does: New, Move.
  The document's page and its arena as one thing of several side by side: what each call leaves of it.
-/
import Derived.Test.YtndhbnhobhkmaaaGreatDoorViIn
import Derived.Maps.RangeWalk
namespace Go.Proofs.YtndhbnhobhkmaaaGreatDoor
open Go.RowKit
def Non(w:World)(Z:Nat→Prop):Prop:=∀i,Z i→i<w.heap.size
theorem Non.good:Good Non:=⟨fun h f _ i hi=>Nat.lt_of_lt_of_le (h i hi) f.size,fun _ _ h=>h⟩
def fset{α:Type}(P:Nat→α)(j:Nat)(x:α):Nat→α:=fun i=>if i=j then x else P i
theorem aq{α:Type}(P:Nat→α)(j:Nat)(x:α):fset P j x j=x:=if_pos rfl
theorem aM{α:Type}(P:Nat→α){j i:Nat}(x:α)(h:i≠j):fset P j x i=P i:=if_neg h
theorem BL{α:Type}(P:Nat→α)(j:Nat):fset P j (P j)=P:=by
 funext i;unfold fset;split
 ·rename_i e;rw[e]
 ·rfl
theorem mE{α:Type}(P:Nat→α)(j:Nat)(x y:α):fset (fset P j x) j y=fset P j y:=by
 funext i;unfold fset;split<;>rfl
def Fam(n:Nat)(P:Nat→World→(Nat→Prop)→Prop)(w:World)(U:Nat→Prop):Prop:=
 ∃o:Nat→Nat,(∀i,i<n→P i w (fun b=>o b=i+1∧U b))∧∀b,U b→b<w.heap.size
section
variable{n:Nat}{P P':Nat→World→(Nat→Prop)→Prop}{Q:World→(Nat→Prop)→Prop}{w w':World}{U:Nat→Prop}
theorem Fam.good(hP:∀i,Good (P i)):Good (Fam n P):=by
 classical
 refine⟨fun{w w' Z S} h f hs=> ?_,fun{w Z Z'} h k1 k2=> ?_⟩
 ·obtain⟨o,h1,h2⟩:=h;exact⟨o,fun i hi=>(hP i).carry (h1 i hi) f fun b hb=>hs b hb.2,fun b hb=>Nat.lt_of_lt_of_le (h2 b hb) f.size⟩
 ·obtain⟨o,h1,h2⟩:=h;refine⟨fun b=>if Z b then o b else 0,fun i hi=>(hP i).mono (h1 i hi) (fun b hb=>⟨?_,k1 b hb.2⟩) fun b hb=>k2 b hb.2,k2⟩;show(if Z b then o b else 0)=i+1;rw[if_pos hb.2];exact hb.1
theorem Fam.congr(h:Fam n P w U)(e:∀i,i<n→P i=P' i):Fam n P' w U:=by
 obtain⟨o,h1,h2⟩:=h;exact⟨o,fun i hi=>by rw[←e i hi];exact h1 i hi,h2⟩
theorem Fam.split(h:Fam n P w U)(hP:∀i,Good (P i)){j:Nat}(hj:j<n):Both (P j) (Fam n (fset P j Non)) w U:=by
 classical
 obtain⟨o,h1,h2⟩:=h;refine⟨fun b=>o b=j+1∧U b,fun b=>U b∧¬o b=j+1,h1 j hj,⟨o,fun i hi=> ?_,fun b hb=>h2 b hb.1⟩,fun b hb hn=>hn.2 hb.1,fun b hb=>hb.2,fun b hb=>hb.1,h2⟩;by_cases e:i=j
 ·subst e;rw[aq];exact fun b hb=>h2 b hb.2.1
 ·rw[aM P Non e];exact(hP i).mono (h1 i hi) (fun b hb=>⟨hb.1,hb.2,by have:=hb.1;omega⟩) fun b hb=>h2 b hb.2.1
theorem Fam.join{j:Nat}(h:Both Q (Fam n (fset P j Non)) w U)(hQ:Good Q)(hP:∀i,Good (P i)):Fam n (fset P j Q) w U:=by
 classical
 obtain⟨Z,Y,h1,⟨o,h2,h3⟩,h4,h5,h6,h7⟩:=h;refine⟨fun b=>if Z b then j+1 else if Y b∧o b≠j+1 then o b else 0,fun i hi=> ?_,h7⟩;by_cases e:i=j
 ·subst e;rw[aq];refine hQ.mono h1 (fun b hb=>⟨if_pos hb,h5 b hb⟩) fun b hb=>h7 b hb.2
 ·rw[aM P Q e];have hi2:=h2 i hi;rw[aM P Non e] at hi2;refine(hP i).mono hi2 (fun b hb=>⟨?_,h6 b hb.2⟩) fun b hb=>h7 b hb.2
  show(if Z b then j+1 else if Y b∧o b≠j+1 then o b else 0)=i+1;rw[if_neg fun hz=>h4 b hz hb.2,if_pos ⟨hb.2,by have:=hb.1;omega⟩];exact hb.1
theorem Fam.start(w:World)(n:Nat):Fam n (fun _=>Non) w (fun _=>False):=⟨fun _=>0,fun _ _ _ hb=>hb.2.elim,fun _ hb=>hb.elim⟩
end
section
variable{W w:World}{ts:List (World→(Nat→Prop)→Prop)}{P Q:World→(Nat→Prop)→Prop}{n i j:Nat}{F:Nat→World→(Nat→Prop)→Prop}
theorem aa.oe(h:aa W w ts)(hj:ts[j]? =some P):Good P:=by
 obtain⟨o,_,_,h3,_⟩:=h;exact h3 P (List.mem_of_getElem? hj)
theorem aa.merge(h:aa W w ts)(i j:Nat)(hi:ts[i]? =some P)(hj:ts[j]? =some Q)(_hne:i≠j):aa W w ((ts.set i (Both P Q)).set j Non):=by
 classical
 have gP:=h.oe hi;have gQ:=h.oe hj;obtain⟨o,h1,h2,h3,h4⟩:=h;have hil:=(List.getElem?_eq_some_iff.1 hi).1;have hjl:=(List.getElem?_eq_some_iff.1 hj).1;refine⟨fun b=>if o b=j+1 then i+1 else o b,⟨h1.nw,fun b hb=> ?_⟩,fun b=> ?_,fun R hR=> ?_,fun m R hm=> ?_⟩
 ·apply h1.dom;intro e;simp[e] at hb
 ·simp only[List.length_set];have:=h2 b;show(if o b=j+1 then i+1 else o b)≤_;split<;>omega
 ·rcases List.mem_or_eq_of_mem_set hR with e|rfl
  ·rcases List.mem_or_eq_of_mem_set e with e|rfl
   ·exact h3 R e
   ·exact Both.good gP gQ
  ·exact Non.good
 ·have hlt:∀b,(if o b=j+1 then i+1 else o b)=m+1→b<w.heap.size:=fun b hb=>by
   apply (h1.dom b _).2;intro e;simp[e] at hb
  rw[List.getElem?_set] at hm;split at hm
  ·rename_i e;subst e;simp only[List.length_set,hjl,if_true,Option.some.injEq] at hm;subst hm;exact hlt
  ·rename_i e;rw[List.getElem?_set] at hm;split at hm
   ·rename_i e2;subst e2;simp only[Option.some.injEq] at hm;subst hm;refine⟨lab o (i+1),lab o (j+1),h4 i P hi,h4 j Q hj,fun b a c=> ?_,fun b a=> ?_,fun b a=> ?_,hlt⟩
    ·have a:o b=i+1:=a;have c:o b=j+1:=c;omega
    ·have a:o b=i+1:=a;show(if o b=j+1 then i+1 else o b)=i+1;split
     ·rfl
     ·exact a
    ·have a:o b=j+1:=a;show(if o b=j+1 then i+1 else o b)=i+1;rw[if_pos a]
   ·rename_i e2;refine(h3 R (List.mem_of_getElem? hm)).mono (h4 m R hm) (fun b a=> ?_) hlt;have a:o b=m+1:=a;show(if o b=j+1 then i+1 else o b)=m+1;rw[if_neg (by omega)];exact a
theorem aa.apart(h:aa W w ts)(i j:Nat)(hi:ts[i]? =some (Both P Q))(hj:ts[j]? =some Non)(_hne:i≠j)(gP:Good P)(gQ:Good Q):aa W w ((ts.set i P).set j Q):=by
 classical
 obtain⟨o,h1,h2,h3,h4⟩:=h;have hil:=(List.getElem?_eq_some_iff.1 hi).1;have hjl:=(List.getElem?_eq_some_iff.1 hj).1;obtain⟨Z,Y,k1,k2,k3,k4,k5,k6⟩:=h4 i _ hi;refine⟨fun b=>if Z b then i+1 else if Y b then j+1 else if o b=i+1∨o b=j+1 then 0 else o b,⟨h1.nw,fun b hb=> ?_⟩,fun b=> ?_,fun R hR=> ?_,fun m R hm=> ?_⟩
 ·apply h1.dom;intro e;have z:¬Z b:=fun hz=>by have:o b=i+1:=k4 b hz;omega
  have y:¬Y b:=fun hz=>by have:o b=i+1:=k5 b hz;omega
  simp[e,z,y] at hb
 ·simp only[List.length_set];have:=h2 b;show(if Z b then i+1 else if Y b then j+1 else if o b=i+1∨o b=j+1 then 0 else o b)≤_;split
  ·omega
  ·split
   ·omega
   ·split<;>omega
 ·rcases List.mem_or_eq_of_mem_set hR with e|rfl
  ·rcases List.mem_or_eq_of_mem_set e with e|rfl
   ·exact h3 R e
   ·exact gP
  ·exact gQ
 ·have hlt:∀b,(if Z b then i+1 else if Y b then j+1 else if o b=i+1∨o b=j+1 then 0 else o b)=m+1→b<w.heap.size:=fun b hb=>by
   apply (h1.dom b _).2;intro e;have z:¬Z b:=fun hz=>by have:o b=i+1:=k4 b hz;omega
   have y:¬Y b:=fun hz=>by have:o b=i+1:=k5 b hz;omega
   simp[e,z,y] at hb
  rw[List.getElem?_set] at hm;split at hm
  ·rename_i e;subst e;simp only[List.length_set,hjl,if_true,Option.some.injEq] at hm;subst hm;refine gQ.mono k2 (fun b hb=> ?_) hlt;show(if Z b then i+1 else if Y b then j+1 else if o b=i+1∨o b=j+1 then 0 else o b)=j+1;rw[if_neg fun hz=>k3 b hz hb,if_pos hb]
  ·rename_i e;rw[List.getElem?_set] at hm;split at hm
   ·rename_i e2;subst e2;simp only[Option.some.injEq] at hm;subst hm;exact gP.mono k1 (fun b hb=>if_pos hb) hlt
   ·rename_i e2;refine(h3 R (List.mem_of_getElem? hm)).mono (h4 m R hm) (fun b a=> ?_) hlt;have a:o b=m+1:=a;show(if Z b then i+1 else if Y b then j+1 else if o b=i+1∨o b=j+1 then 0 else o b)=m+1;rw[if_neg fun hz=>by have:o b=i+1:=k4 b hz;omega,if_neg fun hz=>by have:o b=i+1:=k5 b hz;omega,if_neg (by omega)];exact a
theorem aa.da(h:aa W w ts)(i:Nat)(hi:ts[i]? =some (Both P Q))(gP:Good P)(gQ:Good Q):aa W w (ts.set i P++[Q]):=by
 have h0:aa W w (ts++[Non]):=h.more Non.good (Z:=fun _=>False) (fun _ e=>e.elim) (Fr.refl _ _) fun _ e=>e.elim
 have hil:=(List.getElem?_eq_some_iff.1 hi).1;have h1:=h0.apart i ts.length (P:=P) (Q:=Q) (by rw[List.getElem?_append_left hil];exact hi) (by simp) (by omega) gP gQ;rw[List.set_append_left _ _ hil,List.set_append_right _ _ (by simp)] at h1;simpa using h1
theorem aa.mem(h:aa W w ts)(j:Nat)(hj:ts[j]? =some (Fam n F))(hF:∀c,Good (F c))(hi:i<n)(hQ:Good Q){Pg:Program}{G:Nat}{args:Array Value}{R:Ending→Prop}
  (base:∀U,F i w U→Calls Pg G args w fun e w'=>R e∧∃U',Q w' U'∧Gw w w' U U'):Calls Pg G args w fun e w'=>R e∧aa W w' (ts.set j (Fam n (fset F i Q))):=by
 refine h.lift j hj (Fam.good fun c=> ?_) fun U hU=> ?_
 ·unfold fset;split
  ·exact hQ
  ·exact hF c
 ·obtain⟨Z,z1,_,z3⟩:=(hU.split hF hi).left (Fam.good fun c=>by unfold fset;split;exact Non.good;exact hF c);refine(base Z z1).mono ?_;rintro e w' ⟨he,Z',k1,k2⟩;obtain⟨U',u1,u2⟩:=z3 k1 k2;exact⟨he,U',Fam.join u1 hQ hF,u2⟩
theorem aa.vp(h:aa W w ts)(j:Nat)(hj:ts[j]? =some (Fam n F))(hi:i<n){Pg:Program}{G:Nat}{args:Array Value}{R:Ending→Prop}
  (base:∀U,F i w U→Calls Pg G args w fun e w'=>R e∧Fr (fun _=>False) w w'):Calls Pg G args w fun e w'=>R e∧Fr (fun _=>False) w w':=by
 obtain⟨U,⟨o,h1,_⟩,_⟩:=h.get j hj;exact base _ (h1 i hi)
theorem aa.pair(h:aa W w ts)(i j:Nat)(hi:ts[i]? =some P)(hj:ts[j]? =some (Fam n F))(hne:i≠j)(hF:∀c,Good (F c)){c:Nat}(hc:c<n){P':World→(Nat→Prop)→Prop}(hP':Good P')(hQ:Good Q){Pg:Program}{G:Nat}{args:Array Value}{R:Ending→Prop}
  (base:∀U,Both P (F c) w U→Calls Pg G args w fun e w'=>R e∧∃U',Both P' Q w' U'∧Gw w w' U U'):Calls Pg G args w fun e w'=>R e∧aa W w' ((ts.set i P').set j (Fam n (fset F c Q))):=by
 have gF:=h.oe hj;have hil:=(List.getElem?_eq_some_iff.1 hi).1;have hjl:=(List.getElem?_eq_some_iff.1 hj).1;have gQ:Good (Fam n (fset F c Q)):=Fam.good fun d=>by unfold fset;split;exact hQ;exact hF d
 have h1:=h.merge i j hi hj hne;have hg:((ts.set i (Both P (Fam n F))).set j Non)[i]? =some (Both P (Fam n F)):=by rw[List.getElem?_set_ne (fun e=>hne e.symm),List.getElem?_set_self hil]
 refine(h1.lift i hg (Both.good hP' gQ) (R:=R) fun U hU=> ?_).mono ?_
 ·have hs:Both P (Both (F c) (Fam n (fset F c Non))) w U:=hU.imp fun Y y=>y.split hF hc
  obtain⟨V,v1,_,v3⟩:=hs.rest (Fam.good fun d=>by unfold fset;split;exact Non.good;exact hF d);refine(base V v1).mono ?_;rintro e w' ⟨he,V',k1,k2⟩;obtain⟨U',u1,u2⟩:=v3 k1 k2;exact⟨he,U',u1.imp fun Y y=>Fam.join y hQ hF,u2⟩
 ·rintro e w' ⟨he,h2⟩;refine⟨he,?_⟩;have h3:=h2.apart i j (P:=P') (Q:=Fam n (fset F c Q)) (by rw[List.getElem?_set_self (by simp;exact hil)]) (by rw[List.getElem?_set_ne hne,List.getElem?_set_self (by simp;exact hjl)]) hne hP' gQ;have e2:(((((ts.set i (Both P (Fam n F))).set j Non).set i (Both P' (Fam n (fset F c Q)))).set i P').set j (Fam n (fset F c Q)))=(ts.set i P').set j (Fam n (fset F c Q)):=by
   rw[List.set_set,List.set_comm _ _ (fun e=>hne e.symm),List.set_set,List.set_set]
  rw[e2] at h3;exact h3
theorem aa.view{P P':World→(Nat→Prop)→Prop}(q:aa W w ts)(j:Nat)(hj:ts[j]? =some P)(hg:Good P')(hp:∀U,P w U→P' w U):aa W w (ts.set j P'):=by
 obtain⟨U,h1,h2,h3⟩:=q.turn j hj;exact h3 P' w U hg (hp U h1) (Gw.same (fun i hi=>(h2 i hi).2) (Fr.refl _ _))
theorem aa.join{P Q:World→(Nat→Prop)→Prop}(q:aa W w (ts++[Q]))(j:Nat)(hj:ts[j]? =some P):aa W w (ts.set j (Both P Q)):=by
 obtain⟨o,h1,h2,h3,h4⟩:=q;have hjl:=(List.getElem?_eq_some_iff.1 hj).1;have hP:=h3 P (List.mem_append_left _ (List.mem_of_getElem? hj));have hQ:=h3 Q (by simp);have p1:=h4 j P (by rw[List.getElem?_append_left hjl];exact hj);have p2:=h4 ts.length Q (by simp);rw[List.length_append,List.length_singleton] at h2;refine⟨fun i=>if o i=ts.length+1 then j+1 else o i,⟨h1.nw,fun i hi=> ?_⟩,fun i=> ?_,fun R hR=> ?_,fun n R hn=> ?_⟩
 ·apply h1.dom;intro e;simp[e] at hi
 ·rw[List.length_set];have:=h2 i;show(if o i=ts.length+1 then j+1 else o i)≤_;split<;>omega
 ·rcases List.mem_or_eq_of_mem_set hR with e|rfl
  ·exact h3 R (List.mem_append_left _ e)
  ·exact Both.good hP hQ
 ·have hlt:∀i,(if o i=ts.length+1 then j+1 else o i)=n+1→i<w.heap.size:=fun i hi=>by
   apply (h1.dom i _).2;intro e;simp[e] at hi
  by_cases e:n=j
  ·subst e;rw[List.getElem?_set_self hjl] at hn;cases hn;refine⟨lab o (n+1),lab o (ts.length+1),p1,p2,fun i a b=> ?_,fun i a=> ?_,fun i a=> ?_,fun i a=>hlt i a⟩
   ·have a:o i=n+1:=a;have b:o i=ts.length+1:=b;omega
   ·have a:o i=n+1:=a;show(if o i=ts.length+1 then n+1 else o i)=n+1;split
    ·rfl
    ·exact a
   ·have a:o i=ts.length+1:=a;show(if o i=ts.length+1 then n+1 else o i)=n+1;rw[if_pos a]
  ·rw[List.getElem?_set_ne (fun e2=>e e2.symm)] at hn;have hnl:=(List.getElem?_eq_some_iff.1 hn).1;have p:=h4 n R (by rw[List.getElem?_append_left hnl];exact hn);refine(h3 R (List.mem_append_left _ (List.mem_of_getElem? hn))).mono p (fun i a=> ?_) fun i a=>hlt i a
   have a:o i=n+1:=a;show(if o i=ts.length+1 then j+1 else o i)=n+1;rw[if_neg (by omega)];exact a
theorem aa.put(h:aa W w (ts++[Q]))(j:Nat)(hj:ts[j]? =some (Fam n F))(hF:∀c,Good (F c))(he:F i=Non):aa W w (ts.set j (Fam n (fset F i Q))):=by
 have hQ:Good Q:=h.oe (j:=ts.length) (by simp);have h1:=h.join j hj;have hjl:=(List.getElem?_eq_some_iff.1 hj).1;have h2:=h1.view j (List.getElem?_set_self hjl) (P':=Fam n (fset F i Q)) (Fam.good fun c=>by unfold fset;split;exact hQ;exact hF c) fun U hU=>by
  refine Fam.join (P:=F) ?_ hQ hF;have e:fset F i Non=F:=by rw[←he];exact BL F i
  rw[e];exact hU.swap
 rw[List.set_set] at h2;exact h2
theorem aa.forget(h:aa W w ts)(j:Nat)(hj:ts[j]? =some (Fam n F))(hF:∀c,Good (F c))(hi:i<n):aa W w (ts.set j (Fam n (fset F i Non))):=by
 have hG:Good (Fam n (fset F i Non)):=Fam.good fun c=>by unfold fset;split;exact Non.good;exact hF c
 refine h.view j hj hG fun U hU=> ?_
 obtain⟨Z,Y,_,h2,_,_,h5,h6⟩:=hU.split hF hi;exact hG.mono h2 h5 h6
end
theorem dS(w:World):(zeroValue 3).run Tryz.prog w=.ok (.int .i64 0) w:=by kernel_rfl
def Di(D:DataW Unit)(f:Int→Option Int)(cnt:Nat):Prop:=(∀x:Int,Maps.has D (.int .i64 x)=(f x).isSome)∧(∀x:Int,D.atKey (.int .i64 x) (.lit (.int .i64 0))=.lit (.int .i64 ((f x).getD 0)))∧Maps.size D=cnt
def Oi(w:World)(B n:Nat)(f:Int→Option Int)(cnt:Nat):Prop:=∃D:DataW Unit,w.ownsMap Tryz.prog 3 (plainElem Tryz.prog 3) B n D∧Di D f cnt
section
variable{w w':World}{B n cnt:Nat}{f:Int→Option Int}
theorem Oi.new(w:World):Oi (w.alloc (.map #[] 0)) w.heap.size 0 (fun _=>none) 0:=⟨_,World.ownsMap_made w _ _ _,fun x=>by simp[Maps.has],fun x=>by simp;rfl,rfl⟩
theorem Oi.lt(h:Oi w B n f cnt):B<w.heap.size:=by obtain⟨D,h1,_⟩:=h;exact h1.lt
theorem Oi.carry{S:Nat→Prop}(h:Oi w B n f cnt)(fr:Fr S w w')(hn:¬S B):Oi w' B n f cnt:=by
 obtain⟨D,⟨es,clock,hb,F,hs,hD⟩,h2⟩:=h;exact⟨D,⟨es,clock,by rw[fr.block B (Array.getElem?_eq_some_iff.1 hb).1 hn];exact hb,F,hs,hD⟩,h2⟩
theorem Oi.same{g:Int→Option Int}(h:Oi w B n f cnt)(e:∀x,f x=g x):Oi w B n g cnt:=by
 have:f=g:=funext e;rw[←this];exact h
theorem Oi.look(h:Oi w B n f cnt){x:Int}(hx:(Lit.int .i64 x).wf=true):(Instr.lookup 197 (.map (some B)) (.int .i64 x) false).run Tryz.prog w=.ok (.int .i64 ((f x).getD 0)) w:=by
 obtain⟨D,h1,h2⟩:=h;obtain⟨v,ps,hrun,hv⟩:=h1.lookup bk Tryz.underlying197 (dS w) (plainElem_int Tryz.underlying3 (by decide)) (bH hx);obtain⟨c,rfl,hc⟩:=plainElem_int_inv Tryz.underlying3 hv;rw[h2.2.1 x] at hc;simp only[Prod.mk.injEq,DataW.lit.injEq,Lit.int.injEq] at hc;rw[hrun,hc.1.1.2]
theorem Oi.fL(h:Oi w B n f cnt){x:Int}(hx:(Lit.int .i64 x).wf=true):(Instr.lookup 197 (.map (some B)) (.int .i64 x) true).run Tryz.prog w=.ok (.tuple #[.int .i64 ((f x).getD 0),.bool (f x).isSome]) w:=by
 obtain⟨D,h1,h2⟩:=h;obtain⟨v,ps,hrun,hv⟩:=h1.look_ok bk Tryz.underlying197 (dS w) (plainElem_int Tryz.underlying3 (by decide)) (bH hx);obtain⟨c,rfl,hc⟩:=plainElem_int_inv Tryz.underlying3 hv;rw[h2.2.1 x] at hc;simp only[Prod.mk.injEq,DataW.lit.injEq,Lit.int.injEq] at hc;rw[hrun,hc.1.1.2,h2.1 x]
theorem Oi.len(h:Oi w B n f cnt)(ty:TypeId):(Builtin.len_ #[197] ty #[.map (some B)]).run Tryz.prog w=.ok (.int .i64 cnt) w:=by
 obtain⟨D,h1,h2⟩:=h;rw[h1.len Tryz.underlying197 ty,h2.2.2]
theorem Oi.store(h:Oi w B n f cnt)(hn:n<maxLen){x y:Int}(hx:(Lit.int .i64 x).wf=true)(hy:(Lit.int .i64 y).wf=true):∃w',(Instr.mapUpdate 197 (.map (some B)) (.int .i64 x) (.int .i64 y)).run Tryz.prog w=.ok () w'∧Oi w' B (n+1) (fun z=>if z=x then some y else f z) (if(f x).isSome then cnt else cnt+1)∧Fr (fun i=>i=B) w w':=by
 obtain⟨D,h1,h2⟩:=h;obtain⟨w',hrun,h3,hg⟩:=h1.update bk Tryz.underlying197 hn (bH hx) (plainElem_int Tryz.underlying3 hy);refine⟨w',hrun,⟨_,h3,fun z=> ?_,fun z=> ?_,?_⟩,(Fr.refl _ _).grown hg (fun k e=>.inl (by simpa using e.symm))⟩
 ·dsimp only;by_cases e:z=x
  ·subst e;rw[Maps.has_put_same h1.isMap (by trivial),if_pos rfl];rfl
  ·rw[Maps.has_put_other (by simpa using e),h2.1 z,if_neg e]
 ·dsimp only;by_cases e:z=x
  ·subst e;rw[if_pos rfl,Maps.atKey_put_same h1.isMap (by trivial)];rfl
  ·rw[if_neg e,Maps.atKey_put_other (by simpa using e),h2.2.1 z]
 ·rw[Maps.size_put (h1.tidy bk),h2.1 x,h2.2.2]
theorem Oi.drop(h:Oi w B n f cnt){x:Int}(hx:(Lit.int .i64 x).wf=true)(ty:TypeId):∃w',(Builtin.delete_ #[197,3] ty #[.map (some B),.int .i64 x]).run Tryz.prog w=.ok (.tuple #[]) w'∧Oi w' B n (fun z=>if z=x then none else f z) (cnt - (if(f x).isSome then 1 else 0))∧Fr (fun i=>i=B) w w':=by
 obtain⟨D,h1,h2⟩:=h;obtain⟨w',hrun,h3,hg⟩:=h1.drop bk Tryz.underlying197 (bH hx) ty;refine⟨w',hrun,⟨_,h3,fun z=> ?_,fun z=> ?_,?_⟩,(Fr.refl _ _).grown hg.grown (fun k e=>.inl (by simpa using e.symm))⟩
 ·dsimp only;by_cases e:z=x
  ·subst e;rw[Maps.has_del_same,if_pos rfl];rfl
  ·rw[Maps.has_del_other (by simpa using e),h2.1 z,if_neg e]
 ·dsimp only;by_cases e:z=x
  ·subst e;rw[if_pos rfl];have hh:Maps.has (D.del (.int .i64 z)) (.int .i64 z)=false:=Maps.has_del_same;rw[Maps.atKey_del_same];rfl
  ·rw[if_neg e,Maps.atKey_del_other (by simpa using e),h2.2.1 z]
 ·have:=Maps.size_del (k:=.int .i64 x) (h1.tidy bk);rw[h2.1 x,h2.2.2] at this;omega
end
section
variable{w:World}{ops:Array Oper}{rest:List Oper}{o:Oper}{act:Act}{Q:Exit→Act→World→Prop}{B n cnt:Nat}{f:Int→Option Int}
end
theorem Oi.tight{w:World}{B n cnt:Nat}{f:Int→Option Int}(h:Oi w B n f cnt):Oi w B cnt f cnt:=by
 obtain⟨D,⟨es,clock,hb,F,hs,hD⟩,h2⟩:=h;refine⟨D,⟨es,clock,hb,F,?_,hD⟩,h2⟩;have:=h2.2.2;subst hD;rw[←this];show es.size≤List.length _;rw[length_read];exact Nat.le_refl _
theorem Oi.count{w:World}{B n cnt cnt':Nat}{f:Int→Option Int}(h:Oi w B n f cnt)(e:cnt=cnt'):Oi w B cnt' f cnt':=e▸h.tight
def ptN:Option Nat→Int
 |none=>0
 |some b=>b+1
def ptV:Option Nat→Value
 |none=>.pointer none
 |some b=>.pointer (some ⟨b,0,none⟩)
def py(v:Value):Option (DataW Unit×List MemPlace):=
 match v with
 |.pointer none=>some (.lit (.int .i64 0),[])
 |.pointer (some ⟨b,0,none⟩)=>some (.lit (.int .i64 (b+1)),[])
 |_=>none
theorem gY(p:Option Nat):py (ptV p)=some (.lit (.int .i64 (ptN p)),[]):=by cases p<;>rfl
theorem jb{v:Value}{z:DataW Unit×List MemPlace}(h:py v=some z):∃p,v=ptV p∧z=(.lit (.int .i64 (ptN p)),[]):=by
 unfold py at h;split at h
 ·cases h;exact⟨none,rfl,rfl⟩
 ·rename_i b;cases h;exact⟨some b,rfl,rfl⟩
 ·cases h
theorem sX{p q:Option Nat}(h:ptN p=ptN q):p=q:=by
 cases p<;>cases q<;>simp[ptN] at h ⊢ <;>omega
theorem oy(w:World):(zeroValue 205).run Tryz.prog w=.ok (.pointer none) w:=by kernel_rfl
def Dp(D:DataW Unit)(f:Int→Option Nat)(cnt:Nat):Prop:=(∀x:Int,Maps.has D (.int .i64 x)=(f x).isSome)∧(∀x:Int,D.atKey (.int .i64 x) (.lit (.int .i64 0))=.lit (.int .i64 (ptN (f x))))∧Maps.size D=cnt
def Op17(w:World)(B n:Nat)(f:Int→Option Nat)(cnt:Nat):Prop:=∃D:DataW Unit,w.ownsMap Tryz.prog 3 py B n D∧Dp D f cnt
section
variable{w w':World}{B n cnt:Nat}{f:Int→Option Nat}
theorem Op17.new(w:World):Op17 (w.alloc (.map #[] 0)) w.heap.size 0 (fun _=>none) 0:=⟨_,World.ownsMap_made w _ _ _,fun x=>by simp[Maps.has],fun x=>by simp[ptN];rfl,rfl⟩
theorem Op17.carry{S:Nat→Prop}(h:Op17 w B n f cnt)(fr:Fr S w w')(hn:¬S B):Op17 w' B n f cnt:=by
 obtain⟨D,⟨es,clock,hb,F,hs,hD⟩,h2⟩:=h;exact⟨D,⟨es,clock,by rw[fr.block B (Array.getElem?_eq_some_iff.1 hb).1 hn];exact hb,F,hs,hD⟩,h2⟩
theorem Op17.look(h:Op17 w B n f cnt){x:Int}(hx:(Lit.int .i64 x).wf=true):(Instr.lookup 143 (.map (some B)) (.int .i64 x) false).run Tryz.prog w=.ok (ptV (f x)) w:=by
 obtain⟨D,h1,h2⟩:=h;obtain⟨v,ps,hrun,hv⟩:=h1.lookup bk Tryz.underlying143 (oy w) (gY none) (bH hx);obtain⟨c,rfl,hc⟩:=jb hv;have e:D.atKey (.int .i64 x) (.lit (.int .i64 (ptN none)))=_:=h2.2.1 x;rw[e] at hc;simp only[Prod.mk.injEq,DataW.lit.injEq,Lit.int.injEq] at hc;rw[hrun,sX hc.1.2]
theorem Op17.fL(h:Op17 w B n f cnt){x:Int}(hx:(Lit.int .i64 x).wf=true):(Instr.lookup 143 (.map (some B)) (.int .i64 x) true).run Tryz.prog w=.ok (.tuple #[ptV (f x),.bool (f x).isSome]) w:=by
 obtain⟨D,h1,h2⟩:=h;obtain⟨v,ps,hrun,hv⟩:=h1.look_ok bk Tryz.underlying143 (oy w) (gY none) (bH hx);obtain⟨c,rfl,hc⟩:=jb hv;have e:D.atKey (.int .i64 x) (.lit (.int .i64 (ptN none)))=_:=h2.2.1 x;rw[e] at hc;simp only[Prod.mk.injEq,DataW.lit.injEq,Lit.int.injEq] at hc;rw[hrun,h2.1 x,sX hc.1.2]
theorem Op17.store(h:Op17 w B n f cnt)(hn:n<maxLen){x:Int}(hx:(Lit.int .i64 x).wf=true)(p:Nat):∃w',(Instr.mapUpdate 143 (.map (some B)) (.int .i64 x) (.pointer (some ⟨p,0,none⟩))).run Tryz.prog w=.ok () w'∧Op17 w' B (n+1) (fun z=>if z=x then some p else f z) (if(f x).isSome then cnt else cnt+1)∧Fr (fun i=>i=B) w w':=by
 obtain⟨D,h1,h2⟩:=h;obtain⟨w',hrun,h3,hg⟩:=h1.update bk Tryz.underlying143 hn (bH hx) (gY (some p));refine⟨w',hrun,⟨_,h3,fun z=> ?_,fun z=> ?_,?_⟩,(Fr.refl _ _).grown hg (fun k e=>.inl (by simpa using e.symm))⟩
 ·dsimp only;by_cases e:z=x
  ·subst e;rw[Maps.has_put_same h1.isMap (by trivial),if_pos rfl];rfl
  ·rw[Maps.has_put_other (by simpa using e),h2.1 z,if_neg e]
 ·dsimp only;by_cases e:z=x
  ·subst e;rw[if_pos rfl,Maps.atKey_put_same h1.isMap (by trivial)]
  ·rw[if_neg e,Maps.atKey_put_other (by simpa using e),h2.2.1 z]
 ·rw[Maps.size_put (h1.tidy bk),h2.1 x,h2.2.2]
theorem Op17.drop(h:Op17 w B n f cnt){x:Int}(hx:(Lit.int .i64 x).wf=true)(ty:TypeId):∃w',(Builtin.delete_ #[143,3] ty #[.map (some B),.int .i64 x]).run Tryz.prog w=.ok (.tuple #[]) w'∧Op17 w' B n (fun z=>if z=x then none else f z) (cnt - (if(f x).isSome then 1 else 0))∧Fr (fun i=>i=B) w w':=by
 obtain⟨D,h1,h2⟩:=h;obtain⟨w',hrun,h3,hg⟩:=h1.drop bk Tryz.underlying143 (bH hx) ty;refine⟨w',hrun,⟨_,h3,fun z=> ?_,fun z=> ?_,?_⟩,(Fr.refl _ _).grown hg.grown (fun k e=>.inl (by simpa using e.symm))⟩
 ·dsimp only;by_cases e:z=x
  ·subst e;rw[Maps.has_del_same,if_pos rfl];rfl
  ·rw[Maps.has_del_other (by simpa using e),h2.1 z,if_neg e]
 ·dsimp only;by_cases e:z=x
  ·subst e;rw[if_pos rfl,Maps.atKey_del_same];rfl
  ·rw[if_neg e,Maps.atKey_del_other (by simpa using e),h2.2.1 z]
 ·have:=Maps.size_del (k:=.int .i64 x) (h1.tidy bk);rw[h2.1 x,h2.2.2] at this;omega
theorem Op17.tight(h:Op17 w B n f cnt):Op17 w B cnt f cnt:=by
 obtain⟨D,⟨es,clock,hb,F,hs,hD⟩,h2⟩:=h;refine⟨D,⟨es,clock,hb,F,?_,hD⟩,h2⟩;have:=h2.2.2;subst hD;rw[←this];show es.size≤List.length _;rw[length_read];exact Nat.le_refl _
end
def Mg(B cnt:Nat)(f:Int→Option Nat)(w:World)(Z:Nat→Prop):Prop:=Op17 w B cnt f cnt∧Z B∧∀i,Z i→i<w.heap.size
theorem Mg.good(B cnt:Nat)(f:Int→Option Nat):Good (Mg B cnt f):=
 ⟨fun h fr hs=>⟨h.1.carry fr (hs _ h.2.1),h.2.1,fun i hi=>Nat.lt_of_lt_of_le (h.2.2 i hi) fr.size⟩,fun h h1 h2=>⟨h.1,h1 _ h.2.1,h2⟩⟩
section
variable{W w:World}{ts:List (World→(Nat→Prop)→Prop)}{B cnt:Nat}{f:Int→Option Nat}
theorem aa.op17(h:aa W w ts)(j:Nat)(hj:ts[j]? =some (Mg B cnt f)):Op17 w B cnt f cnt:=by
 obtain⟨U,h1,_⟩:=h.get j hj;exact h1.1
theorem aa.oI(h:aa W w ts)(j:Nat)(hj:ts[j]? =some (Mg B cnt f)){w':World}{n' cnt':Nat}{f':Int→Option Nat}(ho:Op17 w' B n' f' cnt')(fr:Fr (fun i=>i=B) w w'):aa W w' (ts.set j (Mg B cnt' f')):=by
 obtain⟨U,h1,_,h2⟩:=h.turn j hj;exact h2 _ w' U (Mg.good _ _ _) ⟨ho.tight,h1.2.1,fun i hi=>Nat.lt_of_lt_of_le (h1.2.2 i hi) fr.size⟩ (Gw.same h1.2.2 (fr.mono fun i _ e=>e▸h1.2.1))
end
section
variable{w:World}{ops:Array Oper}{rest:List Oper}{o:Oper}{act:Act}{Q:Exit→Act→World→Prop}{B n cnt:Nat}{f:Int→Option Nat}
end
end Go.Proofs.YtndhbnhobhkmaaaGreatDoor
namespace Go.Proofs.YtndhbnhobhkmaaaGreatDoor
open Go.RowKit
open An
theorem tQ:∀(l m:List Nat),l.Nodup→(∀x∈l,x∈m)→l.length≤m.length
 |[],m,_,_=>by simp
 |x::l,m,hn,h=>by
  rw[List.nodup_cons] at hn;have hx:=h x (List.mem_cons_self ..);have h1:=tQ l (m.erase x) hn.2 fun y hy=>(List.mem_erase_of_ne (show y≠x from fun e=>hn.1 (e▸hy))).2 (h y (List.mem_cons_of_mem _ hy))
  rw[List.length_erase_of_mem hx] at h1;have:=List.length_pos_of_mem hx;simp only[List.length_cons];omega
theorem len_eq{l m:List Nat}(h1:l.Nodup)(h2:m.Nodup)(h:∀x,x∈l↔x∈m):l.length=m.length:=Nat.le_antisymm (tQ l m h1 fun x hx=>(h x).1 hx) (tQ m l h2 fun x hx=>(h x).2 hx)
def hads(g:Pg):List Bool:=(List.range 32).map fun i=>decide (g.Had i)
theorem dR(g:Pg):(hads g).length=32:=by simp[hads]
theorem xz(g:Pg)(j:Nat)(hj:j<32):(hads g)[j]'(by rw[dR];exact hj)=decide (g.Had j):=by simp[hads]
theorem Pg.Ok.counted{g:Pg}{bs:List UInt8}(h:g.Ok bs):(hads g).count true=g.used:=by
 have hp:=(ai g.kind h.kind).2.1.2;have hfr:=h.fr;have e1:(hads g).count true=((List.range 32).filter fun i=>decide (g.Had i)).length:=by
  unfold hads;rw[List.count_eq_countP,List.countP_map,List.countP_eq_length_filter];congr 2;funext i;simp
 have hnF:((List.range 32).filter fun i=>decide (g.Had i)).Nodup:=List.nodup_range.filter _;have e2:(((List.range 32).filter fun i=>decide (g.Had i))++(g.R++g.D)).length=(List.range g.fresh).length:=by
  apply len_eq
  ·rw[List.nodup_append];refine⟨hnF,h.nd,fun a ha b hb e=> ?_⟩;subst e;simp only[List.mem_filter,List.mem_range,decide_eq_true_eq] at ha;rw[List.mem_append] at hb;rcases hb with hb|hb
   ·exact ha.2.2.1 hb
   ·exact ha.2.2.2 hb
  ·exact List.nodup_range
  ·intro x;simp only[List.mem_append,List.mem_filter,List.mem_range,decide_eq_true_eq];constructor
   ·rintro(hx|hx)
    ·exact hx.2.1
    ·exact h.lt x (List.mem_append.2 hx)
   ·intro hx;by_cases h1:x∈g.R
    ·exact .inr (.inl h1)
    ·by_cases h2:x∈g.D
     ·exact .inr (.inr h2)
     ·exact .inl ⟨by omega,hx,h1,h2⟩
 rw[List.length_append,List.length_append,List.length_range] at e2;unfold Pg.used;omega
section
variable{w:World}{p r rd wt:Nat}{at_ of_ fresh:Int}{hd:List Bool}
end
section
variable{w0 w w':World}{Z0 Z Z':Nat→Prop}{p r rd wt:Nat}{bs bs':List UInt8}{ss ss':List Sp}{at_ of_ fresh:Int}{hd:List Bool}{kr kw k' k2:Ck}
end
section
variable{w0 w:World}{Z0 Z:Nat→Prop}{p r rd wt:Nat}{bs:List UInt8}{ss:List Sp}{g:Pg}
theorem qJ{x:Nat}{R:List Nat}(ok:g.Ok bs)(e:g.R=x::R):¬g.Full:=fun hf=>by have:=(ok.full.1 hf).1.1;rw[e] at this;cases this
theorem qK{x:Nat}{D:List Nat}(ok:g.Ok bs)(e:g.D=x::D):¬g.Full:=fun hf=>by have:=(ok.full.1 hf).1.2;rw[e] at this;cases this
end
section
variable{w:World}{a:Nat}{Z:Nat→Prop}{bs:List UInt8}{ss:List Sp}
theorem ow(h:Am 111 a bs ss w Z)(p m:Nat)(hin:p+m≤bs.length)(hk:ss.length≤1000000):Calls Tryz.prog 126 #[.pointer (some ⟨a,0,none⟩),.int .i64 p,.int .i64 m] w fun e w'=>e=.returned (.int .i64 0)∧∃Z',Am 111 a (over bs p (List.replicate m 0)) (aU ss p m true) w' Z'∧Gw w w' Z Z':=by
 obtain⟨B,b,v,h,h1,h2⟩:=h;exact(zF h p m hin hk).mono fun e w' ⟨he,hn⟩=>⟨he,Am.aU h1 h2 hn⟩
theorem yt(h:Am 111 a bs ss w Z)(p:Nat)(s:ByteArray)(hin:p+s.size≤bs.length)(hk:ss.length≤1000000):Calls Tryz.prog 80 #[.pointer (some ⟨a,0,none⟩),.int .i64 p,.string s] w fun e w'=>e=.returned (.int .i64 0)∧∃Z',Am 111 a (over bs p s.data.toList) (aU ss p s.size true) w' Z'∧Gw w w' Z Z':=by
 obtain⟨B,b,v,h,h1,h2⟩:=h;exact(vE h p s hin hk).mono fun e w' ⟨he,hn⟩=>⟨he,Am.aU h1 h2 hn⟩
theorem Cu(h:Am 111 a bs ss w Z)(p q m:Nat)(hin:p+m≤bs.length)(hin2:q+m≤bs.length)(hk:ss.length<1000000):Calls Tryz.prog 146 #[.pointer (some ⟨a,0,none⟩),.int .i64 p,.int .i64 q,.int .i64 m] w fun e w'=>e=.returned (.int .i64 0)∧∃Z',Am 111 a (over bs p ((bs.drop q).take m)) (aU (aU ss q m false) p m true) w' Z'∧Gw w w' Z Z':=by
 obtain⟨B,b,v,h,h1,h2⟩:=h;exact(BP h p q m hin hin2 hk).mono fun e w' ⟨he,hn⟩=>⟨he,Am.aU h1 h2 hn⟩
end
section
variable{w0 w:World}{Z0 Z:Nat→Prop}{p r rd wt:Nat}{bs:List UInt8}{ss:List Sp}{g:Pg}
end
abbrev Fits(n:Nat)(x:Int):Prop:=0≤x∧x % 512=0∧x+512≤n
def pmE(n:Nat)(x:Int):Int:=if Fits n x then 0 else 12
def pmS(g:Pg)(n:Nat)(x:Int):Pg:=if Fits n x then⟨x.toNat,g.kind,g.fresh,g.R,g.D⟩ else g
section
variable{w0 w:World}{Z0 Z:Nat→Prop}{a p r rd wt:Nat}{bs:List UInt8}{ss:List Sp}{g:Pg}
end
section
variable{w w':World}{U Z Z':Nat→Prop}{p r rd wt:Nat}{bs bs':List UInt8}{ss ss':List Sp}{g g':Pg}
end
section
variable{W w:World}{ts:List (World→(Nat→Prop)→Prop)}{p r:Nat}{bs:List UInt8}{ss:List Sp}{g:Pg}
end
end Go.Proofs.YtndhbnhobhkmaaaGreatDoor
