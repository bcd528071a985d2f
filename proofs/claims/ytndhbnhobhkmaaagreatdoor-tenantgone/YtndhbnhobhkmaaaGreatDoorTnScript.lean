/-
  Calls of a tenant, configurations and windows as they come in, opened; a list that lies in memory takes fewer than 2^47 bytes.
  A script of a tenant's calls that came in.
-/
import Derived.Test.YtndhbnhobhkmaaaGreatDoorTnStepB
import Derived.ProofKit
import Derived.OpenShut
import Derived.Deep.Slices
import Derived.Deep.Fields
import Derived.SizedLaws
set_option maxRecDepth 40000
namespace Go.Proofs.YtndhbnhobhkmaaaGreatDoor
open Go.ChangeShapes Go.WideShapes Go.ChangeAt Go.RowKit
theorem fD{α:Type}{P:Nat→α→Prop}:∀n:Nat,(∀i,i<n→∃o,P i o)→∃l:List α,l.length=n∧∀i (hi:i<l.length),P i l[i]
 |0,_=>⟨[],rfl,fun i hi=>by simp at hi⟩
 |n+1,h=>by
  obtain⟨l,hl,hp⟩:=fD n (fun i hi=>h i (by omega));obtain⟨o,ho⟩:=h n (by omega);refine⟨l++[o],by simp[hl],fun i hi=> ?_⟩;by_cases hlt:i<l.length
  ·rw[List.getElem_append_left hlt];exact hp i hlt
  ·have e:i=l.length:=by simp at hi;omega
   subst e;rw[List.getElem_append_right (Nat.le_refl _)];simp only[Nat.sub_self,List.getElem_cons_zero,hl];exact ho
theorem jl{H:Type}{P:Program}{e:TypeId}:∀{l:List (DataW H)} {d:DataW H},d∈l→∀n∈d.weights P e,n∈DataW.weightsAll P e l
 |d0::r,d,hd,n,hn=>by
  simp only[DataW.weightsAll,List.mem_append];rcases List.mem_cons.1 hd with rfl|hd
  ·exact .inl hn
  ·exact .inr (jl hd n hn)
theorem kv:Tryz.prog.cellsOf 3=1:=by kernel_rfl
theorem Bw:Tryz.prog.cellsOf 37=1:=by kernel_rfl
theorem Bx:Tryz.prog.cellsOf 9=1:=by kernel_rfl
theorem BA:Tryz.prog.cellsOf 23=2:=by kernel_rfl
theorem Bz:Tryz.prog.cellsOf 26=6:=by kernel_rfl
theorem zq:Tryz.prog.cellsOf 39=7:=by kernel_rfl
theorem pU:Tryz.prog.cellsOf 24=1:=by kernel_rfl
section
variable{H:Type}{enc:TypeId×Value→H}{w:World}{base:Nat}{spare:Nat→Bool}{held:Bool}{v:Value}{d:DataW H}{p:List MemPlace}{r:Reach}{b0:Nat}
theorem uw{fuel:Nat}{cs:List Value}{x:DataW H×List MemPlace}(h:DataW.trod enc Tryz.prog w base spare held fuel 24 cs=some x):
  ∃ad cap l,cs=[.slice ad (List.length l) cap]∧aA w ad l∧l.length≤maxLen∧((∀n∈x.1.weights Tryz.prog 24,n≤reachBytes)→l.length≤17592186044416):=by
 rcases Go.Deep.open_slice Tryz.underlying24 h with⟨hc,_⟩|⟨a,len0,cap0,m,n,D,Pl,hc,_,hl,hm,hmm,hxe,hx⟩
 ·exact⟨none,0,[],hc,fun i hi=>by simp at hi,by simp,fun _=>by simp⟩
 ·have hle:len0≤m:=by rw[hmm];split<;>omega
  rw[kv] at hx;obtain⟨b,off,spot⟩:=a;have key:∀i,i<len0→∃o:Int,w.cell? ((⟨b,off,spot⟩:Addr).add i)=some (.int .i64 o):=by
   intro i hi;obtain⟨cs',h1,h2⟩:=hx i (by omega);obtain⟨_,_,hcell⟩:=World.cells?_some h1;obtain⟨o,e,_,_⟩:=DataW.trod_int Tryz.underlying3 h2;have h3:=hcell 0 (by omega);rw[e] at h3;have h4:((⟨b,off,spot⟩:Addr).add (i * 1)).add 0=(⟨b,off,spot⟩:Addr).add i:=by
    unfold Addr.add;split<;>simp_all
   rw[h4] at h3;exact⟨o,by simpa using h3⟩
  obtain⟨l,hlen,hops⟩:=fD len0 key;refine⟨_,_,l,by rw[hlen];exact hc,fun i hi=> ?_,by rw[hlen];omega,fun hwt=> ?_⟩
  case refine_2=>
   have:=hwt (((List.range len0).map D).length * 8+((List.range (m - len0)).map fun j=>D (len0+j)).length * 8) (by
    rw[hxe];simp only[DataW.weights,Tryz.underlying24,List.mem_cons];left;rw[←Nat.add_mul];rfl)
   simp[reachBytes] at this;omega
  have h1:=hops i hi;have hsp:spot=none:=by
   have h3:=World.cell?_spot (hops 0 (by omega));simpa [Addr.add] using h3
  subst hsp;rw[add_plain] at h1;exact⟨b,off,rfl,World.block_lt_of_cell? w _ h1,h1⟩
theorem nE(hv:Value.okWide Tryz.prog w r b0 26 v)(h:DataW.Trod enc Tryz.prog w base spare held 26 v d p)(z:∀n∈d.weights Tryz.prog 26,n≤reachBytes):
  ∃c:C18,v=.agg c.cs∧CfgT w c:=by
 obtain⟨cs,rfl,_⟩:=okWide_struct Tryz.underlying26 hv;obtain⟨fuel,hf⟩:=h;obtain⟨xs,n,_,hxe,hl,hxl,hf⟩:=DataW.trod_struct Tryz.underlying26 hf;rw[Bz] at hl;obtain⟨l⟩:=cs;simp only[Value.cells] at hl hf;obtain⟨a,b,c,e,f,g,rfl⟩:∃a b c e f g,l=[a,b,c,e,f,g]:=by
  match l,hl with
  |[a,b,c,e,f,g],_=>exact⟨a,b,c,e,f,g,rfl⟩
 have h0:DataW.trod enc Tryz.prog w base spare held n 23 (List.take (Tryz.prog.cellsOf 23) (List.drop 0 [a,b,c,e,f,g]))=xs[0]? :=hf 0 _ rfl;have h1:DataW.trod enc Tryz.prog w base spare held n 3 (List.take (Tryz.prog.cellsOf 3) (List.drop 2 [a,b,c,e,f,g]))=xs[1]? :=hf 1 _ rfl;have h2:DataW.trod enc Tryz.prog w base spare held n 3 (List.take (Tryz.prog.cellsOf 3) (List.drop 3 [a,b,c,e,f,g]))=xs[2]? :=hf 2 _ rfl;have h3:DataW.trod enc Tryz.prog w base spare held n 3 (List.take (Tryz.prog.cellsOf 3) (List.drop 4 [a,b,c,e,f,g]))=xs[3]? :=hf 3 _ rfl;have h4:DataW.trod enc Tryz.prog w base spare held n 24 (List.take (Tryz.prog.cellsOf 24) (List.drop 5 [a,b,c,e,f,g]))=xs[4]? :=hf 4 _ rfl;rw[BA] at h0;rw[kv] at h1 h2 h3;rw[pU] at h4;have hx:∀i,i<5→∃y,xs[i]? =some y:=fun i hi=>⟨_,List.getElem?_eq_getElem (by rw[hxl];exact hi)⟩
 obtain⟨y0,e0⟩:=hx 0 (by omega);rw[e0] at h0;obtain⟨y1,e1⟩:=hx 1 (by omega);rw[e1] at h1;obtain⟨y2,e2⟩:=hx 2 (by omega);rw[e2] at h2;obtain⟨y3,e3⟩:=hx 3 (by omega);rw[e3] at h3;obtain⟨y4,e4⟩:=hx 4 (by omega);rw[e4] at h4;obtain⟨zs,n',_,_,hl',hzl,hg⟩:=DataW.trod_struct Tryz.underlying23 h0;have g0:DataW.trod enc Tryz.prog w base spare held n' 3 (List.take (Tryz.prog.cellsOf 3) (List.drop 0 [a,b]))=zs[0]? :=hg 0 _ rfl;have g1:DataW.trod enc Tryz.prog w base spare held n' 3 (List.take (Tryz.prog.cellsOf 3) (List.drop 1 [a,b]))=zs[1]? :=hg 1 _ rfl;rw[kv] at g0 g1;have hz:∀i,i<2→∃y,zs[i]? =some y:=fun i hi=>⟨_,List.getElem?_eq_getElem (by rw[hzl];exact hi)⟩
 obtain⟨u0,f0⟩:=hz 0 (by omega);obtain⟨u1,f1⟩:=hz 1 (by omega);rw[f0] at g0;rw[f1] at g1;obtain⟨n0,q0,_,b0⟩:=DataW.trod_int Tryz.underlying3 g0;obtain⟨n1,q1,_,b1⟩:=DataW.trod_int Tryz.underlying3 g1;obtain⟨n2,q2,_,b2⟩:=DataW.trod_int Tryz.underlying3 h1;obtain⟨n3,q3,_,b3⟩:=DataW.trod_int Tryz.underlying3 h2;obtain⟨n4,q4,_,b4⟩:=DataW.trod_int Tryz.underlying3 h3;obtain⟨ad,cap,l,q5,k1,_,k3⟩:=uw h4;simp at q0 q1 q2 q3 q4 q5;subst q0 q1 q2 q3 q4 q5;have hd:d=_:=congrArg Prod.fst hxe;refine⟨⟨n0,n1,n2,n3,n4,ad,cap,l⟩,rfl,bounds_i64 b0,bounds_i64 b1,bounds_i64 b2,bounds_i64 b3,bounds_i64 b4,k1,k3 fun m hm=>z m ?_⟩;rw[hd];simp only[DataW.weights,Tryz.underlying26];exact DataW.weights_mem_each (j:=4) (t:=24) (d:=y4.1) rfl (by simp[e4]) m hm
theorem tn_op{fuel:Nat}{cs:List Value}{x:DataW H×List MemPlace}(h:DataW.trod enc Tryz.prog w base spare held fuel 39 cs=some x):∃o:O18,cs=o.cs.toList∧I64 o.kd∧I64 o.n∧I64 o.m∧I64 o.pk∧(0≤o.tu∧o.tu≤18446744073709551615)∧o.d.size≤maxLen∧aA w o.ad o.W∧((∀n∈x.1.weights Tryz.prog 39,n≤reachBytes)→o.W.length≤17592186044416):=by
 obtain⟨xs,n,_,hxe,hl,hxl,hf⟩:=DataW.trod_struct Tryz.underlying39 h;rw[zq] at hl;obtain⟨a,b,c,e,f,g,i,rfl⟩:∃a b c e f g i,cs=[a,b,c,e,f,g,i]:=by
  match cs,hl with
  |[a,b,c,e,f,g,i],_=>exact⟨a,b,c,e,f,g,i,rfl⟩
 have h0:DataW.trod enc Tryz.prog w base spare held n 3 (List.take (Tryz.prog.cellsOf 3) (List.drop 0 [a,b,c,e,f,g,i]))=xs[0]? :=hf 0 _ rfl;have h1:DataW.trod enc Tryz.prog w base spare held n 3 (List.take (Tryz.prog.cellsOf 3) (List.drop 1 [a,b,c,e,f,g,i]))=xs[1]? :=hf 1 _ rfl;have h2:DataW.trod enc Tryz.prog w base spare held n 3 (List.take (Tryz.prog.cellsOf 3) (List.drop 2 [a,b,c,e,f,g,i]))=xs[2]? :=hf 2 _ rfl;have h3:DataW.trod enc Tryz.prog w base spare held n 3 (List.take (Tryz.prog.cellsOf 3) (List.drop 3 [a,b,c,e,f,g,i]))=xs[3]? :=hf 3 _ rfl;have h4:DataW.trod enc Tryz.prog w base spare held n 37 (List.take (Tryz.prog.cellsOf 37) (List.drop 4 [a,b,c,e,f,g,i]))=xs[4]? :=hf 4 _ rfl;have h5:DataW.trod enc Tryz.prog w base spare held n 9 (List.take (Tryz.prog.cellsOf 9) (List.drop 5 [a,b,c,e,f,g,i]))=xs[5]? :=hf 5 _ rfl;have h6:DataW.trod enc Tryz.prog w base spare held n 24 (List.take (Tryz.prog.cellsOf 24) (List.drop 6 [a,b,c,e,f,g,i]))=xs[6]? :=hf 6 _ rfl;rw[kv] at h0 h1 h2 h3;rw[Bw] at h4;rw[Bx] at h5;rw[pU] at h6;have hx:∀i,i<7→∃y,xs[i]? =some y:=fun i hi=>⟨_,List.getElem?_eq_getElem (by rw[hxl];exact hi)⟩
 obtain⟨y0,e0⟩:=hx 0 (by omega);rw[e0] at h0;obtain⟨y1,e1⟩:=hx 1 (by omega);rw[e1] at h1;obtain⟨y2,e2⟩:=hx 2 (by omega);rw[e2] at h2;obtain⟨y3,e3⟩:=hx 3 (by omega);rw[e3] at h3;obtain⟨y4,e4⟩:=hx 4 (by omega);rw[e4] at h4;obtain⟨y5,e5⟩:=hx 5 (by omega);rw[e5] at h5;obtain⟨y6,e6⟩:=hx 6 (by omega);rw[e6] at h6;obtain⟨n0,q0,_,b0⟩:=DataW.trod_int Tryz.underlying3 h0;obtain⟨n1,q1,_,b1⟩:=DataW.trod_int Tryz.underlying3 h1;obtain⟨n2,q2,_,b2⟩:=DataW.trod_int Tryz.underlying3 h2;obtain⟨n3,q3,_,b3⟩:=DataW.trod_int Tryz.underlying3 h3;obtain⟨n4,q4,_,b4⟩:=DataW.trod_int Tryz.underlying37 h4;obtain⟨s,q5,_,b5⟩:=DataW.trod_string Tryz.underlying9 h5;obtain⟨ad,cap,l,q6,k1,_,k3⟩:=uw h6;simp at q0 q1 q2 q3 q4 q5 q6;subst q0 q1 q2 q3 q4 q5 q6;have hd:x.1=_:=congrArg Prod.fst hxe;refine⟨⟨n0,n1,n2,n3,n4,s,ad,cap,l⟩,rfl,bounds_i64 b0,bounds_i64 b1,bounds_i64 b2,bounds_i64 b3,bounds_u64 b4,b5,k1,fun z=>k3 fun m hm=>z m ?_⟩;rw[hd];simp only[DataW.weights,Tryz.underlying39];exact DataW.weights_mem_each (j:=6) (t:=24) (d:=y6.1) rfl (by simp[e6]) m hm
end
end Go.Proofs.YtndhbnhobhkmaaaGreatDoor
namespace Go.Proofs.YtndhbnhobhkmaaaGreatDoor
open Go.ChangeShapes Go.WideShapes Go.ChangeAt Go.RowKit
open An
section
variable{H:Type}{enc:TypeId×Value→H}{w:World}{base:Nat}{spare:Nat→Bool}{held:Bool}{v:Value}{d:DataW H}{p:List MemPlace}{r:Reach}{b0:Nat}
theorem jW(hv:Value.okWide Tryz.prog w r b0 27 v)(h:DataW.Trod enc Tryz.prog w base spare held 27 v d p)(z:∀n∈d.weights Tryz.prog 27,n≤reachBytes):
  ∃ad cap ops,v=.slice ad (List.length ops) cap∧OpsT w ad ops∧ops.length≤maxLen:=by
 obtain⟨a0,len0,cap0,rfl⟩:=okWide_slice Tryz.underlying27 hv;obtain⟨fuel,hf⟩:=h;rcases Go.Deep.open_slice Tryz.underlying27 hf with⟨hc,_⟩|⟨a,len,cap,m,n,D,Pl,hc,_,hl,hm,hmm,hxe,hx⟩
 ·simp[Value.cells] at hc;exact⟨a0,cap0,[],by rw[hc.2.1];rfl,fun i hi=>by simp at hi,by simp⟩
 ·simp[Value.cells] at hc;obtain⟨rfl,rfl,rfl⟩:=hc;have hle:len0≤m:=by rw[hmm];split<;>omega
  rw[zq] at hx;obtain⟨b,off,spot⟩:=a;have key:∀i,i<len0→∃o:O18,(∀j (hj:j<7),w.cell? (((⟨b,off,spot⟩:Addr).add (i * 7)).add j)=o.cs[j]?)∧mQ w o:=by
   intro i hi;obtain⟨cs,h1,h2⟩:=hx i (by omega);obtain⟨_,_,hcell⟩:=World.cells?_some h1;obtain⟨o,e,k1,k2,k3,k4,k5,k6,k7,k8⟩:=tn_op h2;refine⟨o,fun j hj=> ?_,⟨k1,k2,k3,k4,k5,k6,k7,k8 fun n hn=>z n ?_⟩⟩
   ·have h3:=hcell j (by omega);rw[h3,e];simp
   ·have hd:d=_:=congrArg Prod.fst hxe;rw[hd];simp only[DataW.weights,Tryz.underlying27,List.mem_cons,List.mem_append];exact .inr (.inl (jl (List.mem_map.2 ⟨i,by simp;omega,rfl⟩) n hn))
  obtain⟨l,hlen,hops⟩:=fD len0 key;refine⟨_,_,l,by rw[hlen],fun i hi=> ?_,by rw[hlen];omega⟩;obtain⟨h1,h2⟩:=hops i hi;have hsp:spot=none:=by
   have h3:=World.cell?_spot ((hops 0 (by omega)).1 0 (by omega));simpa [Addr.add] using h3
  subst hsp;have c0:=h1 0 (by omega);have c1:=h1 1 (by omega);have c2:=h1 2 (by omega);have c3:=h1 3 (by omega);have c4:=h1 4 (by omega);have c5:=h1 5 (by omega);have c6:=h1 6 (by omega);rw[add_plain,add_plain] at c0 c1 c2 c3 c4 c5 c6;exact⟨b,off,rfl,World.block_lt_of_cell? w _ c0,c0,c1,c2,c3,c4,c5,c6,h2⟩
end
end Go.Proofs.YtndhbnhobhkmaaaGreatDoor
