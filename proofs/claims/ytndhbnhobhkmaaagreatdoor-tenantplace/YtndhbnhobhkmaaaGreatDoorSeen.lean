/-
  Frames, byte rows and a forward goto: plain laws that every walk over the arena uses. Nothing of the program is named here.
  Lists of numbers in memory: those that come in, and rows of the call's own. New blocks may turn.
  Several things side by side in memory, each in blocks of its own: whose a block is, is told by a label. Nothing of the program is named here.
  A set of numbers as a map that the call has made: what is looked up, what is stored.
-/
import Derived.WalkKit
import Derived.WalkSpells
import Derived.WalkLawsBesides
import Derived.ScopeJumps
import Derived.Lib.SliceRun
import Derived.Lib.Strings
import Derived.Laws.BytesArg
import Derived.Laws.CopyOwn
import Derived.Test.YtndhbnhobhkmaaaGreatDoorRows
import Derived.Deep.RegionHeld
import Derived.Deep.QuietTactic
import Derived.BigQuiet
import Derived.BigRegion
import Derived.BigFrame
import Derived.Laws.OwnMore
import Derived.Maps.Own
import Derived.Maps.OwnOps
import Derived.Maps.OwnSet
import Derived.Maps.Views
namespace Go.Proofs.YtndhbnhobhkmaaaGreatDoor
open Go.RowKit
theorem hid{p:Prop}(h:p):Hid p:=h
abbrev I64(x:Int):Prop:= -9223372036854775808≤x∧x≤9223372036854775807
theorem add_plain(b f j:Nat):(⟨b,f,none⟩:Addr).add j=⟨b,f+j,none⟩:=by unfold Addr.add;split<;>simp_all
structure Fr(S:Nat→Prop)(w w':World):Prop where
 os:w'.os=w.os
 tape:w'.tape=w.tape
 output:w'.output=w.output
 size:w.heap.size≤w'.heap.size
 block:∀k,k<w.heap.size→¬S k→w'.heap[k]? =w.heap[k]?
theorem Fr.refl(S:Nat→Prop)(w:World):Fr S w w:=⟨rfl,rfl,rfl,Nat.le_refl _,fun _ _ _=>rfl⟩
theorem Fr.trans{S:Nat→Prop}{a b c:World}(h:Fr S a b)(k:Fr S b c):Fr S a c:=
 ⟨k.os.trans h.os,k.tape.trans h.tape,k.output.trans h.output,Nat.le_trans h.size k.size,fun i hi hs=>(k.block i (Nat.lt_of_lt_of_le hi h.size) hs).trans (h.block i hi hs)⟩
theorem Fr.trans'{S S':Nat→Prop}{a b c:World}(h:Fr S a b)(k:Fr S' b c)(hs:∀i,i<a.heap.size→S' i→S i):Fr S a c:=
 ⟨k.os.trans h.os,k.tape.trans h.tape,k.output.trans h.output,Nat.le_trans h.size k.size,fun i hi hn=>(k.block i (Nat.lt_of_lt_of_le hi h.size) (fun e=>hn (hs i hi e))).trans (h.block i hi hn)⟩
theorem Fr.mono{S S':Nat→Prop}{a b:World}(h:Fr S a b)(hs:∀k,k<a.heap.size→S k→S' k):Fr S' a b:=
 ⟨h.os,h.tape,h.output,h.size,fun i hi hn=>h.block i hi (fun e=>hn (hs i hi e))⟩
theorem Fr.alloc{S:Nat→Prop}{a w:World}(h:Fr S a w)(o:Obj):Fr S a (w.alloc o):=
 ⟨h.os,h.tape,h.output,by have:=h.size;simp;omega,fun i hi hn=>(Below.heap_alloc w o i (by have:=h.size;omega)).trans (h.block i hi hn)⟩
theorem Fr.drew{S:Nat→Prop}{a w:World}(h:Fr S a w):Fr S a w.drew:=⟨h.os,h.tape,h.output,h.size,h.block⟩
theorem Fr.new{w w':World}(h:Fr (fun k=>w.heap.size≤k) w w'):Fr (fun _=>False) w w':=h.mono fun k hk hs=>by omega
theorem Fr.drewN{S:Nat→Prop}{a w:World}(h:Fr S a w)(n:Nat):Fr S a (w.drewN n):=⟨h.os,h.tape,h.output,h.size,h.block⟩
theorem Fr.setCell{S:Nat→Prop}{a w:World}(h:Fr S a w){p:Addr}(hp:S p.block)(u:Value):Fr S a (w.setCell p u):=
 ⟨h.os,h.tape,h.output,by have:=h.size;simp[World.setCell];omega,fun i hi hn=>(Below.heap_setCell w p u i (fun e=>hn (e▸hp))).trans (h.block i hi hn)⟩
theorem Fr.setRow{S:Nat→Prop}{a w:World}(h:Fr S a w){g:Nat}(hp:S g)(c:Array Value):Fr S a (w.setRow g c):=
 ⟨h.os,h.tape,h.output,by have:=h.size;simp[World.setRow];omega,fun i hi hn=>(setRow_other w g i c (fun e=>hn (e▸hp))).trans (h.block i hi hn)⟩
theorem Fr.grown{S:Nat→Prop}{a w w':World}{row:Option Nat}(h:Fr S a w)(hg:w.grownBy w' row)(hr:∀k,row=some k→S k∨a.heap.size≤k):Fr S a w':=
 ⟨hg.os.trans h.os,hg.tape.trans h.tape,hg.output.trans h.output,Nat.le_trans h.size hg.size,fun i hi hn=>(hg.block i (by have:=h.size;omega) (fun e=>by
  rcases hr i e.symm with h1|h1
  ·exact hn h1
  ·omega)).trans (h.block i hi hn)⟩
theorem Fr.below{S:Nat→Prop}{a w:World}{B:Nat}(h:Fr S a w)(hB:B≤a.heap.size)(hS:∀k,k<B→¬S k):Below B a w:=
 ⟨h.os,h.tape,h.output,h.size,fun k hk=>h.block k (by omega) (hS k hk)⟩
theorem Fr.nv{w w':World}(h:Below w.heap.size w w'):Fr (fun _=>False) w w':=
 ⟨h.os,h.tape,h.output,h.size,fun k hk _=>h.block k hk⟩
theorem xv(w:World)(o1 o2:Obj):((w.alloc o1).alloc o2).heap[w.heap.size]? =some o1:=(Below.heap_alloc _ _ _ (by simp)).trans (heap_alloc_new w o1)
theorem pQ(w:World)(o1 o2:Obj):((w.alloc o1).alloc o2).heap[w.heap.size+1]? =some o2:=by
 have:=heap_alloc_new (w.alloc o1) o2;simpa using this
def bc(l:List UInt8):List Value:=l.map fun x=>Value.int .u8 (x.toNat:Int)
theorem cC(l:List UInt8):(bc l).length=l.length:=by simp[bc]
theorem vk(l:List UInt8):∀v∈bc l,v.oneCell'=true:=by
 intro v hv;simp only[bc,List.mem_map] at hv;obtain⟨x,_,rfl⟩:=hv;rfl
theorem bX(l m:List UInt8):bc (l++m)=bc l++bc m:=by simp[bc]
theorem kK(l:List UInt8)(n:Nat):bc (l.take n)=(bc l).take n:=by simp[bc,List.map_take]
theorem kL(l:List UInt8)(n:Nat):bc (l.drop n)=(bc l).drop n:=by simp[bc,List.map_drop]
theorem cN{P:Program}{a:Act}{w:World}{Q:Exit→Act→World→Prop}{c rest:Code}(l N:Nat)(W:World)(hf:findLabel c l=some rest)
  (first:c.wp P (Exit.jump l (fun a' w'=>w'=W∧a'.defers=[]∧a'.tmps.size=N) Q) a w)
  (behind:∀A:Act,A.defers=[]→A.tmps.size=N→rest.wp P (Exit.jump l (fun a' w'=>(w'=W∧a'.defers=[]∧a'.tmps.size=N)∧0<0) Q) A W):(Code.scope c).wp P Q a w:=
 wp_scope_jumps l (fun a' w'=>w'=W∧a'.defers=[]∧a'.tmps.size=N) (fun _ _=>0) hf first (by rintro A _ ⟨rfl,h1,h2⟩;exact behind A h1 h2)
theorem ao{l:Nat}{J:Act→World→Prop}{Q:Exit→Act→World→Prop}{a:Act}{w:World}:Exit.jump l J Q .ret a w=Q .ret a w:=rfl
theorem fX{w:World}{b:Nat}{l:List UInt8}{T:TypeId}(h:w.heap[b]? =some (.cells (bc l).toArray T (0,0)))(j:Nat)(hj:j<l.length):w.cell? ⟨b,j,none⟩=some (.int .u8 ((l[j]'hj).toNat:Int)):=by
 simp[World.cell?,h,bc,hj]
theorem qD{w:World}{b:Nat}{l:List Value}{T:TypeId}(h:w.heap[b]? =some (.cells l.toArray T (0,0)))(j:Nat):w.frozen? ⟨b,j,none⟩=false:=by
 simp[World.frozen?,h]
section
variable{P:Program}
theorem fQ{w:World}(src e dst:TypeId)(hs:P.underlying src=some (.slice e))(he:P.underlying e=some (.int .u8))(hd:P.underlying dst=some .string){b:Nat}{l:List UInt8}{T:TypeId}(h:w.heap[b]? =some (.cells (bc l).toArray T (0,0)))
  (at_ n cap:Nat)(hn:at_+n≤l.length):
  (convert src dst (.slice (some ⟨b,at_,none⟩) n cap)).run P w=.ok (.string ⟨((l.drop at_).take n).toArray⟩) w:=by
 have:=run_convert_bytes_arg (P:=P) w src e hs he b at_ n cap (((l.drop at_).take n).map fun x=>(x.toNat:Int)) (by simp;omega) (by
  intro i hi;rw[fX h (at_+i) (by omega)];have hi':i<((l.drop at_).take n).length:=by simp;omega
  simp[List.getD,hi,List.getElem?_drop,show at_+i<l.length by omega]) dst hd
 rw[this];simp[strOfNums,List.map_map,Function.comp_def]
theorem cY{w:World}(src e dst:TypeId)(hs:P.underlying src=some (.slice e))(he:P.underlying e=some (.int .u8))(hd:P.underlying dst=some .string)(b at_ cap:Nat):
  (convert src dst (.slice (some ⟨b,at_,none⟩) 0 cap)).run P w=.ok (.string ⟨#[]⟩) w:=by
 have:=run_convert_bytes_arg (P:=P) w src e hs he b at_ 0 cap [] rfl (by intro i hi;omega) dst hd;rw[this];rfl
theorem jR{w:World}(dT sT ty elem:TypeId)(hu:P.underlying dT=some (.slice elem))(hsz:(P.info? elem).map (·.size)=some 1){b:Nat}{l:List UInt8}{T:TypeId}(h:w.heap[b]? =some (.cells (bc l).toArray T (0,0)))
  (at_ dLen dCap:Nat)(s:ByteArray)(hs:s.size≤dLen)(hfit:at_+s.size≤l.length):
  (Builtin.copy_ #[dT,sT] ty #[.slice (some ⟨b,at_,none⟩) dLen dCap,.string s]).run P w=.ok (goInt s.size) (w.setRow b (bc (l.take at_++s.data.toList++l.drop (at_+s.size))).toArray):=by
 have hl:(bc s.data.toList).length=s.size:=by rw[cC,Array.length_toList];rfl
 have hst:=run_storeCells_at P b at_ T (bc s.data.toList) 0 (bc l).toArray w h (by rw[hl];simp only[List.size_toArray,cC];omega) (vk _);rw[hl] at hst;simp only[Nat.add_zero] at hst;have hmin:Nat.min s.size dLen=s.size:=Nat.min_eq_left hs;have hfc:(Builtin.firstCells 1 s.size (.string s)).run P w=.ok (bc s.data.toList).toArray w:=by
  simp[Builtin.firstCells,bc];apply Array.ext';simp
 have hrow:((bc l).toArray.toList.take at_++bc s.data.toList++(bc l).toArray.toList.drop (at_+s.size))=bc (l.take at_++s.data.toList++l.drop (at_+s.size)):=by
  rw[bX,bX,kK,kL]
 rw[hrow] at hst;cases hq:P.info? elem with
 |none=>rw[hq] at hsz;cases hsz
 |some i=>
  have hi:i.size=1:=by rw[hq] at hsz;simpa using hsz
  simp[Builtin.copy_,run_underlying hu,Builtin.lenOf,sizeOf,typeInfo,hq,hi,hmin,hfc,hst]
theorem ec{w:World}(dT sT ty elem:TypeId)(hu:P.underlying dT=some (.slice elem))(hsz:(P.info? elem).map (·.size)=some 1)(a:Option Addr)(dLen dCap:Nat)(s:ByteArray)(hs:s.size=0):
  (Builtin.copy_ #[dT,sT] ty #[.slice a dLen dCap,.string s]).run P w=.ok (goInt 0) w:=by
 have hmin:Nat.min s.size dLen=0:=by rw[hs];exact Nat.zero_min _
 cases hq:P.info? elem with
 |none=>rw[hq] at hsz;cases hsz
 |some i=>
  have hi:i.size=1:=by rw[hq] at hsz;simpa using hsz
  cases a<;>simp[Builtin.copy_,run_underlying hu,Builtin.lenOf,sizeOf,typeInfo,hq,hmin,Builtin.firstCells,storeCells]
theorem gS{w:World}(dT ty elem:TypeId)(hu:P.underlying dT=some (.slice elem))(hsz:(P.info? elem).map (·.size)=some 1){b:Nat}{l:List UInt8}{T:TypeId}(h:w.heap[b]? =some (.cells (bc l).toArray T (0,0)))
  (to fro n c1 c2:Nat)(h1:to+n≤l.length)(h2:fro+n≤l.length):
  (Builtin.copy_ #[dT,dT] ty #[.slice (some ⟨b,to,none⟩) n c1,.slice (some ⟨b,fro,none⟩) n c2]).run P w=.ok (goInt n) (w.setRow b (bc (l.take to++(l.drop fro).take n++l.drop (to+n))).toArray):=by
 have hl:(bc ((l.drop fro).take n)).length=n:=by rw[cC];simp;omega
 have:=run_copy_row (P:=P) w dT dT ty elem b to n c1 ⟨b,fro,none⟩ n c2 (bc l).toArray T (bc ((l.drop fro).take n)) hu hsz h (by rw[hl];simp) (by
  intro j v hj;have hjl:j<n:=by have:=(List.getElem?_eq_some_iff.1 hj).1;omega
  have hadd:(⟨b,fro,none⟩:Addr).add j=⟨b,fro+j,none⟩:=by unfold Addr.add;split<;>simp_all
  rw[hadd,fX h (fro+j) (by omega),←hj];simp[bc,hjl,show fro+j<l.length by omega]) (by rw[hl];simp only[List.size_toArray,cC];omega) (vk _)
 rw[hl] at this;rw[this,bX,bX,kK,kL,kK,kL]
theorem jS{w:World}(dT ty elem:TypeId)(z:TypeInfo)(hu:P.underlying dT=some (.slice elem))(hi:P.info? elem=some z)(hz:z.zero=some (.int .u8 0)){b:Nat}{l:List UInt8}{T:TypeId}(h:w.heap[b]? =some (.cells (bc l).toArray T (0,0)))
  (at_ n cap:Nat)(hn:0<n)(hfit:at_+n≤l.length):
  (Builtin.clear_ #[dT] ty #[.slice (some ⟨b,at_,none⟩) n cap]).run P w=.ok (.tuple #[]) (w.setRow b (bc (l.take at_++List.replicate n 0++l.drop (at_+n))).toArray):=by
 have hl:(bc (List.replicate n 0)).length=n:=by rw[cC];simp
 have hst:=run_storeCells_at P b at_ T (bc (List.replicate n 0)) 0 (bc l).toArray w h (by rw[hl];simp only[List.size_toArray,cC];omega) (vk _);rw[hl] at hst;simp only[Nat.add_zero] at hst;have hrow:((bc l).toArray.toList.take at_++bc (List.replicate n 0)++(bc l).toArray.toList.drop (at_+n))=bc (l.take at_++List.replicate n 0++l.drop (at_+n)):=by
  rw[bX,bX,kK,kL]
 rw[hrow] at hst;have hzc:(Builtin.zeroCells (Value.int .u8 0).cells n).toList=bc (List.replicate n 0):=by
  apply List.ext_getElem
  ·simp[Builtin.zeroCells,bc,Value.cells]
  ·intro i h1 h2;simp[Builtin.zeroCells,bc,Value.cells,Nat.mod_one]
 obtain⟨m,rfl⟩:∃m,n=m+1:=⟨n - 1,by omega⟩;simp[Builtin.clear_,run_underlying hu,zeroValue,typeInfo,hi,hz,hzc,hst]
theorem iX{w:World}(dT ty elem:TypeId)(hu:P.underlying dT=some (.slice elem))(a:Option Addr)(cap:Nat):
  (Builtin.clear_ #[dT] ty #[.slice a 0 cap]).run P w=.ok (.tuple #[]) w:=by
 cases a<;>simp[Builtin.clear_,run_underlying hu]
theorem bO(w:World)(base:Nat)(t ty e:TypeId)(i:TypeInfo)(z:Value)(size bytes:Nat)(ht:P.underlying t=some (.slice e))(hi:P.info? e=some i)(hz:i.zero=some z)
  (hsize:i.size=size)(hby:i.bytes=bytes)(hzs:z.cells.size=size)(hsz:0<size)
  (v:Value)(n:Nat)(xs:List Value)(hown:w.ownsRow base e size v n xs)
  (a:Addr)(m c:Nat)(hm:0<m)(news:List Value)(hl:news.length=m * size)(hnews:∀j u,news[j]? =some u→w.cell? (a.add j)=some u)(h1:∀u∈news,u.oneCell'=true)
  (h63:n+m≤maxLen)(hbytes:(n+m) * bytes≤140737488355328)(hbase:base≤w.heap.size):
  ∃g cap w',(Builtin.append_ #[t,t] ty #[v,.slice (some a) m c]).run P w=.ok (.slice (some ⟨g,0,none⟩) (n+m) cap) w'∧w'.ownsRow base e size (.slice (some ⟨g,0,none⟩) (n+m) cap) (n+m) (xs++news)∧w.grownBy w' v.ownBlock∧
   (v.ownBlock=some g∨g=w.heap.size):=by
 obtain⟨v',w',hr,ho,hgr,hnil⟩:=run_append_own (P:=P) w base t ty e i z size bytes ht hi hz hsize hby hzs hsz v n xs hown a m c news hl hnews h1 h63 hbytes hbase;have h63':((n+m:Nat):Int)≤9223372036854775807:=by simp only[maxLen] at h63;omega
 subst hsize;subst hby;obtain⟨g,cap,rfl⟩:∃g cap,v'=.slice (some ⟨g,0,none⟩) (n+m) cap:=by
  rcases ho.2 with⟨h0,h2⟩|⟨g,cap,_,h2,_⟩
  ·omega
  ·exact⟨g,cap,h2⟩
 refine⟨g,cap,w',hr,ho,hgr,?_⟩;rcases hown.2 with⟨rfl,rfl⟩|⟨g',cap',cur,rfl,hbg,hg,hnc,hcm,hcs,htake⟩
 ·have hr2:=run_append_nil (P:=P) w t ty e i z ht hi hz a m c news hl hnews hm (by omega) (by have hb:=hbytes;simp only[Nat.zero_add] at hb;omega);rw[hr] at hr2;simp only[Result.ok.injEq,Value.slice.injEq,Option.some.injEq,Addr.mk.injEq] at hr2;exact .inr hr2.1.1.1
 ·by_cases hroom:n+m≤cap'
  ·have hfit:n * i.size+news.length≤cur.size:=by rw[hl,hcs,←Nat.add_mul];exact Nat.mul_le_mul_right _ hroom
   have hr2:=run_append_room (P:=P) w t ty e i ht hi g' n cap' cur hg a m c news hl hnews h1 hroom hfit;rw[hr] at hr2;simp only[Result.ok.injEq,Value.slice.injEq,Option.some.injEq,Addr.mk.injEq] at hr2;exact .inl (by rw[hr2.1.1.1];rfl)
  ·have hr2:=run_append_grow (P:=P) w t ty e i z ht hi hz ⟨g',0,none⟩ n cap' xs hown.1 (hown.cells (g:=g') rfl) a m c news hl hnews (by omega) h63' (growslice_fits (by omega) hbytes);rw[hr] at hr2;simp only[Result.ok.injEq,Value.slice.injEq,Option.some.injEq,Addr.mk.injEq] at hr2;exact .inr hr2.1.1.1
theorem aE{w:World}{ops:Array Oper}{rest:List Oper}{o:Oper}{a:Act}{Q:Exit→Act→World→Prop}(hgd:o.guard=none)(s x:Operand)(t:TypeId)
  (ho:o.op=.call { callee:=.builtin .append,args:=#[s,x],argTypes:=#[t,t] })
  (base:Nat)(e:TypeId)(i:TypeInfo)(z:Value)(size bytes:Nat)(ht:P.underlying t=some (.slice e))(hi:P.info? e=some i)(hz:i.zero=some z)
  (hsize:i.size=size)(hby:i.bytes=bytes)(hzs:z.cells.size=size)(hsz:0<size)
  (v:Value)(n:Nat)(xs:List Value)(hs:a.eval s=v)(hown:w.ownsRow base e size v n xs)
  (ad:Addr)(m c:Nat)(hm:0<m)(news:List Value)(hx:a.eval x=.slice (some ad) m c)(hl:news.length=m * size)(hnews:∀j u,news[j]? =some u→w.cell? (ad.add j)=some u)(h1:∀u∈news,u.oneCell'=true)
  (h63:n+m≤maxLen)(hbytes:(n+m) * bytes≤140737488355328)(hbase:base≤w.heap.size)
  (h:∀g cap w',w'.ownsRow base e size (.slice (some ⟨g,0,none⟩) (n+m) cap) (n+m) (xs++news)→w.grownBy w' v.ownBlock→(v.ownBlock=some g∨g=w.heap.size)→wpList P ops Q rest (a.put o.dst (.slice (some ⟨g,0,none⟩) (n+m) cap)) w'):wpList P ops Q (o::rest) a w:=by
 refine wpList_plain hgd fun K hK=> ?_
 obtain⟨g,cap,w',hr,h2,h3,h4⟩:=bO (P:=P) w base t o.type e i z size bytes ht hi hz hsize hby hzs hsz v n xs hown ad m c hm news hl hnews h1 h63 hbytes hbase;unfold Oper.wp;simp[execOp,ho,resolve,invoke,builtin,hs,hx,hr,Result.andThen];exact hK _ _ (h g cap w' h2 h3 h4)
end
theorem frOf{w w':World}(f:∃m,w'=w.drewN m):Fr (fun _=>False) w w':=by obtain⟨m,rfl⟩:=f;exact(Fr.refl _ w).drewN m
def az(w:World)(ad:Option Addr)(l:List Int):Prop:=∀i (h:i<l.length),∃b off,ad=some ⟨b,off,none⟩∧b<w.heap.size∧w.cell? ⟨b,off+i,none⟩=some (.int .i64 l[i])
def Off(Z:Nat→Prop)(ad:Option Addr)(l:List Int):Prop:=∀b off,ad=some ⟨b,off,none⟩→0<l.length→¬Z b
theorem az.carry{S:Nat→Prop}{w w':World}{ad:Option Addr}{l:List Int}(h:az w ad l)(hf:Fr S w w')(ho:Off S ad l):az w' ad l:=fun i hi=>by
 obtain⟨b,off,h1,h2,h3⟩:=h i hi;exact⟨b,off,h1,by have:=hf.size;omega,(World.cell?_of_block (hf.block b h2 (ho b off h1 (by omega)))).trans h3⟩
theorem az.fr{w w':World}{ad:Option Addr}{l:List Int}(h:az w ad l)(hf:Fr (fun _=>False) w w'):az w' ad l:=h.carry hf fun _ _ _ _ e=>e
theorem az.alloc{w:World}{ad:Option Addr}{l:List Int}(h:az w ad l)(o:Obj):az (w.alloc o) ad l:=h.fr ((Fr.refl _ _).alloc o)
theorem tD(w:World)(ad:Option Addr):az w ad []:=fun i hi=>by simp at hi
def Nw(w0 w:World):Prop:=Fr (fun k=>w0.heap.size≤k) w0 w
theorem Nw.start(w:World):Nw w w:=Fr.refl _ _
theorem Nw.on{S:Nat→Prop}{w0 w w':World}(h:Nw w0 w)(f:Fr S w w')(hs:∀i,S i→w0.heap.size≤i):Nw w0 w':=Fr.trans' h f fun i _ e=>hs i e
theorem Nw.kept{w0 w w':World}(h:Nw w0 w)(f:Fr (fun _=>False) w w'):Nw w0 w':=h.on f fun _ e=>e.elim
theorem Nw.fr{w0 w:World}(h:Nw w0 w):Fr (fun _=>False) w0 w:=Fr.new h
theorem Nw.le{w0 w:World}(h:Nw w0 w):w0.heap.size≤w.heap.size:=h.size
theorem Tryz.iB:(Tryz.prog.info? 3).map (fun i=>(i.zero,i.size,i.bytes))=some (some (.int .i64 0),1,8):=by kernel_rfl
def ic(l:List Int):List Value:=l.map fun x=>Value.int .i64 x
theorem iC(l:List Int):(ic l).length=l.length:=by simp[ic]
theorem uf(l:List Int):∀u∈ic l,u.oneCell'=true:=by
 intro v hv;simp only[ic,List.mem_map] at hv;obtain⟨x,_,rfl⟩:=hv;rfl
theorem BC(l:List Int)(x:Int):ic (l++[x])=ic l++[.int .i64 x]:=by simp[ic]
theorem gh{w:World}{base g cap:Nat}{l:List Int}(h:w.ownsRow base 3 1 (.slice (some ⟨g,0,none⟩) l.length cap) l.length (ic l)):az w (some ⟨g,0,none⟩) l:=fun i hi=>by
 refine⟨g,0,rfl,(h.lt g rfl).2,?_⟩;have:=h.cells (g:=g) rfl i (.int .i64 l[i]) (by simp[ic,hi]);rw[add_plain] at this;exact this
theorem fW{w:World}{base:Nat}{y:Value}{ys:List Int}(h:w.ownsRow base 3 1 y ys.length (ic ys)):∃yad ycap,y=.slice yad ys.length ycap∧az w yad ys∧∀b off,yad=some ⟨b,off,none⟩→base≤b:=by
 rcases h.2 with⟨e1,e2⟩|⟨g,cap,cur,e1,hb,_⟩
 ·have e3:ys=[]:=List.eq_nil_of_length_eq_zero e2;subst e3;exact⟨none,0,e1,fun i hi=>by simp at hi,fun b off e=>by cases e⟩
 ·subst e1;exact⟨_,_,rfl,gh h,fun b off e=>by simp only[Option.some.injEq,Addr.mk.injEq] at e;omega⟩
theorem wH{w w':World}{B:Nat}{l:List Int}{T:TypeId}(h:w.heap[B]? =some (.cells (ic l).toArray T (0,0)))(f:Fr (fun _=>False) w w'):az w' (some ⟨B,0,none⟩) l:=fun i hi=>by
 have hb:=(Array.getElem?_eq_some_iff.1 h).1;refine⟨B,0,rfl,by have:=f.size;omega,?_⟩;rw[World.cell?_of_block (f.block B hb id)];simp[World.cell?,h,hi,ic]
structure Gw(w w':World)(Z Z':Nat→Prop):Prop where
 more:∀i,Z i→Z' i
 new:∀i,Z' i→Z i∨w.heap.size≤i
 lt:∀i,Z' i→i<w'.heap.size
 fr:Fr Z w w'
theorem Gw.same{w w':World}{Z:Nat→Prop}(h:∀i,Z i→i<w.heap.size)(f:Fr Z w w'):Gw w w' Z Z:=⟨fun _=>id,fun _=>.inl,fun i hi=>Nat.lt_of_lt_of_le (h i hi) f.size,f⟩
theorem Gw.trans{w w1 w2:World}{Z Z1 Z2:Nat→Prop}(h:Gw w w1 Z Z1)(k:Gw w1 w2 Z1 Z2):Gw w w2 Z Z2:=
 ⟨fun i hi=>k.more i (h.more i hi),fun i hi=>by
  rcases k.new i hi with e|e
  ·exact h.new i e
  ·exact .inr (Nat.le_trans h.fr.size e),k.lt,Fr.trans' h.fr k.fr fun i hi e=>by
  rcases h.new i e with e|e
  ·exact e
  ·omega⟩
theorem Gw.ahead{w w1 w2:World}{Z Z2:Nat→Prop}(h:Fr (fun _=>False) w w1)(k:Gw w1 w2 Z Z2):Gw w w2 Z Z2:=
 ⟨k.more,fun i hi=>by
  rcases k.new i hi with e|e
  ·exact .inl e
  ·exact .inr (Nat.le_trans h.size e),k.lt,Fr.trans' (h.mono fun _ _ e=>e.elim) k.fr fun _ _ e=>e⟩
structure Good(P:World→(Nat→Prop)→Prop):Prop where
 carry:∀{w w':World} {Z S:Nat→Prop},P w Z→Fr S w w'→(∀i,Z i→¬S i)→P w' Z
 mono:∀{w:World} {Z Z':Nat→Prop},P w Z→(∀i,Z i→Z' i)→(∀i,Z' i→i<w.heap.size)→P w Z'
theorem Good.kept{P:World→(Nat→Prop)→Prop}(h:Good P){w w':World}{Z:Nat→Prop}(p:P w Z)(f:Fr (fun _=>False) w w'):P w' Z:=h.carry p f fun _ _=>id
structure Lb(W w:World)(o:Nat→Nat):Prop where
 nw:Nw W w
 dom:∀i,o i≠0→W.heap.size≤i∧i<w.heap.size
def lab(o:Nat→Nat)(j:Nat):Nat→Prop:=fun i=>o i=j
section
variable{W w w':World}{o:Nat→Nat}
theorem Lb.start(h:Nw W w):Lb W w (fun _=>0):=⟨h,fun _ e=>(e rfl).elim⟩
theorem Lb.kept(h:Lb W w o)(f:Fr (fun _=>False) w w'):Lb W w' o:=⟨h.nw.kept f,fun i hi=>by have:=h.dom i hi;have:=f.size;omega⟩
theorem Lb.lt(h:Lb W w o){j:Nat}(hj:j≠0):∀i,lab o j i→i<w.heap.size:=fun i hi=>(h.dom i (by unfold lab at hi;omega)).2
theorem Lb.old(h:Lb W w o){j:Nat}(hj:j≠0):∀i,lab o j i→W.heap.size≤i:=fun i hi=>(h.dom i (by unfold lab at hi;omega)).1
theorem Lb.step(h:Lb W w o){j:Nat}(hj:j≠0){Z':Nat→Prop}(g:Gw w w' (lab o j) Z'):∃o',Lb W w' o'∧(∀P,Good P→P w' Z'→P w' (lab o' j))∧(∀k,k≠0→k≠j→∀P,Good P→P w (lab o k)→P w' (lab o' k))∧(∀i,w.heap.size≤i→¬Z' i→o' i=0)∧∀i,o' i≠0→o' i=j∨o i=o' i:=by
 classical
 have hs:=g.fr.size;refine⟨fun i=>if i<w.heap.size then o i else if Z' i then j else 0,⟨h.nw.on g.fr (h.old hj),fun i hi=> ?_⟩,fun P hP p=>hP.mono p (fun i hi=> ?_) fun i hi=> ?_,fun k hk hkj P hP p=>hP.mono (hP.carry p g.fr fun i hi e=>hkj ?_) (fun i hi=> ?_) fun i hi=> ?_,fun i h1 h2=> ?_,fun i hi=> ?_⟩
 ·by_cases h1:i<w.heap.size
  ·simp only[if_pos h1] at hi;have:=h.dom i hi;omega
  ·simp only[if_neg h1] at hi;by_cases h2:Z' i
   ·have:=g.lt i h2;have:=h.nw.le;omega
   ·simp[h2] at hi
 ·show(if i<w.heap.size then o i else if Z' i then j else 0)=j;by_cases h1:i<w.heap.size
  ·rw[if_pos h1];rcases g.new i hi with e|e
   ·exact e
   ·omega
  ·rw[if_neg h1,if_pos hi]
 ·have hi:(if i<w.heap.size then o i else if Z' i then j else 0)=j:=hi;by_cases h1:i<w.heap.size
  ·omega
  ·rw[if_neg h1] at hi;by_cases h2:Z' i
   ·exact g.lt i h2
   ·rw[if_neg h2] at hi;exact(hj hi.symm).elim
 ·have h1:o i=k:=hi;have h2:o i=j:=e;omega
 ·have h1:o i=k:=hi;show(if i<w.heap.size then o i else if Z' i then j else 0)=k;rw[if_pos (h.dom i (by omega)).2];exact h1
 ·have hi:(if i<w.heap.size then o i else if Z' i then j else 0)=k:=hi;by_cases h1:i<w.heap.size
  ·omega
  ·rw[if_neg h1] at hi;by_cases h2:Z' i
   ·rw[if_pos h2] at hi;exact(hkj hi.symm).elim
   ·rw[if_neg h2] at hi;exact(hk hi.symm).elim
 ·show(if i<w.heap.size then o i else if Z' i then j else 0)=0;rw[if_neg (by omega),if_neg h2]
 ·show(if i<w.heap.size then o i else if Z' i then j else 0)=j∨o i=(if i<w.heap.size then o i else if Z' i then j else 0);have hi:(if i<w.heap.size then o i else if Z' i then j else 0)≠0:=hi;by_cases h1:i<w.heap.size
  ·rw[if_pos h1];exact .inr rfl
  ·rw[if_neg h1] at hi ⊢;by_cases h2:Z' i
   ·rw[if_pos h2];exact .inl rfl
   ·rw[if_neg h2] at hi;exact(hi rfl).elim
theorem Lb.name(h:Lb W w o){j:Nat}(hn:∀i,o i≠j){Z:Nat→Prop}(hz:∀i,Z i→o i=0∧W.heap.size≤i∧i<w.heap.size):∃o',Lb W w o'∧(∀P,Good P→P w Z→P w (lab o' j))∧(∀k,k≠0→k≠j→∀P,Good P→P w (lab o k)→P w (lab o' k))∧∀i,o' i≠0→o' i=j∨o i=o' i:=by
 classical
 refine⟨fun i=>if Z i then j else o i,⟨h.nw,fun i hi=> ?_⟩,fun P hP p=>hP.mono p (fun i hi=>if_pos hi) fun i hi=> ?_,fun k hk hkj P hP p=>hP.mono p (fun i hi=> ?_) fun i hi=> ?_,fun i _=> ?_⟩
 ·by_cases h1:Z i
  ·exact(hz i h1).2
  ·simp only[if_neg h1] at hi;exact h.dom i hi
 ·by_cases h1:Z i
  ·exact(hz i h1).2.2
  ·have hi:(if Z i then j else o i)=j:=hi;rw[if_neg h1] at hi;exact(hn i hi).elim
 ·have h1:o i=k:=hi;show(if Z i then j else o i)=k;rw[if_neg fun e=>by have:=(hz i e).1;omega];exact h1
 ·have hi:(if Z i then j else o i)=k:=hi;by_cases h1:Z i
  ·exact(hz i h1).2.2
  ·rw[if_neg h1] at hi;exact h.lt hk i hi
 ·show(if Z i then j else o i)=j∨o i=(if Z i then j else o i);by_cases h1:Z i
  ·rw[if_pos h1];exact .inl rfl
  ·rw[if_neg h1];exact .inr rfl
end
def aa(W w:World)(ts:List (World→(Nat→Prop)→Prop)):Prop:=
 ∃o,Lb W w o∧(∀i,o i≤ts.length)∧(∀P∈ts,Good P)∧∀(j:Nat) (P:World→(Nat→Prop)→Prop),ts[j]? =some P→P w (lab o (j+1))
section
variable{W w w':World}{ts:List (World→(Nat→Prop)→Prop)}{P P':World→(Nat→Prop)→Prop}
theorem aa.start(h:Nw W w):aa W w []:=⟨fun _=>0,Lb.start h,fun _=>Nat.zero_le _,fun P hP=>by simp at hP,fun j P hj=>by simp at hj⟩
theorem aa.nw(h:aa W w ts):Nw W w:=by obtain⟨o,h,_⟩:=h;exact h.nw
theorem aa.kept(h:aa W w ts)(f:Fr (fun _=>False) w w'):aa W w' ts:=by
 obtain⟨o,h1,h2,h3,h4⟩:=h;exact⟨o,h1.kept f,h2,h3,fun j P hj=>(h3 P (List.mem_of_getElem? hj)).kept (h4 j P hj) f⟩
theorem aa.get(h:aa W w ts)(j:Nat)(hj:ts[j]? =some P):∃U,P w U∧∀i,U i→W.heap.size≤i:=by
 obtain⟨o,h1,_,_,h4⟩:=h;exact⟨_,h4 j P hj,h1.old (by omega)⟩
theorem aa.turn(h:aa W w ts)(j:Nat)(hj:ts[j]? =some P):∃U,P w U∧(∀i,U i→W.heap.size≤i∧i<w.heap.size)∧∀P' w' U',Good P'→P' w' U'→Gw w w' U U'→aa W w' (ts.set j P'):=by
 obtain⟨o,h1,h2,h3,h4⟩:=h;refine⟨_,h4 j P hj,fun i hi=>⟨h1.old (by omega) i hi,h1.lt (j:=j+1) (by omega) i hi⟩,fun P' w' U' hP hp g=> ?_⟩;have hjl:=(List.getElem?_eq_some_iff.1 hj).1;obtain⟨o',l1,l2,l3,l4,l5⟩:=h1.step (j:=j+1) (by omega) g;refine⟨o',l1,fun i=> ?_,fun R hR=> ?_,fun m R hm=> ?_⟩
 ·rw[List.length_set];by_cases h0:o' i=0
  ·omega
  ·rcases l5 i h0 with e|e
   ·omega
   ·rw[←e];exact h2 i
 ·rcases List.mem_or_eq_of_mem_set hR with e|rfl
  ·exact h3 R e
  ·exact hP
 ·rw[List.getElem?_set] at hm;split at hm
  case isTrue e=>
   subst e;simp only[Option.some.injEq] at hm;subst hm;exact l2 _ hP hp
  case isFalse e=>exact l3 (m+1) (by omega) (by omega) R (h3 R (List.mem_of_getElem? hm)) (h4 m R hm)
theorem aa.lift(h:aa W w ts)(j:Nat)(hj:ts[j]? =some P)(hP:Good P'){Pg:Program}{F:Nat}{args:Array Value}{R:Ending→Prop}
  (base:∀U,P w U→Calls Pg F args w fun e w'=>R e∧∃U',P' w' U'∧Gw w w' U U'):Calls Pg F args w fun e w'=>R e∧aa W w' (ts.set j P'):=by
 obtain⟨U,h1,_,h2⟩:=h.turn j hj;exact(base U h1).mono fun e w' ⟨he,U',g1,g2⟩=>⟨he,h2 P' w' U' hP g1 g2⟩
theorem aa.ask(h:aa W w ts)(j:Nat)(hj:ts[j]? =some P){Pg:Program}{F:Nat}{args:Array Value}{R:Ending→Prop}
  (base:∀U,P w U→Calls Pg F args w fun e w'=>R e∧Fr (fun _=>False) w w'):Calls Pg F args w fun e w'=>R e∧aa W w' ts:=by
 obtain⟨U,h1,_⟩:=h.get j hj;exact(base U h1).mono fun e w' ⟨he,f⟩=>⟨he,h.kept f⟩
theorem aa.more(h:aa W w ts)(hP:Good P'){Z:Nat→Prop}(hp:P' w' Z)(f:Fr (fun _=>False) w w')(hz:∀i,Z i→w.heap.size≤i∧i<w'.heap.size):aa W w' (ts++[P']):=by
 obtain⟨o,h1,h2,h3,h4⟩:=h;obtain⟨o',l1,l2,l3,l4⟩:=(h1.kept f).name (j:=ts.length+1) (fun i=>by have:=h2 i;omega) (Z:=Z) fun i hi=>⟨Classical.byContradiction fun e=>by have:=(h1.dom i e).2;have:=(hz i hi).1;omega,by have:=(hz i hi).1;have:=h1.nw.le;omega,(hz i hi).2⟩
 refine⟨o',l1,fun i=> ?_,fun R hR=> ?_,fun m R hm=> ?_⟩
 ·rw[List.length_append,List.length_singleton];by_cases h0:o' i=0
  ·omega
  ·rcases l4 i h0 with e|e
   ·omega
   ·have:=h2 i;omega
 ·rw[List.mem_append,List.mem_singleton] at hR;rcases hR with e|rfl
  ·exact h3 R e
  ·exact hP
 ·by_cases hlt:m<ts.length
  ·rw[List.getElem?_append_left hlt] at hm;have hG:=h3 R (List.mem_of_getElem? hm);exact l3 (m+1) (by omega) (by omega) R hG (hG.kept (h4 m R hm) f)
  ·rw[List.getElem?_append_right (by omega)] at hm;have hm0:m - ts.length=0:=by
    have:=(List.getElem?_eq_some_iff.1 hm).1;simpa using this
   rw[hm0] at hm;simp only[List.getElem?_cons_zero,Option.some.injEq] at hm;subst hm;rw[show m=ts.length by omega];exact l2 _ hP hp
theorem aa.less{R:World→(Nat→Prop)→Prop}(h:aa W w (ts++[R])):aa W w ts:=by
 classical
 obtain⟨o,h1,h2,h3,h4⟩:=h;refine⟨fun i=>if o i=ts.length+1 then 0 else o i,⟨h1.nw,fun i hi=> ?_⟩,fun i=> ?_,fun Q hQ=>h3 Q (List.mem_append_left _ hQ),fun j Q hj=> ?_⟩
 ·by_cases e:o i=ts.length+1
  ·simp[e] at hi
  ·simp only[if_neg e] at hi;exact h1.dom i hi
 ·show(if o i=ts.length+1 then 0 else o i)≤ts.length;have:=h2 i;simp only[List.length_append,List.length_singleton] at this;split<;>omega
 ·have hjl:=(List.getElem?_eq_some_iff.1 hj).1;have hG:=h3 Q (List.mem_append_left _ (List.mem_of_getElem? hj));have hp:=h4 j Q (by rw[List.getElem?_append_left hjl];exact hj);refine hG.mono hp (fun i hi=> ?_) fun i hi=> ?_
  ·have h5:o i=j+1:=hi;show(if o i=ts.length+1 then 0 else o i)=j+1;rw[if_neg (by omega)];exact h5
  ·have h5:(if o i=ts.length+1 then 0 else o i)=j+1:=hi;split at h5
   ·omega
   ·exact h1.lt (j:=j+1) (by omega) i h5
end
def Blk(B:Nat)(ob:Obj)(w:World)(Z:Nat→Prop):Prop:=w.heap[B]? =some ob∧Z B∧∀i,Z i→i<w.heap.size
theorem Blk.good(B:Nat)(ob:Obj):Good (Blk B ob):=
 ⟨fun h f hs=>⟨by rw[f.block B (h.2.2 B h.2.1) (hs B h.2.1)];exact h.1,h.2.1,fun i hi=>Nat.lt_of_lt_of_le (h.2.2 i hi) f.size⟩,fun h h1 h2=>⟨h.1,h1 _ h.2.1,h2⟩⟩
theorem Blk.new(w:World)(ob:Obj):Blk w.heap.size ob (w.alloc ob) (fun i=>i=w.heap.size):=⟨heap_alloc_new w ob,rfl,fun i hi=>by simp only[World.size_alloc];omega⟩
def Lv(ad:Option Addr)(l:List Int)(w:World)(Z:Nat→Prop):Prop:=az w ad l∧(∀b off,ad=some ⟨b,off,none⟩→0<l.length→Z b)∧∀i,Z i→i<w.heap.size
theorem Lv.good(ad:Option Addr)(l:List Int):Good (Lv ad l):=
 ⟨fun h f hs=>⟨h.1.carry f fun b off e h0=>hs b (h.2.1 b off e h0),h.2.1,fun i hi=>Nat.lt_of_lt_of_le (h.2.2 i hi) f.size⟩,fun h h1 h2=>⟨h.1,fun b off e h0=>h1 b (h.2.1 b off e h0),h2⟩⟩
theorem Lv.new{w:World}{ad:Option Addr}{l:List Int}(h:az w ad l):Lv ad l w (fun b=>(∃off,ad=some ⟨b,off,none⟩)∧0<l.length):=
 ⟨h,fun b off e h0=>⟨⟨off,e⟩,h0⟩,fun i ⟨⟨off,e⟩,h0⟩=>by
  obtain⟨b,off',e1,e2,_⟩:=h 0 h0;rw[e] at e1;simp only[Option.some.injEq,Addr.mk.injEq] at e1;omega⟩
def Rw(base:Nat)(y:Value)(l:List Int)(w:World)(Z:Nat→Prop):Prop:=w.ownsRow base 3 1 y l.length (ic l)∧(∀g,y.ownBlock=some g→Z g)∧∀i,Z i→i<w.heap.size
theorem du{w w':World}{base:Nat}{v:Value}{S:Nat→Prop}{e:TypeId}{size n:Nat}{xs:List Value}(h:w.ownsRow base e size v n xs)(f:Fr S w w')(hs:∀x,v.ownBlock=some x→¬S x):w'.ownsRow base e size v n xs:=by
 obtain⟨h1,h2⟩:=h;refine⟨h1,?_⟩;rcases h2 with h2|⟨g,cap,cur,rfl,hb,hc,rest⟩
 ·exact .inl h2
 ·exact .inr ⟨g,cap,cur,rfl,hb,by rw[f.block g (Array.getElem?_eq_some_iff.1 hc).1 (hs g rfl)];exact hc,rest⟩
theorem Rw.good(base:Nat)(y:Value)(l:List Int):Good (Rw base y l):=
 ⟨fun h f hs=>⟨du h.1 f fun x e=>hs x (h.2.1 x e),h.2.1,fun i hi=>Nat.lt_of_lt_of_le (h.2.2 i hi) f.size⟩,fun h h1 h2=>⟨h.1,fun g e=>h1 g (h.2.1 g e),h2⟩⟩
theorem Rw.empty(base:Nat)(w:World):Rw base (.slice none 0 0) [] w (fun _=>False):=⟨⟨rfl,.inl ⟨rfl,rfl⟩⟩,fun g e=>by simp[Value.ownBlock] at e,fun _ e=>e.elim⟩
theorem Rw.grow{base g m m2 cap:Nat}{y:Value}{l:List Int}{x:Int}{w w':World}{Z:Nat→Prop}(h:Rw base y l w Z){w0:World}(f:Fr (fun _=>False) w w0)(hown:w'.ownsRow base 3 1 (.slice (some ⟨g,0,none⟩) m cap) m2 (ic (l++[x])))(hm:m2=l.length+1)(hg:w0.grownBy w' y.ownBlock)(hw:y.ownBlock=some g∨w.heap.size≤g):∃Z',Rw base (.slice (some ⟨g,0,none⟩) m cap) (l++[x]) w' Z'∧Gw w w' Z Z':=by
 have hs:=f.size;have hlt:∀i,(Z i∨i=g)→i<w'.heap.size:=fun i hi=>by
  rcases hi with hi|rfl
  ·have:=h.2.2 i hi;have:=hg.size;omega
  ·exact(hown.lt i rfl).2
 refine⟨fun i=>Z i∨i=g,⟨by subst hm;rw[List.length_append];exact hown,fun g' e=>.inr (by simpa [Value.ownBlock] using e.symm),hlt⟩,⟨fun _=>.inl,fun i hi=> ?_,hlt,(f.mono fun _ _ e=>e.elim).grown hg fun k e=>.inl (h.2.1 k e)⟩⟩;rcases hi with hi|rfl
 ·exact .inl hi
 ·rcases hw with e|e
  ·exact .inl (h.2.1 i e)
  ·exact .inr e
theorem aa.push{W w:World}{ts:List (World→(Nat→Prop)→Prop)}(h:aa W w ts)(j:Nat){base:Nat}{y:Value}{l:List Int}(hj:ts[j]? =some (Rw base y l)):w.ownsRow base 3 1 y l.length (ic l)∧∀{w0 w':World} {g m m2 cap:Nat} {x:Int},Fr (fun _=>False) w w0→w'.ownsRow base 3 1 (.slice (some ⟨g,0,none⟩) m cap) m2 (ic (l++[x]))→m2=l.length+1→w0.grownBy w' y.ownBlock→(y.ownBlock=some g∨w.heap.size≤g)→aa W w' (ts.set j (Rw base (.slice (some ⟨g,0,none⟩) m cap) (l++[x]))):=by
 obtain⟨U,h1,_,h2⟩:=h.turn j hj;refine⟨h1.1,fun f ho hm hg hw=> ?_⟩;obtain⟨Z',r1,r2⟩:=h1.grow f ho hm hg hw;exact h2 _ _ Z' (Rw.good _ _ _) r1 r2
theorem aa.nums{W w:World}{ts:List (World→(Nat→Prop)→Prop)}(h:aa W w ts)(j:Nat){ad:Option Addr}{l:List Int}(hj:ts[j]? =some (Lv ad l)):az w ad l:=by
 obtain⟨U,h1,_⟩:=h.get j hj;exact h1.1
theorem aa.row{W w:World}{ts:List (World→(Nat→Prop)→Prop)}(h:aa W w ts)(j:Nat){base:Nat}{y:Value}{l:List Int}(hj:ts[j]? =some (Rw base y l)):∃ad cap,y=.slice ad l.length cap∧az w ad l:=by
 obtain⟨U,h1,_⟩:=h.get j hj;obtain⟨ad,cap,e,hn,_⟩:=fW h1.1;exact⟨ad,cap,e,hn⟩
theorem bg:Maps.Keyed Tryz.prog 3:=Maps.int_keyed Tryz.underlying3
theorem bG{x:Int}(hx:(Lit.int .i64 x).wf=true):keyOf Tryz.prog 3 (.int .i64 x)=some (.int .i64 x):=by
 unfold keyOf;rw[Tryz.underlying3];simp[mapKey,Tryz.underlying3,hx]
theorem aB{x:Int}(h0: -9223372036854775808≤x)(h1:x≤9223372036854775807):(Lit.int .i64 x).wf=true:=by
 have e1:IntKind.i64.min= -9223372036854775808:=by decide
 have e2:IntKind.i64.max=9223372036854775807:=by decide
 simp[Lit.wf,e1,e2];omega
end Go.Proofs.YtndhbnhobhkmaaaGreatDoor
