/-
  What the calls of package arena do, each for every state of an arena and every argument: contracts.
-/
import Derived.Test.YtndhbnhobhkmaaaGreatDoorSeen
set_option maxRecDepth 20000
set_option maxHeartbeats 400000
namespace Go.Proofs.YtndhbnhobhkmaaaGreatDoor.An
open Go.RowKit
abbrev Sp:Type:=Int×Int×Bool
def spcs:List Sp→List Value
 |[]=>[]
 |s::r=>.int .i64 s.1:: .int .i64 s.2.1:: .bool s.2.2::spcs r
theorem gK:∀l m:List Sp,spcs (l++m)=spcs l++spcs m
 |[],m=>rfl
 |s::r,m=>by simp[spcs,gK r m]
structure Ar(w:World)(T:TypeId)(B a b:Nat)(bs:List UInt8)(v:Value)(ss:List Sp):Prop where
 st:w.heap[a]? =some (.cells #[.slice (some ⟨b,0,none⟩) bs.length bs.length,v] T (0,0))
 by':w.heap[b]? =some (.cells (bc bs).toArray 5 (0,0))
 tr:w.ownsRow B 132 3 v ss.length (spcs ss)
 la:a<B
 lb:b<B
 ab:a≠b
 le:bs.length≤2097152
 lB:B≤w.heap.size
 nz:ss=[]→v=.slice none 0 0
section
variable{w:World}{T:TypeId}{B a b:Nat}{bs:List UInt8}{v:Value}{ss:List Sp}
theorem Ar.c0(h:Ar w T B a b bs v ss):w.cell? ⟨a,0,none⟩=some (.slice (some ⟨b,0,none⟩) bs.length bs.length):=by
 simp[World.cell?,h.st]
theorem Ar.c1(h:Ar w T B a b bs v ss):w.cell? ⟨a,1,none⟩=some v:=by
 simp[World.cell?,h.st]
theorem Ar.f1(h:Ar w T B a b bs v ss):w.frozen? ⟨a,1,none⟩=false:=by
 simp[World.frozen?,h.st]
theorem Ar.carry{S:Nat→Prop}{w':World}(h:Ar w T B a b bs v ss)(hf:Fr S w w')(h1:¬S a)(h2:¬S b)(h3:∀x,v.ownBlock=some x→¬S x):Ar w' T B a b bs v ss:=by
 have hl:=h.la;have hm:=h.lb;have hB:=h.lB;refine⟨?_,?_,?_,hl,hm,h.ab,h.le,by have:=hf.size;omega,h.nz⟩
 ·rw[hf.block a (by omega) h1];exact h.st
 ·rw[hf.block b (by omega) h2];exact h.by'
 ·refine⟨h.tr.1,?_⟩;rcases h.tr.2 with hn|⟨g,cap,cur,rfl,hb,hgg,rest⟩
  ·exact .inl hn
  ·refine .inr ⟨g,cap,cur,rfl,hb,?_,rest⟩;rw[hf.block g (Array.getElem?_eq_some_iff.1 hgg).1 (h3 g rfl)];exact hgg
theorem Ar.setRow(h:Ar w T B a b bs v ss)(bs':List UInt8)(hl:bs'.length=bs.length):Ar (w.setRow b (bc bs').toArray) T B a b bs' v ss:=by
 have h1:=h.la;have h2:=h.lb;have h3:=h.lB;refine⟨?_,?_,?_,h.la,h.lb,h.ab,by rw[hl];exact h.le,by simpa [World.setRow] using h.lB,h.nz⟩
 ·rw[setRow_other w b a _ h.ab,hl];exact h.st
 ·exact setRow_heap w b _ _ _ _ h.by'
 ·refine⟨h.tr.1,?_⟩;rcases h.tr.2 with hn|⟨g,cap,cur,rfl,hb,hgg,rest⟩
  ·exact .inl hn
  ·exact .inr ⟨g,cap,cur,rfl,hb,by rw[setRow_other w b g _ (by omega)];exact hgg,rest⟩
theorem Ar.drew(h:Ar w T B a b bs v ss):Ar w.drew T B a b bs v ss:=⟨h.st,h.by',h.tr,h.la,h.lb,h.ab,h.le,h.lB,h.nz⟩
theorem Ar.own(h:Ar w T B a b bs v ss):∀x,v.ownBlock=some x→B≤x∧x<w.heap.size:=h.tr.lt
end
theorem fS{w:World}{a:Nat}{x v u:Value}{T:TypeId}(h:w.heap[a]? =some (.cells #[x,v] T (0,0))):(w.setCell ⟨a,1,none⟩ u).heap[a]? =some (.cells #[x,u] T (0,0)):=by
 simp[World.setCell,Array.getElem?_modify,h]
theorem Tryz.info58:(Tryz.prog.info? 132).map (fun i=>(i.zero,i.size,i.bytes))=some (some (.agg #[.int .i64 0,.int .i64 0,.bool false]),3,24):=by kernel_rfl
theorem Tryz.info5:(Tryz.prog.info? 5).map (fun i=>(i.zero,i.size,i.bytes))=some (some (.int .u8 0),1,1):=by kernel_rfl
def inB(x n:Int)(len:Nat):Bool:=decide (0≤x∧0≤n∧n≤len - x)
theorem bn{x n:Int}{len:Nat}:inB x n len=true↔0≤x∧0≤n∧n≤len - x:=by simp[inB]
theorem aH{w:World}{B a b:Nat}{bs:List UInt8}{v:Value}{ss:List Sp}(h:Ar w 111 B a b bs v ss)(x n:Int)(hx:x≤9223372036854775807):
  Calls Tryz.prog 115 #[.pointer (some ⟨a,0,none⟩),.int .i64 x,.int .i64 n] w fun e w'=>e=.returned (.bool (inB x n bs.length))∧w'=w:=by
 have c0:=h.c0;have hl:=h.le;clear h;by_cases h1:0≤x
 ·by_cases h2:0≤n
  ·go_enter Tryz.func115,Tryz.ntmps115;go_wp2;go_ret;exact⟨by simp[inB,h1,h2],rfl⟩
  ·go_enter Tryz.func115,Tryz.ntmps115;go_wp2;go_ret;exact⟨by simp[inB];omega,rfl⟩
 ·go_enter Tryz.func115,Tryz.ntmps115;go_wp2;go_ret;exact⟨by simp[inB];omega,rfl⟩
theorem jN{w:World}{B a b:Nat}{bs:List UInt8}{v:Value}{ss:List Sp}(h:Ar w 111 B a b bs v ss):
  Calls Tryz.prog 114 #[.pointer (some ⟨a,0,none⟩)] w fun e w'=>e=.returned (.int .i64 bs.length)∧w'=w:=by
 have c0:=h.c0;clear h;go_enter Tryz.func114,Tryz.ntmps114;go_wp2;go_ret;exact⟨rfl,rfl⟩
def aX(w w':World)(T:TypeId)(B a b:Nat)(bs:List UInt8)(v:Value)(ss:List Sp):Prop:=
 ∃v',Ar w' T B a b bs v' ss∧Fr (fun y=>y=a∨y=b∨v.ownBlock=some y) w w'∧(∀y,v'.ownBlock=some y→v.ownBlock=some y∨w.heap.size≤y)
theorem ke{w:World}{B a b:Nat}{bs:List UInt8}{v:Value}{ss:List Sp}(h:Ar w 111 B a b bs v ss)(x n:Int)(wr:Bool)(hk:ss.length≤1000000)(hn:0<n):
  Calls Tryz.prog 116 #[.pointer (some ⟨a,0,none⟩),.int .i64 x,.int .i64 n,.bool wr] w fun e w'=>e=.returned (.tuple #[])∧
   aX w w' 111 B a b bs v (ss++[(x,n,wr)]):=by
 have c1:=h.c1;have f1:=h.f1;obtain⟨i0,hi,hz0,hz1,hz2⟩:=info_parts Tryz.info58;have hlB:=h.lB;have hla:=h.la;go_enter Tryz.func116,Tryz.ntmps116;go_wp2_with (at_builtin;refine aE rfl (.tmp 14) (.tmp 19) 109 rfl B 132 i0 (.agg #[.int .i64 0,.int .i64 0,.bool false]) 3 24 Tryz.underlying109 hi hz0 hz1 hz2 rfl (by decide) _ _ _ rfl (h.tr.alloc _) ⟨w.heap.size,0,none⟩ 1 1 (by decide) [.int .i64 x,.int .i64 n,.bool wr] rfl rfl ?c1 ?c2 ?c3 ?c4 ?c5 ?_)
 case c1=>
  intro j u hj
  match j,hj with
  |0,hj=>simp at hj;subst hj;simp[Addr.add]
  |1,hj=>simp at hj;subst hj;simp[Addr.add]
  |2,hj=>simp at hj;subst hj;simp[Addr.add]
 case c2=>intro u hu;simp at hu;rcases hu with rfl|rfl|rfl<;>rfl
 case c3=>unfold maxLen;omega
 case c4=>omega
 case c5=>simp;omega
 ·intro g cap' w1 hown hgrow hsep;have hfr:Fr (fun y=>y=a∨y=b∨v.ownBlock=some y) w w1:=((Fr.refl _ w).alloc _).grown hgrow (fun y hy=>.inl (.inr (.inr hy)));have hva:v.ownBlock≠some a:=fun e=>by have:=(h.own a e).1;omega
  have hvb:v.ownBlock≠some b:=fun e=>by have:=(h.own b e).1;have:=h.lb;omega
  have hst:w1.heap[a]? =some (.cells #[.slice (some ⟨b,0,none⟩) bs.length bs.length,v] 111 (0,0)):=by
   rw[hgrow.block a (by simp;omega) (fun e=>hva e.symm),Below.heap_alloc _ _ _ (by omega)];exact h.st
  have hby:w1.heap[b]? =some (.cells (bc bs).toArray 5 (0,0)):=by
   rw[hgrow.block b (by have:=h.lb;simp;omega) (fun e=>hvb e.symm),Below.heap_alloc _ _ _ (by have:=h.lb;omega)];exact h.by'
  have k1:w1.cell? ⟨a,1,none⟩=some v:=by simp[World.cell?,hst]
  have e1:w1.frozen? ⟨a,1,none⟩=false:=by simp[World.frozen?,hst]
  have hsz:w.heap.size+1≤w1.heap.size:=by have:=hgrow.size;simpa using this
  have hfresh:∀y,some g=some y→v.ownBlock=some y∨w.heap.size≤y:=by
   rintro y hy;cases hy;rcases hsep with h1|h1
   ·exact .inl h1
   ·right;rw[h1];simp
  clear c1 f1 hi hz0 hz1 hz2 hsep;go_wp2;go_end0;refine⟨rfl,_,⟨fS hst,?_,by rw[gK,List.length_append];exact ownsRow_setCell_below hown hla _,h.la,h.lb,h.ab,h.le,?_,fun e=>by simp at e⟩,hfr.setCell (.inl rfl) _,hfresh⟩
  ·rw[Below.heap_setCell _ _ _ _ (fun e=>h.ab e.symm)];exact hby
  ·simp[World.setCell];omega
theorem bD{w:World}(a:Nat)(x n:Int)(wr:Bool)(hn:¬0<n):
  Calls Tryz.prog 116 #[.pointer (some ⟨a,0,none⟩),.int .i64 x,.int .i64 n,.bool wr] w fun e w'=>e=.returned (.tuple #[])∧w'=w:=by
 go_enter Tryz.func116,Tryz.ntmps116;go_wp2;go_end0;exact⟨rfl,rfl⟩
def aT(ss:List Sp)(x n:Int)(wr:Bool):List Sp:=if 0<n then ss++[(x,n,wr)] else ss
theorem wI(ss:List Sp)(x n:Int)(wr:Bool):(aT ss x n wr).length≤ss.length+1:=by unfold aT;split<;>simp
theorem aX.same{w:World}{T:TypeId}{B a b:Nat}{bs:List UInt8}{v:Value}{ss:List Sp}(h:Ar w T B a b bs v ss):aX w w T B a b bs v ss:=
 ⟨v,h,Fr.refl _ _,fun _ h=>.inl h⟩
theorem eD{w:World}{B a b:Nat}{bs:List UInt8}{v:Value}{ss:List Sp}(h:Ar w 111 B a b bs v ss)(x n:Int)(wr:Bool)(hk:ss.length≤1000000):
  Calls Tryz.prog 116 #[.pointer (some ⟨a,0,none⟩),.int .i64 x,.int .i64 n,.bool wr] w fun e w'=>e=.returned (.tuple #[])∧
   aX w w' 111 B a b bs v (aT ss x n wr):=by
 by_cases hn:0<n
 ·simp only[aT,if_pos hn];exact ke h x n wr hk hn
 ·simp only[aT,if_neg hn];exact(bD a x n wr hn).mono fun e w' ⟨he,hw⟩=>⟨he,by subst hw;exact aX.same h⟩
theorem qU(n:Nat):madeCells #[Value.int .u8 0] n=(bc (List.replicate n 0)).toArray:=by
 apply Array.ext';rw[toList_madeCells_one];simp[bc]
theorem im(n:Nat)(w:World)(h:n≤2097152):
  Calls Tryz.prog 24 #[.int .i64 n] w fun e w'=>e=.returned (.tuple #[.pointer (some ⟨w.heap.size+1,0,none⟩),.int .i64 0])∧
   Ar w' 111 (w.heap.size+2) (w.heap.size+1) w.heap.size (List.replicate n 0) (.slice none 0 0) []∧Fr (fun _=>False) w w'∧w'.heap.size=w.heap.size+2:=by
 obtain⟨i0,hi,hz0,hz1,hz2⟩:=info_parts Tryz.info5;have hmk:=run_make (P:=Tryz.prog) w 48 5 i0 (.int .u8 0) Tryz.underlying48 hi hz0 .i64 .i64 (n:Int) (n:Int) (by omega) (by omega) (by rw[hz2];omega) (by omega);rw[hz1] at hmk;simp only[Int.toNat_natCast,Nat.mul_one,Value.cells,qU] at hmk;clear hi hz0 hz1 hz2;go_enter Tryz.func24,Tryz.ntmps24;go_wp2;go_ret2;refine⟨by simp,⟨?_,?_,World.ownsRow_nil _ _ _ _,by omega,by omega,by omega,by simpa using h,by simp,fun _=>rfl⟩,((Fr.refl _ _).alloc _).alloc _,by simp⟩
 ·rw[pQ];simp
 ·rw[xv]
theorem vZ{w:World}{B a b:Nat}{bs:List UInt8}{v:Value}{ss:List Sp}(h:Ar w 111 B a b bs v ss)(p m:Nat)(hin:p+m≤bs.length)(hm:0<m)(hk:ss.length≤1000000):
  Calls Tryz.prog 73 #[.pointer (some ⟨a,0,none⟩),.int .i64 p,.int .i64 m] w fun e w'=>e=.returned (.tuple #[.string ⟨((bs.drop p).take m).toArray⟩,.int .i64 0])∧
   aX w w' 111 B a b bs v (aT ss p m false):=by
 have hle:=h.le;have ht:=aH h p m (by omega);rw[bn.2 ⟨by omega,by omega,by omega⟩] at ht;have Ht:Hid (Calls Tryz.prog 115 #[.pointer (some ⟨a,0,none⟩),.int .i64 p,.int .i64 m] w fun e w'=>e=.returned (.bool true)∧w'=w):=ht;clear ht;go_enter Tryz.func73,Tryz.ntmps73;go_wp2;go_step3;go_wp2_with fail;refine Ht.out.mono ?_;rintro e w' ⟨rfl,hw⟩;obtain rfl:=hw.symm;go_wp2_with fail;refine(eD h p m false hk).mono ?_;rintro e w1 ⟨rfl,v',har,hfr,hfresh⟩;have c0:=har.c0;have hcv:=fun cap=>fQ (P:=Tryz.prog) 48 5 9 Tryz.underlying48 Tryz.underlying5 Tryz.underlying9 har.by' p m cap hin
 clear Ht h;go_wp2;rw[Exit.noGoto_ret];go_ret2;exact⟨rfl,v',har,hfr,hfresh⟩
theorem sS{w:World}{B a b:Nat}{bs:List UInt8}{v:Value}{ss:List Sp}(h:Ar w 111 B a b bs v ss)(p:Nat)(hin:p≤bs.length):
  Calls Tryz.prog 73 #[.pointer (some ⟨a,0,none⟩),.int .i64 p,.int .i64 0] w fun e w'=>e=.returned (.tuple #[.string ⟨#[]⟩,.int .i64 0])∧w'=w:=by
 have hle:=h.le;have ht:=aH h p 0 (by omega);rw[bn.2 ⟨by omega,by omega,by omega⟩] at ht;have Ht:Hid (Calls Tryz.prog 115 #[.pointer (some ⟨a,0,none⟩),.int .i64 p,.int .i64 0] w fun e w'=>e=.returned (.bool true)∧w'=w):=ht;clear ht;have c0:=h.c0;have hcv:=fun b at_ cap=>cY (P:=Tryz.prog) (w:=w) 48 5 9 Tryz.underlying48 Tryz.underlying5 Tryz.underlying9 b at_ cap
 clear h;by_cases hp:p=bs.length
 ·subst hp;go_enter Tryz.func73,Tryz.ntmps73;go_wp2;go_step3;go_wp2_with fail;refine Ht.out.mono ?_;rintro e w' ⟨rfl,hw⟩;obtain rfl:=hw.symm;go_wp2_with fail;refine(bD a _ 0 false (by omega)).mono ?_;rintro e w' ⟨rfl,hw⟩;obtain rfl:=hw.symm;go_wp2;rw[Exit.noGoto_ret];go_ret2;exact⟨rfl,rfl⟩
 ·have hp':p<bs.length:=by omega
  go_enter Tryz.func73,Tryz.ntmps73;go_wp2;go_step3;go_wp2_with fail;refine Ht.out.mono ?_;rintro e w' ⟨rfl,hw⟩;obtain rfl:=hw.symm;go_wp2_with fail;refine(bD a p 0 false (by omega)).mono ?_;rintro e w' ⟨rfl,hw⟩;obtain rfl:=hw.symm;go_wp2;rw[Exit.noGoto_ret];go_ret2;exact⟨rfl,rfl⟩
theorem Ay{w:World}{B a b:Nat}{bs:List UInt8}{v:Value}{ss:List Sp}(h:Ar w 111 B a b bs v ss)(p m:Nat)(hin:p+m≤bs.length)(hk:ss.length≤1000000):
  Calls Tryz.prog 73 #[.pointer (some ⟨a,0,none⟩),.int .i64 p,.int .i64 m] w fun e w'=>e=.returned (.tuple #[.string ⟨((bs.drop p).take m).toArray⟩,.int .i64 0])∧
   aX w w' 111 B a b bs v (aT ss p m false):=by
 by_cases hm:0<m
 ·exact vZ h p m hin hm hk
 ·obtain rfl:m=0:=by omega
  exact(sS h p (by omega)).mono fun e w' ⟨he,hw⟩=>⟨by simpa using he,by subst hw;simpa [aT] using aX.same h⟩
theorem aX.step{w w1 w2:World}{T:TypeId}{B a b:Nat}{bs':List UInt8}{v v1:Value}{ss':List Sp}
  (f1:Fr (fun y=>y=a∨y=b∨v.ownBlock=some y) w w1)(r1:∀y,v1.ownBlock=some y→v.ownBlock=some y∨w.heap.size≤y)(h':aX w1 w2 T B a b bs' v1 ss'):aX w w2 T B a b bs' v ss':=by
 obtain⟨v2,h2,f2,r2⟩:=h';refine⟨v2,h2,f1.trans' f2 ?_,?_⟩
 ·intro i hi hs;rcases hs with hs|hs|hs
  ·exact .inl hs
  ·exact .inr (.inl hs)
  ·rcases r1 i hs with h|h
   ·exact .inr (.inr h)
   ·omega
 ·intro y hy;rcases r2 y hy with h|h
  ·exact r1 y h
  ·right;have:=f1.size;omega
theorem aX.iQ{w w2:World}{T:TypeId}{B a b:Nat}{bs':List UInt8}{v:Value}{ss':List Sp}{c:Array Value}(h:aX (w.setRow b c) w2 T B a b bs' v ss'):aX w w2 T B a b bs' v ss':=by
 obtain⟨v',h1,f1,r1⟩:=h;refine⟨v',h1,((Fr.refl _ w).setRow (g:=b) (.inr (.inl rfl)) c).trans f1,fun y hy=> ?_⟩;have:=r1 y hy;simpa [World.setRow] using this
theorem aX.jy{w w2:World}{T:TypeId}{B a b:Nat}{bs':List UInt8}{v:Value}{ss':List Sp}(h:aX w.drew w2 T B a b bs' v ss'):aX w w2 T B a b bs' v ss':=by
 obtain⟨v',h1,f1,r1⟩:=h;exact⟨v',h1,⟨f1.os,f1.tape,f1.output,f1.size,f1.block⟩,r1⟩
def over(bs:List UInt8)(p:Nat)(ds:List UInt8):List UInt8:=bs.take p++ds++bs.drop (p+ds.length)
theorem al(bs:List UInt8)(p:Nat)(ds:List UInt8)(h:p+ds.length≤bs.length):(over bs p ds).length=bs.length:=by
 simp[over];omega
theorem Tryz.vW:(Tryz.prog.info? 5).map (·.size)=some 1:=by kernel_rfl
theorem rU{w:World}{B a b:Nat}{bs:List UInt8}{v:Value}{ss:List Sp}(h:Ar w 111 B a b bs v ss)(p:Nat)(s:ByteArray)(hin:p+s.size≤bs.length)(hm:0<s.size)(hk:ss.length≤1000000):
  Calls Tryz.prog 80 #[.pointer (some ⟨a,0,none⟩),.int .i64 p,.string s] w fun e w'=>e=.returned (.int .i64 0)∧
   aX w w' 111 B a b (over bs p s.data.toList) v (aT ss p s.size true):=by
 have hle:=h.le;have ht:=aH h p s.size (by omega);rw[bn.2 ⟨by omega,by omega,by omega⟩] at ht;have Ht:Hid (Calls Tryz.prog 115 #[.pointer (some ⟨a,0,none⟩),.int .i64 p,.int .i64 s.size] w fun e w'=>e=.returned (.bool true)∧w'=w):=ht;clear ht;have c0:=h.c0;have hsl:s.data.toList.length=s.size:=by rw[Array.length_toList];rfl
 have hov:(over bs p s.data.toList).length=bs.length:=al _ _ _ (by rw[hsl];exact hin);have hcp:=fun ty cap=>jR (P:=Tryz.prog) 48 9 ty 5 Tryz.underlying48 Tryz.vW h.by' p (bs.length - p) cap s (by omega) hin
 have hrow:bs.take p++s.data.toList++bs.drop (p+s.size)=over bs p s.data.toList:=by simp only[over,hsl]
 rw[hrow] at hcp;have h2:=h.setRow _ hov;have HNote:Hid (Calls Tryz.prog 116 #[.pointer (some ⟨a,0,none⟩),.int .i64 p,.int .i64 s.size,.bool true] (w.setRow b (bc (over bs p s.data.toList)).toArray) fun e w'=>e=.returned (.tuple #[])∧
   aX (w.setRow b (bc (over bs p s.data.toList)).toArray) w' 111 B a b (over bs p s.data.toList) v (aT ss p s.size true)):=eD h2 p s.size true hk
 clear hrow hsl hov h h2;generalize over bs p s.data.toList=nb at *;go_enter Tryz.func80,Tryz.ntmps80;go_wp2;go_step3;go_wp2_with fail;refine Ht.out.mono ?_;rintro e w' ⟨rfl,hw⟩;obtain rfl:=hw.symm;go_wp2_with fail;refine HNote.out.mono ?_;rintro e w1 ⟨rfl,hn⟩;clear hcp c0;go_wp2;rw[Exit.noGoto_ret];go_ret;exact⟨rfl,hn.iQ⟩
theorem qo{w:World}{B a b:Nat}{bs:List UInt8}{v:Value}{ss:List Sp}(h:Ar w 111 B a b bs v ss)(p:Nat)(s:ByteArray)(hin:p≤bs.length)(hm:s.size=0):
  Calls Tryz.prog 80 #[.pointer (some ⟨a,0,none⟩),.int .i64 p,.string s] w fun e w'=>e=.returned (.int .i64 0)∧w'=w:=by
 have hle:=h.le;have ht:=aH h p 0 (by omega);rw[bn.2 ⟨by omega,by omega,by omega⟩] at ht;have Ht:Hid (Calls Tryz.prog 115 #[.pointer (some ⟨a,0,none⟩),.int .i64 p,.int .i64 0] w fun e w'=>e=.returned (.bool true)∧w'=w):=ht;clear ht;have c0:=h.c0;have hcp:=fun ty a dLen cap=>ec (P:=Tryz.prog) (w:=w) 48 9 ty 5 Tryz.underlying48 Tryz.vW a dLen cap s hm
 clear h;by_cases hp:p=bs.length
 ·subst hp;go_enter Tryz.func80,Tryz.ntmps80;go_wp2;go_step3;go_wp2_with fail;refine Ht.out.mono ?_;rintro e w' ⟨rfl,hw⟩;obtain rfl:=hw.symm;go_wp2_with fail;refine(bD a _ 0 true (by omega)).mono ?_;rintro e w' ⟨rfl,hw⟩;obtain rfl:=hw.symm;go_wp2;rw[Exit.noGoto_ret];go_ret;exact⟨rfl,rfl⟩
 ·have hp':p<bs.length:=by omega
  go_enter Tryz.func80,Tryz.ntmps80;go_wp2;go_step3;go_wp2_with fail;refine Ht.out.mono ?_;rintro e w' ⟨rfl,hw⟩;obtain rfl:=hw.symm;go_wp2_with fail;refine(bD a p 0 true (by omega)).mono ?_;rintro e w' ⟨rfl,hw⟩;obtain rfl:=hw.symm;go_wp2;rw[Exit.noGoto_ret];go_ret;exact⟨rfl,rfl⟩
theorem vC{w:World}{B a b:Nat}{bs:List UInt8}{v:Value}{ss:List Sp}(h:Ar w 111 B a b bs v ss)(p:Nat)(s:ByteArray)(hin:p+s.size≤bs.length)(hk:ss.length≤1000000):
  Calls Tryz.prog 80 #[.pointer (some ⟨a,0,none⟩),.int .i64 p,.string s] w fun e w'=>e=.returned (.int .i64 0)∧
   aX w w' 111 B a b (over bs p s.data.toList) v (aT ss p s.size true):=by
 by_cases hm:0<s.size
 ·exact rU h p s hin hm hk
 ·have h0:s.size=0:=by omega
  have hsl:s.data.toList=[]:=List.eq_nil_of_length_eq_zero (by rw[Array.length_toList];exact h0);exact(qo h p s (by omega) h0).mono fun e w' ⟨he,hw⟩=>⟨he,by subst hw;rw[h0,hsl];simpa [aT,over] using aX.same h⟩
theorem vu{w:World}{B a b:Nat}{bs:List UInt8}{v:Value}{ss:List Sp}(h:Ar w 111 B a b bs v ss)(p m:Nat)(hin:p+m≤bs.length)(hm:0<m)(hk:ss.length≤1000000):
  Calls Tryz.prog 126 #[.pointer (some ⟨a,0,none⟩),.int .i64 p,.int .i64 m] w fun e w'=>e=.returned (.int .i64 0)∧
   aX w w' 111 B a b (over bs p (List.replicate m 0)) v (aT ss p m true):=by
 have hle:=h.le;have ht:=aH h p m (by omega);rw[bn.2 ⟨by omega,by omega,by omega⟩] at ht;have Ht:Hid (Calls Tryz.prog 115 #[.pointer (some ⟨a,0,none⟩),.int .i64 p,.int .i64 m] w fun e w'=>e=.returned (.bool true)∧w'=w):=ht;clear ht;have c0:=h.c0;obtain⟨i0,hi,hz0,hz1,hz2⟩:=info_parts Tryz.info5;have hov:(over bs p (List.replicate m 0)).length=bs.length:=al _ _ _ (by simpa using hin);have hcp:=fun ty cap=>jS (P:=Tryz.prog) 48 ty 5 i0 Tryz.underlying48 hi hz0 h.by' p m cap hm hin
 have hrow:bs.take p++List.replicate m 0++bs.drop (p+m)=over bs p (List.replicate m 0):=by simp[over]
 rw[hrow] at hcp;have h2:=h.setRow _ hov;have HNote:Hid (Calls Tryz.prog 116 #[.pointer (some ⟨a,0,none⟩),.int .i64 p,.int .i64 m,.bool true] (w.setRow b (bc (over bs p (List.replicate m 0))).toArray) fun e w'=>e=.returned (.tuple #[])∧
   aX (w.setRow b (bc (over bs p (List.replicate m 0))).toArray) w' 111 B a b (over bs p (List.replicate m 0)) v (aT ss p m true)):=eD h2 p m true hk
 clear hrow hov h h2 hi hz0 hz1 hz2;generalize over bs p (List.replicate m 0)=nb at *;go_enter Tryz.func126,Tryz.ntmps126;go_wp2;go_step3;go_wp2_with fail;refine Ht.out.mono ?_;rintro e w' ⟨rfl,hw⟩;obtain rfl:=hw.symm;go_wp2_with fail;refine HNote.out.mono ?_;rintro e w1 ⟨rfl,hn⟩;clear hcp c0;go_wp2;rw[Exit.noGoto_ret];go_ret;exact⟨rfl,hn.iQ⟩
theorem rF{w:World}{B a b:Nat}{bs:List UInt8}{v:Value}{ss:List Sp}(h:Ar w 111 B a b bs v ss)(p:Nat)(hin:p≤bs.length):
  Calls Tryz.prog 126 #[.pointer (some ⟨a,0,none⟩),.int .i64 p,.int .i64 0] w fun e w'=>e=.returned (.int .i64 0)∧w'=w:=by
 have hle:=h.le;have ht:=aH h p 0 (by omega);rw[bn.2 ⟨by omega,by omega,by omega⟩] at ht;have Ht:Hid (Calls Tryz.prog 115 #[.pointer (some ⟨a,0,none⟩),.int .i64 p,.int .i64 0] w fun e w'=>e=.returned (.bool true)∧w'=w):=ht;clear ht;have c0:=h.c0;have hcp:=fun ty a cap=>iX (P:=Tryz.prog) (w:=w) 48 ty 5 Tryz.underlying48 a cap
 clear h;by_cases hp:p=bs.length
 ·subst hp;go_enter Tryz.func126,Tryz.ntmps126;go_wp2;go_step3;go_wp2_with fail;refine Ht.out.mono ?_;rintro e w' ⟨rfl,hw⟩;obtain rfl:=hw.symm;go_wp2_with fail;refine(bD a _ 0 true (by omega)).mono ?_;rintro e w' ⟨rfl,hw⟩;obtain rfl:=hw.symm;go_wp2;rw[Exit.noGoto_ret];go_ret;exact⟨rfl,rfl⟩
 ·have hp':p<bs.length:=by omega
  go_enter Tryz.func126,Tryz.ntmps126;go_wp2;go_step3;go_wp2_with fail;refine Ht.out.mono ?_;rintro e w' ⟨rfl,hw⟩;obtain rfl:=hw.symm;go_wp2_with fail;refine(bD a p 0 true (by omega)).mono ?_;rintro e w' ⟨rfl,hw⟩;obtain rfl:=hw.symm;go_wp2;rw[Exit.noGoto_ret];go_ret;exact⟨rfl,rfl⟩
theorem zJ{w:World}{B a b:Nat}{bs:List UInt8}{v:Value}{ss:List Sp}(h:Ar w 111 B a b bs v ss)(p m:Nat)(hin:p+m≤bs.length)(hk:ss.length≤1000000):
  Calls Tryz.prog 126 #[.pointer (some ⟨a,0,none⟩),.int .i64 p,.int .i64 m] w fun e w'=>e=.returned (.int .i64 0)∧
   aX w w' 111 B a b (over bs p (List.replicate m 0)) v (aT ss p m true):=by
 by_cases hm:0<m
 ·exact vu h p m hin hm hk
 ·obtain rfl:m=0:=by omega
  exact(rF h p (by omega)).mono fun e w' ⟨he,hw⟩=>⟨he,by subst hw;simpa [aT,over] using aX.same h⟩
theorem copy_pos{w:World}{B a b:Nat}{bs:List UInt8}{v:Value}{ss:List Sp}(h:Ar w 111 B a b bs v ss)(p q m:Nat)(hin:p+m≤bs.length)(hin2:q+m≤bs.length)(hm:0<m)(hk:ss.length<1000000):
  Calls Tryz.prog 146 #[.pointer (some ⟨a,0,none⟩),.int .i64 p,.int .i64 q,.int .i64 m] w fun e w'=>e=.returned (.int .i64 0)∧
   aX w w' 111 B a b (over bs p ((bs.drop q).take m)) v (aT (aT ss q m false) p m true):=by
 have hle:=h.le;have Ht:Hid (Calls Tryz.prog 115 #[.pointer (some ⟨a,0,none⟩),.int .i64 p,.int .i64 m] w fun e w'=>e=.returned (.bool true)∧w'=w):=by
  have ht:=aH h p m (by omega);rw[bn.2 ⟨by omega,by omega,by omega⟩] at ht;exact ht
 have Ht2:Hid (Calls Tryz.prog 115 #[.pointer (some ⟨a,0,none⟩),.int .i64 q,.int .i64 m] w fun e w'=>e=.returned (.bool true)∧w'=w):=by
  have ht:=aH h q m (by omega);rw[bn.2 ⟨by omega,by omega,by omega⟩] at ht;exact ht
 have c0:=h.c0;have hdl:((bs.drop q).take m).length=m:=by simp;omega
 have hov:(over bs p ((bs.drop q).take m)).length=bs.length:=al _ _ _ (by rw[hdl];exact hin);have hcp:=fun ty c1 c2=>gS (P:=Tryz.prog) (w:=w.drew) 48 ty 5 Tryz.underlying48 Tryz.vW (b:=b) (l:=bs) h.by' p q m c1 c2 hin hin2
 have hrow:bs.take p++(bs.drop q).take m++bs.drop (p+m)=over bs p ((bs.drop q).take m):=by simp only[over,hdl]
 rw[hrow] at hcp;have h2:=h.drew.setRow _ hov;have HNote:Hid (Calls Tryz.prog 116 #[.pointer (some ⟨a,0,none⟩),.int .i64 q,.int .i64 m,.bool false] (w.drew.setRow b (bc (over bs p ((bs.drop q).take m))).toArray) fun e w'=>e=.returned (.tuple #[])∧
   aX (w.drew.setRow b (bc (over bs p ((bs.drop q).take m))).toArray) w' 111 B a b (over bs p ((bs.drop q).take m)) v (aT ss q m false)):=eD h2 q m false (by omega)
 clear hrow hdl hov h2 h;generalize over bs p ((bs.drop q).take m)=nb at *;go_enter Tryz.func146,Tryz.ntmps146;go_wp2;go_step3;go_wp2_with fail;refine Ht.out.mono ?_;rintro e w' ⟨rfl,hw⟩;obtain rfl:=hw.symm;go_wp2_with fail;refine Ht2.out.mono ?_;rintro e w' ⟨rfl,hw⟩;obtain rfl:=hw.symm;go_wp2_with fail;go_region;clear hcp c0;go_wp2_with fail;refine HNote.out.mono ?_;rintro e w1 ⟨rfl,v1,har,hfr,hfresh⟩;have HN2:Hid (Calls Tryz.prog 116 #[.pointer (some ⟨a,0,none⟩),.int .i64 p,.int .i64 m,.bool true] w1 fun e w'=>e=.returned (.tuple #[])∧
   aX w1 w' 111 B a b nb v1 (aT (aT ss q m false) p m true)):=eD har p m true (by have:=wI ss q m false;omega)
 have HF:Hid (Fr (fun y=>y=a∨y=b∨v.ownBlock=some y) (w.drew.setRow b (bc nb).toArray) w1∧∀y,v1.ownBlock=some y→v.ownBlock=some y∨(w.drew.setRow b (bc nb).toArray).heap.size≤y):=⟨hfr,hfresh⟩;clear har hfr hfresh HNote;go_wp2_with fail;refine HN2.out.mono ?_;rintro e w2 ⟨rfl,hn2⟩;go_wp2;rw[Exit.noGoto_ret];go_ret;exact⟨rfl,(aX.step HF.out.1 HF.out.2 hn2).iQ.jy⟩
theorem uW{w:World}{B a b:Nat}{bs:List UInt8}{v:Value}{ss:List Sp}(h:Ar w 111 B a b bs v ss)(p q:Nat)(hin:p≤bs.length)(hin2:q≤bs.length):
  Calls Tryz.prog 146 #[.pointer (some ⟨a,0,none⟩),.int .i64 p,.int .i64 q,.int .i64 0] w fun e w'=>e=.returned (.int .i64 0)∧w'=w.drew:=by
 have hle:=h.le;have Ht:Hid (Calls Tryz.prog 115 #[.pointer (some ⟨a,0,none⟩),.int .i64 p,.int .i64 0] w fun e w'=>e=.returned (.bool true)∧w'=w):=by
  have ht:=aH h p 0 (by omega);rw[bn.2 ⟨by omega,by omega,by omega⟩] at ht;exact ht
 have Ht2:Hid (Calls Tryz.prog 115 #[.pointer (some ⟨a,0,none⟩),.int .i64 q,.int .i64 0] w fun e w'=>e=.returned (.bool true)∧w'=w):=by
  have ht:=aH h q 0 (by omega);rw[bn.2 ⟨by omega,by omega,by omega⟩] at ht;exact ht
 have c0:=h.c0;have hcp:=fun ty dp sp dCap sCap=>run_copy_none (P:=Tryz.prog) w.drew 48 48 ty 5 dp sp 0 dCap 0 sCap Tryz.underlying48 Tryz.vW rfl
 clear h;go_enter Tryz.func146,Tryz.ntmps146;go_wp2;go_step3;go_wp2_with fail;refine Ht.out.mono ?_;rintro e w' ⟨rfl,hw⟩;obtain rfl:=hw.symm;go_wp2_with fail;refine Ht2.out.mono ?_;rintro e w' ⟨rfl,hw⟩;obtain rfl:=hw.symm;go_wp2_with fail;go_region
 all_goals clear hcp c0 Ht Ht2
 all_goals go_wp2_with fail
 all_goals
  refine(bD a _ 0 false (by omega)).mono ?_;rintro e w' ⟨rfl,hw⟩;obtain rfl:=hw.symm;go_wp2_with fail;refine(bD a _ 0 true (by omega)).mono ?_;rintro e w' ⟨rfl,hw⟩;obtain rfl:=hw.symm;go_wp2;rw[Exit.noGoto_ret];go_ret;exact⟨rfl,rfl⟩
theorem BZ{w:World}{B a b:Nat}{bs:List UInt8}{v:Value}{ss:List Sp}(h:Ar w 111 B a b bs v ss)(p q m:Nat)(hin:p+m≤bs.length)(hin2:q+m≤bs.length)(hk:ss.length<1000000):
  Calls Tryz.prog 146 #[.pointer (some ⟨a,0,none⟩),.int .i64 p,.int .i64 q,.int .i64 m] w fun e w'=>e=.returned (.int .i64 0)∧
   aX w w' 111 B a b (over bs p ((bs.drop q).take m)) v (aT (aT ss q m false) p m true):=by
 by_cases hm:0<m
 ·exact copy_pos h p q m hin hin2 hm hk
 ·obtain rfl:m=0:=by omega
  exact(uW h p q (by omega) (by omega)).mono fun e w' ⟨he,hw⟩=>⟨he,by subst hw;simpa [aT,over] using (aX.same h.drew).jy⟩
end Go.Proofs.YtndhbnhobhkmaaaGreatDoor.An
