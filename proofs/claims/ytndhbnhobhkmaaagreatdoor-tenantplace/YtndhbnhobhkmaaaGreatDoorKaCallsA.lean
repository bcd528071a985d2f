/-
  What the calls of package shelf do, each for every state of a shelf and every argument: contracts, without words of bits.
  The program's table of handles in memory: a block of 12484 cells, and two shelves.
  A key in memory; what the document's own Right, Pack and Unpack do.
  The document's table of handles in memory.
  What the small calls of package caps do: of, has, key.
-/
import Derived.Test.YtndhbnhobhkmaaaGreatDoorSfCalls
import Derived.OwnWalk
import Derived.Lib.LazyBuf
import Derived.LoopTactic
import Derived.Deep.RegionLaw
import Derived.Deep.RegionLawGrows
set_option maxRecDepth 20000
set_option maxHeartbeats 1000000
namespace Go.Proofs.YtndhbnhobhkmaaaGreatDoor.Sf
open Go.RowKit
def Sh(w:World)(a b:Nat)(has:List Bool):Prop:=∃ws c,Sw w a b ws c has
section
variable{w:World}{a b:Nat}{has:List Bool}
theorem Sh.le(h:Sh w a b has):has.length≤65536:=by obtain⟨ws,c,h⟩:=h;exact h.le
theorem Sh.lta(h:Sh w a b has):a<w.heap.size:=by obtain⟨ws,c,h⟩:=h;exact h.lta
theorem Sh.ltb(h:Sh w a b has):b<w.heap.size:=by obtain⟨ws,c,h⟩:=h;exact h.ltb
theorem Sh.tab(h:Sh w a b has):Pos w:=by obtain⟨ws,c,h⟩:=h;exact h.tab
theorem Sh.b0(h:Sh w a b has):2<b:=by obtain⟨ws,c,h⟩:=h;exact h.b0
theorem Sh.carry{S:Nat→Prop}{w':World}(h:Sh w a b has)(hf:Fr S w w')(h1:¬S a)(h2:¬S b)(h0:¬S 2):Sh w' a b has:=by
 obtain⟨ws,c,h⟩:=h;exact⟨ws,c,h.carry hf h1 h2 h0⟩
theorem Sh.drewN(h:Sh w a b has)(n:Nat):Sh (w.drewN n) a b has:=by obtain⟨ws,c,h⟩:=h;exact⟨ws,c,h.drewN n⟩
theorem oP(h:Sh w a b has)(k:Nat)(hk:k<has.length):
  Calls Tryz.prog 93 #[.pointer (some ⟨a,0,none⟩),.int .i64 k] w fun e w'=>e=.returned (.tuple #[])∧Sh w' a b (has.set k (!has[k]))∧Fr (fun i=>i=b) w w':=by
 obtain⟨ws,c,h⟩:=h;exact(vJ h k hk (by have:=h.bits.len;omega)).mono fun e w' ⟨h1,h2,h3,_⟩=>⟨h1,⟨_,_,h2⟩,h3⟩
theorem sL(h:Sh w a b has)(k:Int):
  Calls Tryz.prog 217 #[.pointer (some ⟨a,0,none⟩),.int .i64 k] w fun e w'=>e=.returned (.bool (hasN has k))∧w'=w:=by
 obtain⟨ws,c,h⟩:=h;exact aH h k
theorem sM(h:Sh w a b has):
  Calls Tryz.prog 226 #[.pointer (some ⟨a,0,none⟩)] w fun e w'=>e=.returned (.int .i64 (has.length:Int))∧w'=w:=by
 obtain⟨ws,c,h⟩:=h;exact jN h
theorem fq(h:Sh w a b has)(k:Int):
  Calls Tryz.prog 218 #[.pointer (some ⟨a,0,none⟩),.int .i64 k] w fun e w'=>e=.returned (.bool (isT has k))∧∃n,w'=w.drewN n:=by
 obtain⟨ws,c,h⟩:=h;exact sr h k
theorem jP(h:Sh w a b has)(hT:Tab w):
  Calls Tryz.prog 192 #[.pointer (some ⟨a,0,none⟩)] w fun e w'=>e=.returned (.int .i64 (lowI has))∧w'=w:=by
 obtain⟨ws,c,h⟩:=h;exact qV h (hid hT)
end
theorem xG{w:World}{a b c:Nat}{ws:List Nat}{has:List Bool}(h:Sw w a b ws c has):
  Calls Tryz.prog 225 #[.pointer (some ⟨a,0,none⟩)] w fun e w'=>e=.returned (.int .i64 (aQ has:Int))∧w'=w:=by
 have c1:=h.c1;have hwl:=h.wl;have hle:=h.le;have HS:Hid (Sw w a b ws c has):=h;clear h;go_enter Tryz.func225,Tryz.ntmps225;go_wp2;go_loopw [3,5,13] (fun n _ i wr=>∃j:Nat,j≤ws.length∧i=.int .i64 j∧n=.int .i64 (aQ (has.take (64 * j)):Nat)∧wr=w) (fun _ _ i _=>ws.length - (intOf i).toNat)
 case atStart=>exact⟨0,by omega,rfl,by simp[aQ],rfl⟩
 case round=>
  obtain⟨j,hj,rfl,rfl,hwr⟩:=hrel;obtain rfl:=hwr.symm;clear hwr;by_cases hlt:j<ws.length
  ·have cw:=HS.out.cw j hlt;have HC:Hid (Calls Tryz.prog 244 #[.int .u64 (ws[j]'hlt:Nat)] w fun e w'=>e=.returned (.int .i64 (pc 64 (ws[j]'hlt):Nat))∧w'=w):=oc_any _ w (HS.out.bits.lt j hlt);have hcnt:=hid (HS.out.bits.count j hlt);have hb1:aQ (has.take (64 * (j+1)))≤65536:=by have:=kE (has.take (64 * (j+1)));simp at this;omega
   rw[hcnt.out] at hb1;generalize (ws[j]'hlt)=x at *;generalize aQ (has.take (64 * j))=f at *;generalize pc 64 x=p at *;go_wp2_with fail;refine HC.out.mono ?_;rintro e w2 ⟨rfl,hw⟩;obtain rfl:=hw.symm;go_wp2;go_roundw
   case rel=>exact⟨j+1,by omega,by go_num,by rw[hcnt.out];go_num,trivial⟩
   case measure=>simp[intOf];omega
  ·obtain rfl:j=ws.length:=by omega
   have hall:=hid (HS.out.bits.all);go_wp2;go_ret;exact⟨by rw[hall.out];simp,rfl⟩
theorem yS{w:World}{a b:Nat}{has:List Bool}(h:Sh w a b has):
  Calls Tryz.prog 225 #[.pointer (some ⟨a,0,none⟩)] w fun e w'=>e=.returned (.int .i64 (aQ has:Int))∧w'=w:=by
 obtain⟨ws,c,h⟩:=h;exact xG h
theorem yR{w:World}{a b:Nat}{has:List Bool}(h:Sh w a b has)(hT:Tab w):
  Calls Tryz.prog 134 #[.pointer (some ⟨a,0,none⟩)] w fun e w'=>e=.returned (.tuple #[.int .i64 (takV has),.int .i64 (takE has)])∧Sh w' a b (takS has)∧Fr (fun i=>i=b) w w':=by
 have HL:=hid (jP h hT);have HH:=hid h;have hle:=h.le;by_cases hl:low has<has.length
 ·have HT:=hid (oP h (low has) hl);have e1:lowI has=(low has:Int):=by unfold lowI;rw[if_pos hl]
  have e2:takV has=(low has:Int):=by unfold takV;rw[if_pos hl]
  have e3:takE has=0:=by unfold takE;rw[if_pos hl]
  have e4:takS has=has.set (low has) (!has[low has]):=by unfold takS;rw[if_pos hl,lR has hl];rfl
  rw[e1] at HL;rw[e2,e3,e4];clear h hT e1 e2 e3 e4;generalize has.set (low has) (!has[low has])=has' at *;generalize low has=k at *;go_enter Tryz.func134,Tryz.ntmps134;go_wp2_with fail;refine HL.out.mono ?_;rintro e w' ⟨rfl,hw⟩;obtain rfl:=hw.symm;go_wp2_with fail;refine HT.out.mono ?_;rintro e w1 ⟨rfl,h1,f1⟩;have H1:=hid (And.intro h1 f1);clear h1 f1;go_wp2;go_ret2;exact⟨by simp,H1.out⟩
 ·have e1:lowI has= -1:=by unfold lowI;rw[if_neg hl]
  have e2:takV has=0:=by unfold takV;rw[if_neg hl]
  have e3:takE has=13:=by unfold takE;rw[if_neg hl]
  have e4:takS has=has:=by unfold takS;rw[if_neg hl]
  rw[e1] at HL;rw[e2,e3,e4];clear h hT e1 e2 e3 e4;go_enter Tryz.func134,Tryz.ntmps134;go_wp2_with fail;refine HL.out.mono ?_;rintro e w' ⟨rfl,hw⟩;obtain rfl:=hw.symm;go_wp2;go_ret2;exact⟨by simp,HH.out,Fr.refl _ _⟩
theorem ud(has:List Bool)(k:Nat)(hk:k<has.length):isT has (k:Int)=has[k]:=by
 simp[isT,hasN,hk]
theorem jO{w:World}{a b:Nat}{has:List Bool}(h:Sh w a b has)(k:Int):
  Calls Tryz.prog 201 #[.pointer (some ⟨a,0,none⟩),.int .i64 k] w fun e w'=>e=.returned (.int .i64 (taE has k))∧Sh w' a b (taS has k)∧Fr (fun i=>i=b) w w':=by
 have HR:=hid (sL h k);have HK:=hid (fq h k);have HH:=hid h;have HL:=hid h.le;cases hn:hasN has k with
 |false=>
  have e1:taE has k=12:=by simp[taE,hn]
  have e2:taS has k=has:=by simp[taS,hn]
  rw[hn] at HR;rw[e1,e2];clear h e1 e2 hn HK;go_enter Tryz.func201,Tryz.ntmps201;go_wp2_with fail;refine HR.out.mono ?_;rintro e w' ⟨rfl,hw⟩;obtain rfl:=hw.symm;go_wp2;go_ret;exact⟨by simp,HH.out,Fr.refl _ _⟩
 |true=>
  obtain⟨g1,g2⟩:=eN.1 hn;obtain⟨n,rfl⟩:∃n:Nat,k=(n:Int):=⟨k.toNat,by omega⟩;have hlt:n<has.length:=by omega
  rw[hn] at HR;cases ht:isT has (n:Int) with
  |true=>
   have e1:taE has (n:Int)=7:=by simp[taE,hn,ht]
   have e2:taS has (n:Int)=has:=su _ _ ht;rw[ht] at HK;rw[e1,e2];clear h e1 e2 hn ht g1 g2;go_enter Tryz.func201,Tryz.ntmps201;go_wp2_with fail;refine HR.out.mono ?_;rintro e w' ⟨rfl,hw⟩;obtain rfl:=hw.symm;go_wp2_with fail;refine HK.out.mono ?_;rintro e w' ⟨rfl,m,rfl⟩;go_wp2;go_ret;exact⟨by simp,HH.out.drewN m,(Fr.refl _ _).drewN m⟩
  |false=>
   have e1:taE has (n:Int)=0:=by simp[taE,hn,ht]
   have e2:taS has (n:Int)=has.set n (!has[n]):=by
    rw[ud has n hlt] at ht;simp[taS,hn,ht]
   have HT:=hid (fun m=>oP (h.drewN m) n hlt);rw[ht] at HK;rw[e1,e2];clear h e1 e2 hn ht g1 g2;generalize has.set n (!has[n])=has' at *;go_enter Tryz.func201,Tryz.ntmps201;go_wp2_with fail;refine HR.out.mono ?_;rintro e w' ⟨rfl,hw⟩;obtain rfl:=hw.symm;go_wp2_with fail;refine HK.out.mono ?_;rintro e w' ⟨rfl,m,rfl⟩;go_wp2_with fail;refine(HT.out m).mono ?_;rintro e w1 ⟨rfl,h1,f1⟩;have H1:=hid (And.intro h1 (Fr.trans (Fr.drewN (Fr.refl (fun i=>i=b) w) m) f1));clear h1 f1;go_wp2;go_ret;exact⟨by simp,H1.out⟩
theorem lv{w:World}{a b:Nat}{has:List Bool}(h:Sh w a b has)(k:Int):
  Calls Tryz.prog 172 #[.pointer (some ⟨a,0,none⟩),.int .i64 k] w fun e w'=>e=.returned (.int .i64 (giE has k))∧Sh w' a b (giS has k)∧Fr (fun i=>i=b) w w':=by
 have HR:=hid (sL h k);have HK:=hid (fq h k);have HH:=hid h;have HL:=hid h.le;cases hn:hasN has k with
 |false=>
  have e1:giE has k=12:=by simp[giE,hn]
  have e2:giS has k=has:=by simp[giS,hn]
  rw[hn] at HR;rw[e1,e2];clear h e1 e2 hn HK;go_enter Tryz.func172,Tryz.ntmps172;go_wp2_with fail;refine HR.out.mono ?_;rintro e w' ⟨rfl,hw⟩;obtain rfl:=hw.symm;go_wp2;go_ret;exact⟨by simp,HH.out,Fr.refl _ _⟩
 |true=>
  obtain⟨g1,g2⟩:=eN.1 hn;obtain⟨n,rfl⟩:∃n:Nat,k=(n:Int):=⟨k.toNat,by omega⟩;have hlt:n<has.length:=by omega
  rw[hn] at HR;cases ht:isT has (n:Int) with
  |false=>
   have e1:giE has (n:Int)=13:=by simp[giE,hn,ht]
   have e2:giS has (n:Int)=has:=xC _ _ ht;rw[ht] at HK;rw[e1,e2];clear h e1 e2 hn ht g1 g2;go_enter Tryz.func172,Tryz.ntmps172;go_wp2_with fail;refine HR.out.mono ?_;rintro e w' ⟨rfl,hw⟩;obtain rfl:=hw.symm;go_wp2_with fail;refine HK.out.mono ?_;rintro e w' ⟨rfl,m,rfl⟩;go_wp2;go_ret;exact⟨by simp,HH.out.drewN m,(Fr.refl _ _).drewN m⟩
  |true=>
   have e1:giE has (n:Int)=0:=by simp[giE,hn,ht]
   have e2:giS has (n:Int)=has.set n (!has[n]):=by
    rw[ud has n hlt] at ht;simp[giS,hn,ht]
   have HT:=hid (fun m=>oP (h.drewN m) n hlt);rw[ht] at HK;rw[e1,e2];clear h e1 e2 hn ht g1 g2;generalize has.set n (!has[n])=has' at *;go_enter Tryz.func172,Tryz.ntmps172;go_wp2_with fail;refine HR.out.mono ?_;rintro e w' ⟨rfl,hw⟩;obtain rfl:=hw.symm;go_wp2_with fail;refine HK.out.mono ?_;rintro e w' ⟨rfl,m,rfl⟩;go_wp2_with fail;refine(HT.out m).mono ?_;rintro e w1 ⟨rfl,h1,f1⟩;have H1:=hid (And.intro h1 (Fr.trans (Fr.drewN (Fr.refl (fun i=>i=b) w) m) f1));clear h1 f1;go_wp2;go_ret;exact⟨by simp,H1.out⟩
end Go.Proofs.YtndhbnhobhkmaaaGreatDoor.Sf
namespace Go.Proofs.YtndhbnhobhkmaaaGreatDoor.Ka
open Go.RowKit
def ckv(T nx:Int)(L:List Sl)(o s:Nat)(i:Nat):Value:=
 if i<4 then(if i=0 then .int .i64 T else if i=1 then .int .i64 nx else if i=2 then .pointer (some ⟨o,0,none⟩) else .pointer (some ⟨s,0,none⟩))
 else if i % 3=1 then .int .i64 (hA L (((i - 4) / 3:Nat):Int)) else if i % 3=2 then .int .i64 (hR L (((i - 4) / 3:Nat):Int)) else .int .i64 (hN L (((i - 4) / 3:Nat):Int))
section
variable(T nx:Int)(L:List Sl)(o s:Nat)(k:Nat)
theorem ckv_a:ckv T nx L o s (4+k * 3)=.int .i64 (hA L k):=by unfold ckv;rw[if_neg (by omega),if_pos (by omega),show(4+k * 3 - 4) / 3=k by omega]
theorem ckv_r:ckv T nx L o s (4+k * 3+1)=.int .i64 (hR L k):=by unfold ckv;rw[if_neg (by omega),if_neg (by omega),if_pos (by omega),show(4+k * 3+1 - 4) / 3=k by omega]
theorem ckv_n:ckv T nx L o s (4+k * 3+2)=.int .i64 (hN L k):=by unfold ckv;rw[if_neg (by omega),if_neg (by omega),if_neg (by omega),show(4+k * 3+2 - 4) / 3=k by omega]
end
structure Ck(cs:Array Value)(T nx:Int)(L:List Sl)(o s:Nat):Prop where
 sz:cs.size=12484
 at_:∀i,i<12484→cs[i]? =some (ckv T nx L o s i)
structure Kt(w:World)(a o ob s sb:Nat)(c:Ct):Prop where
 st:∃cs,w.heap[a]? =some (.cells cs 162 (0,0))∧Ck cs c.T c.nx c.L o s
 sho:Sf.Sh w o ob (tkn c.L 0 4096)
 shs:Sf.Sh w s sb (tkn c.L 4096 64)
 ne:(a≠o∧a≠ob)∧(a≠s∧a≠sb)∧(o≠s∧o≠sb)∧ob≠s∧ob≠sb
 a0:2<a
 ok:c.Ok
section
variable{w w':World}{a o ob s sb:Nat}{c:Ct}
theorem Kt.lta(h:Kt w a o ob s sb c):a<w.heap.size:=by obtain⟨cs,h1,_⟩:=h.st;exact(Array.getElem?_eq_some_iff.1 h1).1
theorem Kt.cell(h:Kt w a o ob s sb c)(i:Nat)(hi:i<12484):w.cell? ⟨a,i,none⟩=some (ckv c.T c.nx c.L o s i):=by
 obtain⟨cs,h1,h2⟩:=h.st;have:=h2.at_ i hi;simpa [World.cell?,h1] using this
theorem Kt.fz(h:Kt w a o ob s sb c)(i:Nat):w.frozen? ⟨a,i,none⟩=false:=by obtain⟨cs,h1,_⟩:=h.st;simp[World.frozen?,h1]
theorem Kt.c0(h:Kt w a o ob s sb c):w.cell? ⟨a,0,none⟩=some (.int .i64 c.T):=h.cell 0 (by omega)
theorem Kt.c1(h:Kt w a o ob s sb c):w.cell? ⟨a,1,none⟩=some (.int .i64 c.nx):=h.cell 1 (by omega)
theorem Kt.c2(h:Kt w a o ob s sb c):w.cell? ⟨a,2,none⟩=some (.pointer (some ⟨o,0,none⟩)):=h.cell 2 (by omega)
theorem Kt.c3(h:Kt w a o ob s sb c):w.cell? ⟨a,3,none⟩=some (.pointer (some ⟨s,0,none⟩)):=h.cell 3 (by omega)
theorem Kt.ca(h:Kt w a o ob s sb c)(k:Nat)(hk:k<4160):w.cell? ⟨a,4+k * 3,none⟩=some (.int .i64 (hA c.L k)):=by rw[h.cell _ (by omega),ckv_a]
theorem Kt.cr(h:Kt w a o ob s sb c)(k:Nat)(hk:k<4160):w.cell? ⟨a,4+k * 3+1,none⟩=some (.int .i64 (hR c.L k)):=by rw[h.cell _ (by omega),ckv_r]
theorem Kt.cn(h:Kt w a o ob s sb c)(k:Nat)(hk:k<4160):w.cell? ⟨a,4+k * 3+2,none⟩=some (.int .i64 (hN c.L k)):=by rw[h.cell _ (by omega),ckv_n]
theorem Kt.carry{S:Nat→Prop}(h:Kt w a o ob s sb c)(f:Fr S w w')(ha:¬S a)(ho:¬S o)(hob:¬S ob)(hs:¬S s)(hsb:¬S sb)(h0:¬S 2):Kt w' a o ob s sb c:=by
 obtain⟨cs,h1,h2⟩:=h.st;exact⟨⟨cs,by rw[f.block a h.lta ha];exact h1,h2⟩,h.sho.carry f ho hob h0,h.shs.carry f hs hsb h0,h.ne,h.a0,h.ok⟩
theorem Kt.kept(h:Kt w a o ob s sb c)(f:Fr (fun _=>False) w w'):Kt w' a o ob s sb c:=h.carry f id id id id id id
end
structure Kb(w:World)(B:Nat)(t s r n:Int):Prop where
 heap:w.heap[B]? =some (.cells #[.int .i64 t,.int .i64 s,.int .i64 r,.int .i64 n] 190 (0,0))
section
variable{w w':World}{B:Nat}{t s r n:Int}
theorem Kb.new(w:World)(t s r n:Int):Kb (w.alloc (.cells #[.int .i64 t,.int .i64 s,.int .i64 r,.int .i64 n] 190)) w.heap.size t s r n:=⟨heap_alloc_new w _⟩
theorem Kb.lt(h:Kb w B t s r n):B<w.heap.size:=(Array.getElem?_eq_some_iff.1 h.heap).1
theorem Kb.carry{S:Nat→Prop}(h:Kb w B t s r n)(f:Fr S w w')(hn:¬S B):Kb w' B t s r n:=⟨by rw[f.block B h.lt hn];exact h.heap⟩
theorem Kb.kept(h:Kb w B t s r n)(f:Fr (fun _=>False) w w'):Kb w' B t s r n:=h.carry f id
theorem Kb.alloc(h:Kb w B t s r n)(o:Obj):Kb (w.alloc o) B t s r n:=h.kept ((Fr.refl _ _).alloc o)
theorem Kb.put(h:Kb w B t s r n)(t' s' r' n':Int):Kb ((((w.setCell ⟨B,0,none⟩ (.int .i64 t')).setCell ⟨B,1,none⟩ (.int .i64 s')).setCell ⟨B,2,none⟩ (.int .i64 r')).setCell ⟨B,3,none⟩ (.int .i64 n')) B t' s' r' n':=⟨by simp[World.setCell,Array.getElem?_modify,h.heap]⟩
theorem Kb.set1(h:Kb w B t s r n)(x:Int):Kb (w.setCell ⟨B,1,none⟩ (.int .i64 x)) B t x r n:=⟨by simp[World.setCell,Array.getElem?_modify,h.heap]⟩
theorem Kb.set2(h:Kb w B t s r n)(x:Int):Kb (w.setCell ⟨B,2,none⟩ (.int .i64 x)) B t s x n:=⟨by simp[World.setCell,Array.getElem?_modify,h.heap]⟩
theorem Kb.set3(h:Kb w B t s r n)(x:Int):Kb (w.setCell ⟨B,3,none⟩ (.int .i64 x)) B t s r x:=⟨by simp[World.setCell,Array.getElem?_modify,h.heap]⟩
theorem Kb.g(h:Kb w B t s r n)(k:Nat):w.frozen? ⟨B,k,none⟩=false:=by simp[World.frozen?,h.heap]
theorem Kb.c0(h:Kb w B t s r n):w.cell? ⟨B,0,none⟩=some (.int .i64 t):=by simp[World.cell?,h.heap]
theorem Kb.c1(h:Kb w B t s r n):w.cell? ⟨B,1,none⟩=some (.int .i64 s):=by simp[World.cell?,h.heap]
theorem Kb.c2(h:Kb w B t s r n):w.cell? ⟨B,2,none⟩=some (.int .i64 r):=by simp[World.cell?,h.heap]
theorem Kb.c3(h:Kb w B t s r n):w.cell? ⟨B,3,none⟩=some (.int .i64 n):=by simp[World.cell?,h.heap]
end
theorem gC(x:Int)(h0:0≤x)(h1:x≤18446744073709551615):IntKind.u64.wrap x=x:=by rw[IntKind.wrap_u64];omega
theorem ot(x:Int)(h0:0≤x)(h1:x≤9223372036854775807):IntKind.i64.wrap x=x:=by rw[IntKind.wrap_i64];omega
theorem parts{h:Int}(h0:0≤h)(h1:h≤18446744073709551615):(Int.tmod h 16=h % 16∧Int.tdiv h 16=h / 16∧Int.tmod (h / 16) 8=h / 16 % 8)∧(Int.tdiv h 128=h / 128∧Int.tmod (h / 128) 8192=h / 128 % 8192∧Int.tdiv h 1048576=h / 1048576)∧(0≤h / 16∧h / 16≤1152921504606846975)∧(0≤h / 128∧h / 128≤144115188075855871)∧(0≤h / 1048576∧h / 1048576≤17592186044415):=by
 refine⟨⟨Int.tmod_eq_emod_of_nonneg h0,Int.tdiv_eq_ediv_of_nonneg h0,Int.tmod_eq_emod_of_nonneg (by omega)⟩,⟨Int.tdiv_eq_ediv_of_nonneg h0,Int.tmod_eq_emod_of_nonneg (by omega),Int.tdiv_eq_ediv_of_nonneg h0⟩,?_,?_,?_⟩<;>omega
def kc(T:Int)(x:Sl):List Value:=[.int .i64 T,.int .i64 x.s,.int .i64 x.r,.int .i64 x.n,.int .i64 x.a]
def sc(T:Int)(L:List Sl):List Value:=L.flatMap (kc T)
theorem et{w w':World}{base:Nat}{v:Value}{S:Nat→Prop}{e:TypeId}{size n:Nat}{xs:List Value}(h:w.ownsRow base e size v n xs)(f:Fr S w w')(hs:∀x,v.ownBlock=some x→¬S x):w'.ownsRow base e size v n xs:=by
 obtain⟨h1,h2⟩:=h;refine⟨h1,?_⟩;rcases h2 with h2|⟨g,cap,cur,rfl,hb,hc,rest⟩
 ·exact .inl h2
 ·exact .inr ⟨g,cap,cur,rfl,hb,by rw[f.block g (Array.getElem?_eq_some_iff.1 hc).1 (hs g rfl)];exact hc,rest⟩
theorem tq{w:World}{base base':Nat}{v:Value}{e:TypeId}{size n:Nat}{xs:List Value}(h:w.ownsRow base e size v n xs)(hb:base'≤base):w.ownsRow base' e size v n xs:=by
 obtain⟨h1,h2⟩:=h;refine⟨h1,?_⟩;rcases h2 with h2|⟨g,cap,cur,rfl,hb',hc,rest⟩
 ·exact .inl h2
 ·exact .inr ⟨g,cap,cur,rfl,by omega,hc,rest⟩
section
variable{w w':World}{base r:Nat}{v:Value}{c:Ct}
end
structure Hb(w:World)(B:Nat)(t:TypeId)(x r n:Int):Prop where
 heap:w.heap[B]? =some (.cells #[.int .i64 x,.int .i64 r,.int .i64 n] t (0,0))
section
variable{w w':World}{B:Nat}{t:TypeId}{x r n:Int}
theorem Hb.new(w:World)(t:TypeId)(x r n:Int):Hb (w.alloc (.cells #[.int .i64 x,.int .i64 r,.int .i64 n] t)) w.heap.size t x r n:=⟨heap_alloc_new w _⟩
theorem Hb.lt(h:Hb w B t x r n):B<w.heap.size:=(Array.getElem?_eq_some_iff.1 h.heap).1
theorem Hb.carry{S:Nat→Prop}(h:Hb w B t x r n)(f:Fr S w w')(hn:¬S B):Hb w' B t x r n:=⟨by rw[f.block B h.lt hn];exact h.heap⟩
theorem Hb.g(h:Hb w B t x r n)(k:Nat):w.frozen? ⟨B,k,none⟩=false:=by simp[World.frozen?,h.heap]
theorem Hb.put(h:Hb w B t x r n)(x' r' n':Int):Hb (((w.setCell ⟨B,0,none⟩ (.int .i64 x')).setCell ⟨B,1,none⟩ (.int .i64 r')).setCell ⟨B,2,none⟩ (.int .i64 n')) B t x' r' n':=⟨by simp[World.setCell,Array.getElem?_modify,h.heap]⟩
theorem Hb.c0(h:Hb w B t x r n):w.cell? ⟨B,0,none⟩=some (.int .i64 x):=by simp[World.cell?,h.heap]
theorem Hb.c1(h:Hb w B t x r n):w.cell? ⟨B,1,none⟩=some (.int .i64 r):=by simp[World.cell?,h.heap]
theorem Hb.c2(h:Hb w B t x r n):w.cell? ⟨B,2,none⟩=some (.int .i64 n):=by simp[World.cell?,h.heap]
end
theorem k_of(x r n q:Int)(w:World):Calls Tryz.prog 171 #[.agg #[.int .i64 x,.int .i64 r,.int .i64 n],.int .i64 q] w fun e w'=>e=.returned (.bool (decide (0<n∧x=q)))∧Fr (fun _=>False) w w':=by
 have HA:=hid (Hb.new w 154 x r n);have c0:=HA.out.c0;have c2:=HA.out.c2;clear HA;by_cases k0:0<n
 case neg=>
  have he:Hid (decide (0<n∧x=q)=false):=decide_eq_false fun h=>k0 h.1
  generalize decide (0<n∧x=q)=v at *;go_enter Tryz.func171,Tryz.ntmps171;go_wp2;go_ret;exact⟨by rw[he.out];simp,(Fr.refl _ _).alloc _⟩
 have he:Hid (decide (0<n∧x=q)=(x==q)):=hid (by by_cases h:x=q<;>simp[h,k0]);generalize decide (0<n∧x=q)=v at *;go_enter Tryz.func171,Tryz.ntmps171;go_wp2;go_ret;exact⟨by rw[he.out];simp,(Fr.refl _ _).alloc _⟩
theorem k_has(x r n q:Int)(w:World):Calls Tryz.prog 91 #[.agg #[.int .i64 x,.int .i64 r,.int .i64 n],.int .i64 q] w fun e w'=>e=.returned (.bool (Go.bits .andNot .i64 q r==0))∧Fr (fun _=>False) w w':=by
 have HA:=hid (Hb.new w 154 x r n);have c1:=HA.out.c1;clear HA;go_enter Tryz.func91,Tryz.ntmps91;go_wp2;go_ret;exact⟨by simp,(Fr.refl _ _).alloc _⟩
theorem Bw{w:World}{a o ob s sb:Nat}{c:Ct}(h:Kt w a o ob s sb c)(k:Nat)(hk:k<4160):Calls Tryz.prog 133 #[.pointer (some ⟨a,0,none⟩),.int .i64 k] w fun e w'=>e=.returned (.agg #[.int .i64 c.T,.int .i64 k,.int .i64 (hR c.L k),.int .i64 (hN c.L k)])∧Fr (fun _=>False) w w':=by
 have h1:=h.kept ((Fr.refl _ _).alloc (.cells #[.int .i64 0,.int .i64 0,.int .i64 0,.int .i64 0] 190));have ca:=h1.ca k hk;have cr:=h1.cr k hk;have cn:=h1.cn k hk;have hk0:=Kb.new w 0 0 0 0;have f1:Fr (fun k=>w.heap.size≤k) w (w.alloc (.cells #[.int .i64 0,.int .i64 0,.int .i64 0,.int .i64 0] 190)):=(Fr.refl _ _).alloc _;generalize hw1:w.alloc (.cells #[.int .i64 0,.int .i64 0,.int .i64 0,.int .i64 0] 190)=w1 at *;have H1:=hid (And.intro h1 (And.intro hk0 f1));clear h1 hk0 f1;go_enter Tryz.func133,Tryz.ntmps133;go_wp2;clear ca cr cn hw1 h;have h2:=H1.out.1.kept ((Fr.refl _ _).alloc (.cells #[.int .i64 (hA c.L k),.int .i64 (hR c.L k),.int .i64 (hN c.L k)] 156));have hh:=Hb.new w1 156 (hA c.L k) (hR c.L k) (hN c.L k);have hk2:=H1.out.2.1.alloc (.cells #[.int .i64 (hA c.L k),.int .i64 (hR c.L k),.int .i64 (hN c.L k)] 156);have f2:=H1.out.2.2.alloc (.cells #[.int .i64 (hA c.L k),.int .i64 (hR c.L k),.int .i64 (hN c.L k)] 156);generalize w1.alloc (.cells #[.int .i64 (hA c.L k),.int .i64 (hR c.L k),.int .i64 (hN c.L k)] 156)=w2 at *;generalize w1.heap.size=B at *;have c0:=h2.c0;have c1:=hh.c1;have c2:=hh.c2;have z0:=hk2.c0;have z1:=hk2.c1;have z2:=hk2.c2;have z3:=hk2.c3;have g:∀k,w2.frozen? ⟨w.heap.size,k,none⟩=false:=fun k=>hk2.g k
 have H2:=hid (And.intro hk2 f2);clear h2 hh hk2 f2 H1;go_region;go_wp2;have P:=H2.out.1.put c.T k (hR c.L k) (hN c.L k);have k0:=P.c0;have k1:=P.c1;have k2:=P.c2;have k3:=P.c3;exact bodyPost_ret (v:=.agg #[.int .i64 c.T,.int .i64 k,.int .i64 (hR c.L k),.int .i64 (hN c.L k)]) (by simp[results,Tryz.results133,go_sem,k0,k1,k2,k3]) rfl ⟨rfl,((((Fr.setCell H2.out.2 (p:=⟨w.heap.size,0,none⟩) (Nat.le_refl _) _).setCell (p:=⟨w.heap.size,1,none⟩) (Nat.le_refl _) _).setCell (p:=⟨w.heap.size,2,none⟩) (Nat.le_refl _) _).setCell (p:=⟨w.heap.size,3,none⟩) (Nat.le_refl _) _).drew.new⟩
end Go.Proofs.YtndhbnhobhkmaaaGreatDoor.Ka
