/-
  Load and Store: words of eight bytes.
  Chains of blocks whose links lie in a row of bytes: plain mathematics off the document. Nothing of the program is named here.
  A page of small blocks: plain mathematics off the document. Nothing of the program is named here.
-/
import Derived.Test.YtndhbnhobhkmaaaGreatDoorAnArena
import Derived.Test.YtndhbnhobhkmaaaGreatDoorDmCalls
set_option maxRecDepth 20000
set_option maxHeartbeats 400000
namespace Go.Proofs.YtndhbnhobhkmaaaGreatDoor.An
open Go.RowKit
theorem store_no{w:World}{B a b:Nat}{bs:List UInt8}{v:Value}{ss:List Sp}(h:Ar w 111 B a b bs v ss)(x u:Int)(hx:x≤9223372036854775807)(hin:inB x 8 bs.length=false):
  Calls Tryz.prog 245 #[.pointer (some ⟨a,0,none⟩),.int .i64 x,.int .u64 u] w fun e w'=>e=.returned (.int .i64 4)∧w'=w:=by
 have ht:=aH h x 8 hx;rw[hin] at ht;have Ht:Hid (Calls Tryz.prog 115 #[.pointer (some ⟨a,0,none⟩),.int .i64 x,.int .i64 8] w fun e w'=>e=.returned (.bool false)∧w'=w):=ht;clear ht h hin;go_enter Tryz.func245,Tryz.ntmps245;go_wp2;refine cN 0 34 w rfl ?first ?pass
 case first=>
  go_wp2_with fail;refine Ht.out.mono ?_;rintro e w' ⟨rfl,hw⟩;obtain rfl:=hw.symm;go_wp2;go_step3;exact And.intro rfl (And.intro rfl (And.intro rfl rfl))
 case pass=>
  intro A hd hs;go_wp2;rw[ao];go_ret;exact⟨by simp[hs],rfl⟩
def word:List UInt8→Nat
 |[]=>0
 |x::r=>x.toNat+256 * word r
theorem gD:∀(l:List UInt8) (x:UInt8),word (l++[x])=word l+x.toNat * 256 ^ l.length
 |[],x=>by simp[word]
 |y::l,x=>by
  simp only[List.cons_append,word,gD l x,List.length_cons,Nat.pow_succ,Nat.mul_add];rw[←Nat.add_assoc];congr 1;rw[←Nat.mul_assoc,Nat.mul_comm 256,Nat.mul_assoc,Nat.mul_comm 256]
theorem word_lt:∀l:List UInt8,word l<256 ^ l.length
 |[]=>by simp[word]
 |x::l=>by
  have h:=word_lt l;have hx:x.toNat<256:=x.toNat_lt;simp only[word,List.length_cons,Nat.pow_succ];omega
def leb(u n:Nat):List UInt8:=(List.range n).map fun i=>UInt8.ofNat (u / 256 ^ i % 256)
theorem ar(u n:Nat):(leb u n).length=n:=by simp[leb]
theorem pL(u n:Nat):leb u (n+1)=leb u n++[UInt8.ofNat (u / 256 ^ n % 256)]:=by
 simp[leb,List.range_succ]
theorem ou(u:Nat):∀n,word (leb u n)=u % 256 ^ n
 |0=>by simp[leb,word,Nat.mod_one]
 |n+1=>by
  rw[pL,gD,ou u n,ar,Nat.pow_succ,Nat.mod_mul];have h:(UInt8.ofNat (u / 256 ^ n % 256)).toNat=u / 256 ^ n % 256:=by
   simp
  rw[h,Nat.mul_comm]
theorem AJ(l:List UInt8)(x:UInt8)(h:l.length<8):bits BinOp.or IntKind.u64 (word l:Int) (IntKind.u64.wrap (IntKind.u64.wrap (x.toNat:Int) * 2 ^ (8 * l.length)))=(word (l++[x]):Int):=by
 have hx:x.toNat<256:=x.toNat_lt;have hl:=word_lt l;have e256:(256:Nat) ^ l.length=2 ^ (8 * l.length):=by rw[Nat.pow_mul]
 have hp:(2:Nat) ^ (8 * l.length)≤2 ^ 56:=Nat.pow_le_pow_right (by omega) (by omega);have hb:x.toNat * 2 ^ (8 * l.length)<2 ^ 64:=by
  calc x.toNat * 2 ^ (8 * l.length)≤255 * 2 ^ 56:=Nat.mul_le_mul (by omega) hp
   _<2 ^ 64:=by decide
 have w1:IntKind.u64.wrap (x.toNat:Int)=(x.toNat:Int):=by
  rw[show IntKind.u64.wrap (x.toNat:Int)=(x.toNat:Int) % 18446744073709551616 from rfl];omega
 have w2:IntKind.u64.wrap ((x.toNat:Int) * 2 ^ (8 * l.length))=((x.toNat * 2 ^ (8 * l.length):Nat):Int):=by
  rw[show IntKind.u64.wrap ((x.toNat:Int) * 2 ^ (8 * l.length))=((x.toNat:Int) * 2 ^ (8 * l.length)) % 18446744073709551616 from rfl];have e:((x.toNat:Int) * 2 ^ (8 * l.length))=((x.toNat * 2 ^ (8 * l.length):Nat):Int):=by simp
  rw[e];have:x.toNat * 2 ^ (8 * l.length)<18446744073709551616:=hb;omega
 rw[w1,w2,u64_or_nat _ _ (by rw[e256] at hl;have:(2:Nat) ^ 56<18446744073709551616:=(by decide);omega) hb,gD,e256,Nat.or_comm,←Nat.shiftLeft_eq,←Nat.shiftLeft_add_eq_or_of_lt (by rw[←e256];exact hl),Nat.add_comm]
theorem tM(bs:List UInt8)(p j:Nat)(hj:j<8)(hin:p+8≤bs.length):
  bits BinOp.or IntKind.u64 (word ((bs.drop p).take j):Int) (IntKind.u64.wrap (IntKind.u64.wrap ((bs[p+j]'(by omega)).toNat:Int) * 2 ^ (8 * j)))=(word ((bs.drop p).take (j+1)):Int):=by
 have hlen:((bs.drop p).take j).length=j:=by simp;omega
 have h1:=AJ ((bs.drop p).take j) (bs[p+j]'(by omega)) (by omega);rw[hlen] at h1;rw[h1,List.take_add_one];simp[List.getElem?_drop,show p+j<bs.length by omega]
theorem Bc{w:World}{B a b:Nat}{bs:List UInt8}{v:Value}{ss:List Sp}(h:Ar w 111 B a b bs v ss)(p:Nat)(hin:p+8≤bs.length)(hk:ss.length≤1000000):
  Calls Tryz.prog 252 #[.pointer (some ⟨a,0,none⟩),.int .i64 p] w fun e w'=>e=.returned (.tuple #[.int .u64 (word ((bs.drop p).take 8)),.int .i64 0])∧
   aX w w' 111 B a b bs v (ss++[((p:Int),(8:Int),false)]):=by
 have hle:=h.le;have Ht:Hid (Calls Tryz.prog 115 #[.pointer (some ⟨a,0,none⟩),.int .i64 p,.int .i64 8] w fun e w'=>e=.returned (.bool true)∧w'=w):=by
  have ht:=aH h p 8 (by omega);rw[bn.2 ⟨by omega,by omega,by omega⟩] at ht;exact ht
 have c0:=h.c0;have HN:Hid (Calls Tryz.prog 116 #[.pointer (some ⟨a,0,none⟩),.int .i64 p,.int .i64 8,.bool false] w fun e w'=>e=.returned (.tuple #[])∧
   aX w w' 111 B a b bs v (ss++[((p:Int),(8:Int),false)])):=ke h p 8 false hk (by omega)
 have hcells:Hid (∀j (hj:p+j<bs.length),w.cell? ⟨b,p+j,none⟩=some (.int .u8 ((bs[p+j]'hj).toNat:Int))):=fun j hj=>fX h.by' (p+j) hj
 clear h;go_enter Tryz.func252,Tryz.ntmps252;go_wp2;go_step3;go_wp2_with fail;refine Ht.out.mono ?_;rintro e w' ⟨rfl,hw⟩;obtain rfl:=hw.symm;clear Ht;go_wp2;go_loop [6,7,14] (fun acc _ i=>∃j:Nat,j≤8∧i=.int .i64 j∧acc=.int .u64 (word ((bs.drop p).take j))) (fun _ _ i=>8 - (intOf i).toNat)
 case atStart=>exact⟨0,by omega,rfl,rfl⟩
 case round=>
  obtain⟨j,hj,rfl,rfl⟩:=hrel;by_cases hlt:j<8
  ·have hc:=hcells.out j (by omega);have hst:=tM bs p j hlt hin;have HST:Hid (bits BinOp.or IntKind.u64 (word ((bs.drop p).take j):Int) (IntKind.u64.wrap (IntKind.u64.wrap ((bs[p+j]'(by omega)).toNat:Int) * 2 ^ (8 * j)))=(word ((bs.drop p).take (j+1)):Int)):=hst;clear hst;generalize word ((bs.drop p).take j)=u at *;go_wp2;go_round
   case rel=>exact⟨j+1,by omega,by go_num,by rw[HST.out]⟩
   case measure=>simp[intOf];omega
  ·obtain rfl:j=8:=by omega
   clear hcells;go_wp2_with fail;refine HN.out.mono ?_;rintro e w1 ⟨rfl,hn⟩;go_wp2;rw[Exit.noGoto_ret];go_ret2;exact⟨rfl,hn⟩
theorem tt(bs:List UInt8)(p:Nat)(l:List UInt8)(x:UInt8)(h:p+l.length<bs.length):(over bs p l).set (p+l.length) x=over bs p (l++[x]):=by
 have e:bs.drop (p+l.length)=bs[p+l.length]::bs.drop (p+(l++[x]).length):=by
  rw[List.drop_eq_getElem_cons h];simp[Nat.add_assoc]
 have hl:(bs.take p++l).length=p+l.length:=by simp;omega
 unfold over;rw[e,List.set_append_right _ _ (by omega),hl,Nat.sub_self,List.set_cons_zero];simp
theorem bc_set(l:List UInt8)(i:Nat)(x:UInt8):(bc l).toArray.setIfInBounds i (.int .u8 (x.toNat:Int))=(bc (l.set i x)).toArray:=by
 simp[bc,List.map_set]
theorem Ar.Ap{w:World}{T:TypeId}{B a b:Nat}{bs:List UInt8}{v:Value}{ss:List Sp}(h:Ar w T B a b bs v ss)(i:Nat)(x:UInt8):Ar (w.setCell ⟨b,i,none⟩ (.int .u8 (x.toNat:Int))) T B a b (bs.set i x) v ss:=by
 rw[setCell_eq_setRow w b i _ _ _ _ h.by',bc_set];exact h.setRow _ (by simp)
theorem mV{w:World}{T:TypeId}{B a b:Nat}{bs:List UInt8}{v:Value}{ss:List Sp}{p u j:Nat}(h:Ar w T B a b (over bs p (leb u j)) v ss)(hj:p+j<bs.length):
  Ar (w.setCell ⟨b,p+j,none⟩ (.int .u8 ((u:Int) / 2 ^ (8 * j) % 256))) T B a b (over bs p (leb u (j+1))) v ss:=by
 have e:((u:Int) / 2 ^ (8 * j) % 256)=(((UInt8.ofNat (u / 256 ^ j % 256)).toNat:Nat):Int):=by
  have e1:(256:Nat) ^ j=2 ^ (8 * j):=by rw[Nat.pow_mul]
  rw[e1];simp
 have h2:=h.Ap (p+j) (UInt8.ofNat (u / 256 ^ j % 256));rw[←e] at h2;have h3:=tt bs p (leb u j) (UInt8.ofNat (u / 256 ^ j % 256)) (by rw[ar];exact hj);rw[ar,←pL] at h3;rw[h3] at h2;exact h2
theorem vQ{w:World}{B a b:Nat}{bs:List UInt8}{v:Value}{ss:List Sp}(h:Ar w 111 B a b bs v ss)(p u:Nat)(_hu:u<18446744073709551616)(hin:p+8≤bs.length)(hk:ss.length≤1000000):
  Calls Tryz.prog 245 #[.pointer (some ⟨a,0,none⟩),.int .i64 p,.int .u64 u] w fun e w'=>e=.returned (.int .i64 0)∧
   aX w w' 111 B a b (over bs p (leb u 8)) v (ss++[((p:Int),(8:Int),true)]):=by
 have hle:=h.le;have Ht:Hid (Calls Tryz.prog 115 #[.pointer (some ⟨a,0,none⟩),.int .i64 p,.int .i64 8] w fun e w'=>e=.returned (.bool true)∧w'=w):=by
  have ht:=aH h p 8 (by omega);rw[bn.2 ⟨by omega,by omega,by omega⟩] at ht;exact ht
 go_enter Tryz.func245,Tryz.ntmps245;go_wp2;go_step3;go_wp2_with fail;refine Ht.out.mono ?_;rintro e w' ⟨rfl,hw⟩;obtain rfl:=hw.symm;clear Ht;go_wp2;go_loopw [7,14] (fun _ i wr=>∃j:Nat,j≤8∧i=.int .i64 j∧Ar wr 111 B a b (over bs p (leb u j)) v ss∧Fr (fun y=>y=b) w wr) (fun _ i _=>8 - (intOf i).toNat)
 case atStart=>exact⟨0,by omega,rfl,by simpa [over,leb] using h,Fr.refl _ _⟩
 case round=>
  obtain⟨j,hj,rfl,har,hfr⟩:=hrel;by_cases hlt:j<8
  ·have hl:(over bs p (leb u j)).length=bs.length:=al _ _ _ (by rw[ar];omega);have c0:=har.c0;rw[hl] at c0;have hc:=fX har.by' (p+j) (by rw[hl];omega);have hz:=qD har.by' (p+j);generalize (over bs p (leb u j))[p+j].toNat=old at hc;have HA:Hid (Ar wr 111 B a b (over bs p (leb u j)) v ss):=har;have HF:Hid (Fr (fun y=>y=b) w wr):=hfr;clear har hfr h hl;go_wp2;go_region;go_wp2;go_roundw
   case rel=>exact⟨j+1,by omega,by go_num,(mV HA.out (by omega)).drew,(HF.out.setCell rfl _).drew⟩
   case measure=>simp[intOf];omega
  ·obtain rfl:j=8:=by omega
   have HN:Hid (Calls Tryz.prog 116 #[.pointer (some ⟨a,0,none⟩),.int .i64 p,.int .i64 8,.bool true] wr fun e w'=>e=.returned (.tuple #[])∧
    aX wr w' 111 B a b (over bs p (leb u 8)) v (ss++[((p:Int),(8:Int),true)])):=ke har p 8 true hk (by omega)
   have HF:Hid (Fr (fun y=>y=b) w wr):=hfr;clear har hfr h;go_wp2_with fail;refine HN.out.mono ?_;rintro e w1 ⟨rfl,hn⟩;go_wp2;rw[Exit.noGoto_ret];go_ret;exact⟨rfl,aX.step (HF.out.mono fun _ _ h=>.inr (.inl h)) (fun _ h=>.inl h) hn⟩
end Go.Proofs.YtndhbnhobhkmaaaGreatDoor.An
namespace Go.Proofs.YtndhbnhobhkmaaaGreatDoor
open Go.RowKit
open An
theorem bC(bs:List UInt8)(p:Nat)(ds:List UInt8)(h:p+ds.length≤bs.length)(j:Nat):(over bs p ds)[j]? =if j<p then bs[j]? else if j<p+ds.length then ds[j - p]? else bs[j]? :=by
 unfold over;have hp:(bs.take p).length=p:=by simp;omega
 by_cases h1:j<p
 ·rw[if_pos h1,List.append_assoc,List.getElem?_append_left (by omega),List.getElem?_take_of_lt h1]
 ·rw[if_neg h1];by_cases h2:j<p+ds.length
  ·rw[if_pos h2,List.getElem?_append_left (by rw[List.length_append];omega),List.getElem?_append_right (by omega),hp]
  ·rw[if_neg h2,List.getElem?_append_right (by rw[List.length_append];omega),List.length_append,hp,List.getElem?_drop];congr 1;omega
def wd(bs:List UInt8)(p:Nat):Nat:=word ((bs.drop p).take 8)
theorem wd_lt(bs:List UInt8)(p:Nat):wd bs p<18446744073709551616:=by
 have h:=word_lt ((bs.drop p).take 8);have h2:((bs.drop p).take 8).length≤8:=by simp;omega
 have h3:256 ^ ((bs.drop p).take 8).length≤256 ^ 8:=Nat.pow_le_pow_right (by omega) h2;unfold wd;omega
theorem zT{bs:List UInt8}{p u:Nat}(h:p+8≤bs.length)(hu:u<18446744073709551616):wd (over bs p (leb u 8)) p=u:=by
 have hl:(leb u 8).length=8:=ar u 8;have e:((over bs p (leb u 8)).drop p).take 8=leb u 8:=by
  apply List.ext_getElem?;intro i;by_cases hi:i<8
  ·rw[List.getElem?_take_of_lt hi,List.getElem?_drop,bC bs p _ (by omega),if_neg (by omega),if_pos (by omega)];congr 1;omega
  ·rw[List.getElem?_eq_none (by simp;omega),List.getElem?_eq_none (by omega)]
 unfold wd;rw[e,ou];exact Nat.mod_eq_of_lt hu
structure Ck where
 base:Nat
 unit:Nat
 per:Nat
 hd:Nat
structure Ck.Ok(k:Ck)(n:Nat):Prop where
 u0:8≤k.unit
 u1:k.unit≤512
 p0:1≤k.per
 p1:k.per≤64
 hd:k.hd≤k.per
 fit:k.base+k.unit * k.per≤n
def Ck.pos(k:Ck)(x:Nat):Nat:=k.base+x * k.unit
def Ck.to(k:Ck)(v:Nat):Ck:=⟨k.base,k.unit,k.per,v⟩
theorem Ck.Ok.at{k:Ck}{n:Nat}(h:k.Ok n){x:Nat}(hx:x<k.per):k.pos x+8≤n:=by
 have h1:=h.u0;have h2:=h.fit;have h3:(x+1) * k.unit≤k.per * k.unit:=Nat.mul_le_mul_right _ hx;rw[Nat.add_mul,Nat.one_mul,Nat.mul_comm k.per] at h3;unfold Ck.pos;omega
section
variable{k:Ck}{bs:List UInt8}{ss t:List Sp}{os:List Nat}{n v x:Nat}
end
def taE(k:Ck):Int:=if k.hd=0 then 0 else 7
def taS(k d:Ck):Ck:=if k.hd=0 then k.to d.hd else k
abbrev Ck.Lies(k:Ck)(n:Nat)(x:Int):Prop:=0≤x∧x+(k.unit * k.per:Nat)≤n
def moE(k:Ck)(n:Nat)(x:Int):Int:=if k.Lies n x then 0 else 12
def moS(k:Ck)(n:Nat)(x:Int):Ck:=if k.Lies n x then⟨x.toNat,k.unit,k.per,k.hd⟩ else k
abbrev NewOk(n:Nat)(x u p:Int):Prop:=(8≤u∧u≤512)∧(1≤p∧p≤64)∧0≤x∧x+u * p≤n
section
variable{k:Ck}{n:Nat}{bs:List UInt8}{ss:List Sp}
end
def lnk:List Nat→Nat
 |[]=>0
 |x::_=>x+1
def Rep(k:Ck)(bs:List UInt8):List Nat→Prop
 |[]=>True
 |x::L=>wd bs (k.pos x)=lnk L∧Rep k bs L
theorem aF:∀(p:Nat) (L:List Nat),L.Nodup→(∀x∈L,x<p)→L.length≤p
 |0,L,_,h=>by
  cases L with
  |nil=>simp
  |cons x L=>exact absurd (h x (List.mem_cons_self ..)) (by omega)
 |p+1,L,hn,h=>by
  have h1:=aF p (L.erase p) (hn.erase p) fun x hx=>by
   have h2:=h x (List.mem_of_mem_erase hx);have h3:x≠p:=fun e=>hn.not_mem_erase (e▸hx)
   omega
  have h2:=List.length_erase (a:=p) (l:=L);split at h2<;>omega
section
variable{k:Ck}{bs:List UInt8}{L:List Nat}
end
def pu(k:Nat):Nat:=(ah k).toNat
def pp(k:Nat):Nat:=(perI k).toNat
theorem ai(k:Nat)(h:k≤7):(16≤pu k∧pu k≤256)∧(2≤pp k∧pp k≤32)∧pu k * pp k≤512∧ah k=(pu k:Int)∧perI k=(pp k:Int):=by
 have:∀k:Fin 8,(16≤pu k∧pu k≤256)∧(2≤pp k∧pp k≤32)∧pu k * pp k≤512∧ah k=(pu k:Int)∧perI k=(pp k:Int):=by decide
 exact this ⟨k,by omega⟩
structure Pg where
 base:Nat
 kind:Nat
 fresh:Nat
 R:List Nat
 D:List Nat
def Pg.ck(g:Pg)(h:Nat):Ck:=⟨g.base,pu g.kind,pp g.kind,h⟩
def Pg.pos(g:Pg)(x:Nat):Nat:=g.base+x * pu g.kind
theorem Pg.ck_pos(g:Pg)(h x:Nat):(g.ck h).pos x=g.pos x:=rfl
abbrev Pg.Had(g:Pg)(x:Nat):Prop:=x<g.fresh∧x∉g.R∧x∉g.D
def Pg.used(g:Pg):Nat:=g.fresh - g.R.length - g.D.length
structure Pg.Ok(g:Pg)(bs:List UInt8):Prop where
 kind:g.kind≤7
 mod:g.base % 512=0
 fit:g.base+512≤bs.length
 r:Rep (g.ck 0) bs g.R
 d:Rep (g.ck 0) bs g.D
 nd:(g.R++g.D).Nodup
 lt:∀x∈g.R++g.D,x<g.fresh
 fr:g.fresh≤pp g.kind
section
variable{g:Pg}{bs:List UInt8}
theorem Pg.Ok.ck(h:g.Ok bs){v:Nat}(hv:v≤pp g.kind):(g.ck v).Ok bs.length:=by
 obtain⟨⟨h1,h2⟩,⟨h3,h4⟩,h5,_⟩:=ai g.kind h.kind;exact⟨by show 8≤pu g.kind;omega,by show pu g.kind≤512;omega,by show 1≤pp g.kind;omega,by show pp g.kind≤64;omega,hv,by show g.base+pu g.kind * pp g.kind≤bs.length;have:=h.fit;omega⟩
theorem Pg.Ok.lr(h:g.Ok bs):∀x∈g.R,x<pp g.kind:=fun x hx=>Nat.lt_of_lt_of_le (h.lt x (List.mem_append_left _ hx)) h.fr
theorem Pg.Ok.ld(h:g.Ok bs):∀x∈g.D,x<pp g.kind:=fun x hx=>Nat.lt_of_lt_of_le (h.lt x (List.mem_append_right _ hx)) h.fr
theorem Pg.Ok.count(h:g.Ok bs):g.R.length+g.D.length≤g.fresh:=by
 have:=aF g.fresh (g.R++g.D) h.nd h.lt
 rwa [List.length_append] at this
theorem Pg.Ok.block(h:g.Ok bs){x:Nat}(hx:x<pp g.kind):g.base≤g.pos x∧g.pos x+pu g.kind≤g.base+512:=by
 obtain⟨_,_,h5,_⟩:=ai g.kind h.kind;have h3:(x+1) * pu g.kind≤pp g.kind * pu g.kind:=Nat.mul_le_mul_right _ hx;rw[Nat.add_mul,Nat.one_mul,Nat.mul_comm (pp g.kind)] at h3;unfold Pg.pos;omega
theorem Pg.apart{x y:Nat}(hn:x≠y):g.pos x+pu g.kind≤g.pos y∨g.pos y+pu g.kind≤g.pos x:=by
 unfold Pg.pos;rcases Nat.lt_or_gt_of_ne hn with e|e
 ·have h3:(x+1) * pu g.kind≤y * pu g.kind:=Nat.mul_le_mul_right _ e;rw[Nat.add_mul,Nat.one_mul] at h3;omega
 ·have h3:(y+1) * pu g.kind≤x * pu g.kind:=Nat.mul_le_mul_right _ e;rw[Nat.add_mul,Nat.one_mul] at h3;omega
end
theorem pG{m:Nat}:∀{L:List Nat},(∀x∈L,x<m)→lnk L≤m
 |[],_=>Nat.zero_le _
 |y::_,h=>h y (List.mem_cons_self ..)
structure Pg.Fit(g:Pg)(n:Nat):Prop where
 kind:g.kind≤7
 mod:g.base % 512=0
 fit:g.base+512≤n
 r:lnk g.R≤pp g.kind
 d:lnk g.D≤pp g.kind
theorem Pg.Ok.lies{g:Pg}{bs:List UInt8}(h:g.Ok bs):g.Fit bs.length:=⟨h.kind,h.mod,h.fit,pG h.lr,pG h.ld⟩
theorem Pg.Fit.ck{g:Pg}{n:Nat}(h:g.Fit n){v:Nat}(hv:v≤pp g.kind):(g.ck v).Ok n:=by
 obtain⟨⟨h1,h2⟩,⟨h3,h4⟩,h5,_⟩:=ai g.kind h.kind;exact⟨by show 8≤pu g.kind;omega,by show pu g.kind≤512;omega,by show 1≤pp g.kind;omega,by show pp g.kind≤64;omega,hv,by show g.base+pu g.kind * pp g.kind≤n;have:=h.fit;omega⟩
theorem wd_far{bs ds:List UInt8}{p q:Nat}(h:p+ds.length≤bs.length)(hq:q+8≤p∨p+ds.length≤q):wd (over bs p ds) q=wd bs q:=by
 unfold wd;congr 1;apply List.ext_getElem?;intro i;by_cases hi:i<8
 ·rw[List.getElem?_take_of_lt hi,List.getElem?_take_of_lt hi,List.getElem?_drop,List.getElem?_drop,bC bs p _ h];by_cases h1:q+i<p
  ·rw[if_pos h1]
  ·rw[if_neg h1,if_neg (by omega)]
 ·rw[List.getElem?_eq_none (by simp;omega),List.getElem?_eq_none (by simp;omega)]
theorem gV{g:Pg}{bs ds:List UInt8}(h:g.Ok bs){x:Nat}(hx:x<pp g.kind)(hd:ds.length≤pu g.kind):∀{L:List Nat},Rep (g.ck 0) bs L→x∉L→Rep (g.ck 0) (over bs (g.pos x) ds) L
 |[],_,_=>trivial
 |y::L,⟨h1,h2⟩,hn=>by
  simp only[List.mem_cons,not_or] at hn;obtain⟨⟨u1,_⟩,_⟩:=ai g.kind h.kind;have hb:=h.block hx;have ha:=Pg.apart (g:=g) hn.1;refine⟨?_,gV h hx hd h2 hn.2⟩;rw[wd_far (by have:=h.fit;omega) (by rw[Pg.ck_pos];omega)];exact h1
theorem Pg.Ok.lay{g:Pg}{bs ds:List UInt8}(h:g.Ok bs){x:Nat}(hx:x<pp g.kind)(hd:ds.length≤pu g.kind)(hr:x∉g.R)(hD:x∉g.D):g.Ok (over bs (g.pos x) ds):=by
 have hb:=h.block hx;refine⟨h.kind,h.mod,?_,gV h hx hd h.r hr,gV h hx hd h.d hD,h.nd,h.lt,h.fr⟩;rw[al _ _ _ (by have:=h.fit;omega)];exact h.fit
abbrev Pg.Full(g:Pg):Prop:=g.used=pp g.kind
def paK(g:Pg):Nat:=match g.R,g.D with
 |x::_,_=>x
 |[],x::_=>x
 |[],[]=>g.fresh
def paE(g:Pg):Int:=if g.Full then 10 else 0
def paV(g:Pg):Int:=if g.Full then 0 else(paK g:Int)
def paS(g:Pg):Pg:=if g.Full then g else match g.R,g.D with
 |_::R,D=>⟨g.base,g.kind,g.fresh,R,D⟩
 |[],_::D=>⟨g.base,g.kind,g.fresh,D,[]⟩
 |[],[]=>⟨g.base,g.kind,g.fresh+1,[],[]⟩
abbrev Pg.Bare(g:Pg):Prop:=g.R=[]∧g.D=[]
def paB(g:Pg)(bs:List UInt8):List UInt8:=if g.Full∨g.Bare then bs else over bs (g.pos (paK g)) (leb 0 8)
def paT(g:Pg)(ss:List Sp):List Sp:=if g.Full∨g.Bare then ss else ss++[((g.pos (paK g):Int),(8:Int),false)]++[((g.pos (paK g):Int),(8:Int),true)]
section
variable{g:Pg}{bs:List UInt8}
theorem Pg.Ok.full(h:g.Ok bs):g.Full↔g.Bare∧g.fresh=pp g.kind:=by
 have h1:=h.count;have h2:=h.fr;obtain⟨_,⟨h3,_⟩,_⟩:=ai g.kind h.kind;unfold Pg.Full Pg.used Pg.Bare;constructor
 ·intro e;exact⟨⟨List.eq_nil_of_length_eq_zero (by omega),List.eq_nil_of_length_eq_zero (by omega)⟩,by omega⟩
 ·rintro⟨⟨e1,e2⟩,e3⟩;rw[e1,e2];simp[e3]
theorem Pg.Ok.popR(h:g.Ok bs){x:Nat}{R:List Nat}(e:g.R=x::R):Pg.Ok ⟨g.base,g.kind,g.fresh,R,g.D⟩ (over bs (g.pos x) (leb 0 8)):=by
 have hx:x<pp g.kind:=h.lr x (by rw[e];exact List.mem_cons_self ..);obtain⟨⟨u1,_⟩,_⟩:=ai g.kind h.kind;have hnd:=h.nd;have hr:=h.r;rw[e] at hnd hr;rw[List.cons_append,List.nodup_cons] at hnd;have hb:=h.block hx;have hl:(leb 0 8).length≤pu g.kind:=by rw[ar];omega
 refine⟨h.kind,h.mod,by rw[al _ _ _ (by have:=h.fit;omega)];exact h.fit,gV h hx hl hr.2 fun m=>hnd.1 (List.mem_append_left _ m),gV h hx hl h.d fun m=>hnd.1 (List.mem_append_right _ m),hnd.2,fun y hy=>h.lt y ?_,h.fr⟩;rw[e];exact List.mem_cons_of_mem _ hy
theorem Pg.Ok.turn(h:g.Ok bs)(e:g.R=[]):Pg.Ok ⟨g.base,g.kind,g.fresh,g.D,[]⟩ bs:=by
 have hnd:=h.nd;have hlt:=h.lt;rw[e,List.nil_append] at hnd hlt;exact⟨h.kind,h.mod,h.fit,h.d,trivial,by rw[List.append_nil];exact hnd,by rw[List.append_nil];exact hlt,h.fr⟩
theorem Pg.Ok.more(h:g.Ok bs)(hf:g.fresh<pp g.kind):Pg.Ok ⟨g.base,g.kind,g.fresh+1,g.R,g.D⟩ bs:=⟨h.kind,h.mod,h.fit,h.r,h.d,h.nd,fun x hx=>Nat.lt_succ_of_lt (h.lt x hx),hf⟩
theorem jX(hf:g.Full):paE g=10∧paV g=0∧paS g=g∧paB g bs=bs:=⟨if_pos hf,if_pos hf,if_pos hf,if_pos (.inl hf)⟩
theorem pa_R{x:Nat}{R:List Nat}(hf:¬g.Full)(e:g.R=x::R):paE g=0∧paV g=x∧paS g=⟨g.base,g.kind,g.fresh,R,g.D⟩∧paB g bs=over bs (g.pos x) (leb 0 8)∧∀ss,paT g ss=ss++[((g.pos x:Int),(8:Int),false)]++[((g.pos x:Int),(8:Int),true)]:=by
 obtain⟨b,kd,fr,R0,D⟩:=g;simp only at e;subst e;have hb:¬(Pg.Full ⟨b,kd,fr,x::R,D⟩∨Pg.Bare ⟨b,kd,fr,x::R,D⟩):=by rintro(h|h);exact hf h;cases h.1
 refine⟨if_neg hf,if_neg hf,if_neg hf,if_neg hb,fun ss=>if_neg hb⟩
theorem pa_D{x:Nat}{D:List Nat}(hf:¬g.Full)(e:g.R=[])(e2:g.D=x::D):paE g=0∧paV g=x∧paS g=⟨g.base,g.kind,g.fresh,D,[]⟩∧paB g bs=over bs (g.pos x) (leb 0 8)∧∀ss,paT g ss=ss++[((g.pos x:Int),(8:Int),false)]++[((g.pos x:Int),(8:Int),true)]:=by
 obtain⟨b,kd,fr,R0,D0⟩:=g;simp only at e e2;subst e e2;have hb:¬(Pg.Full ⟨b,kd,fr,[],x::D⟩∨Pg.Bare ⟨b,kd,fr,[],x::D⟩):=by rintro(h|h);exact hf h;cases h.2
 refine⟨if_neg hf,if_neg hf,if_neg hf,if_neg hb,fun ss=>if_neg hb⟩
theorem pa_F(hf:¬g.Full)(e:g.R=[])(e2:g.D=[]):paE g=0∧paV g=g.fresh∧paS g=⟨g.base,g.kind,g.fresh+1,[],[]⟩∧paB g bs=bs∧∀ss,paT g ss=ss:=by
 obtain⟨b,kd,fr,R0,D0⟩:=g;simp only at e e2;subst e e2;have hb:Pg.Full ⟨b,kd,fr,[],[]⟩∨Pg.Bare ⟨b,kd,fr,[],[]⟩:=.inr ⟨rfl,rfl⟩;refine⟨if_neg hf,if_neg hf,if_neg hf,if_pos hb,fun ss=>if_pos hb⟩
theorem Pg.Ok.room(h:g.Ok bs)(hf:¬g.Full)(hb:g.Bare):g.fresh<pp g.kind:=by
 have:=h.fr;have h2:g.fresh≠pp g.kind:=fun e=>hf (h.full.2 ⟨hb,e⟩)
 omega
theorem Pg.Ok.alloc(h:g.Ok bs):(paS g).Ok (paB g bs)∧(paB g bs).length=bs.length:=by
 obtain⟨⟨u1,_⟩,_⟩:=ai g.kind h.kind;by_cases hf:g.Full
 ·obtain⟨_,_,e1,e2⟩:=jX (bs:=bs) hf;rw[e1,e2];exact⟨h,rfl⟩
 ·cases hR:g.R with
  |cons x R=>
   obtain⟨_,_,e1,e2,_⟩:=pa_R (bs:=bs) hf hR;have hb:=h.block (h.lr x (by rw[hR];exact List.mem_cons_self ..));rw[e1,e2];exact⟨h.popR hR,al _ _ _ (by rw[ar];have:=h.fit;omega)⟩
  |nil=>
   cases hD:g.D with
   |cons x D=>
    obtain⟨_,_,e1,e2,_⟩:=pa_D (bs:=bs) hf hR hD;have hb:=h.block (h.ld x (by rw[hD];exact List.mem_cons_self ..));rw[e1,e2];exact⟨(h.turn hR).popR (x:=x) (R:=D) hD,al _ _ _ (by rw[ar];have:=h.fit;omega)⟩
   |nil=>
    obtain⟨_,_,e1,e2,_⟩:=pa_F (bs:=bs) hf hR hD;rw[e1,e2];have:=h.more (h.room hf ⟨hR,hD⟩);rw[hR,hD] at this;exact⟨this,rfl⟩
end
abbrev Pg.Block(g:Pg)(k:Int):Prop:=0≤k∧k<pp g.kind
abbrev Pg.May(g:Pg)(k:Int):Prop:=g.Block k∧g.Had k.toNat
def pfE(g:Pg)(k:Int):Int:=if g.Block k then(if g.Had k.toNat then 0 else 13) else 12
def pfS(g:Pg)(k:Int):Pg:=if g.May k then⟨g.base,g.kind,g.fresh,g.R,k.toNat::g.D⟩ else g
def nz(n:Nat):List UInt8:=List.replicate n 0
theorem aC(n:Nat):(nz n).length=n:=by simp[nz]
def pfB(g:Pg)(bs:List UInt8)(k:Int):List UInt8:=if g.May k then over (over bs (g.pos k.toNat) (nz (pu g.kind))) (g.pos k.toNat) (leb (lnk g.D) 8) else bs
def pfT(g:Pg)(ss:List Sp)(k:Int):List Sp:=if g.May k then ss++[((g.pos k.toNat:Int),(pu g.kind:Int),true)]++[((g.pos k.toNat:Int),(8:Int),true)] else ss
section
variable{g:Pg}{bs:List UInt8}
theorem Pg.Ok.free(h:g.Ok bs)(k:Int):(pfS g k).Ok (pfB g bs k)∧(pfB g bs k).length=bs.length:=by
 unfold pfS pfB;by_cases hm:g.May k
 ·rw[if_pos hm,if_pos hm];obtain⟨⟨h0,h1⟩,h2,h3,h4⟩:=hm;have hx:k.toNat<pp g.kind:=by omega
  have hb:=h.block hx;obtain⟨⟨u1,_⟩,⟨_,v2⟩,_⟩:=ai g.kind h.kind;have hl1:(nz (pu g.kind)).length≤pu g.kind:=by rw[aC];omega
  have hl2:(leb (lnk g.D) 8).length≤pu g.kind:=by rw[ar];omega
  have k1:=h.lay hx hl1 h3 h4;have e1:(over bs (g.pos k.toNat) (nz (pu g.kind))).length=bs.length:=al _ _ _ (by rw[aC];have:=h.fit;omega);have k2:=k1.lay (ds:=leb (lnk g.D) 8) hx hl2 h3 h4;have e2:(over (over bs (g.pos k.toNat) (nz (pu g.kind))) (g.pos k.toNat) (leb (lnk g.D) 8)).length=bs.length:=(al _ _ _ (by rw[ar,e1];have:=h.fit;omega)).trans e1;have hld:lnk g.D≤pp g.kind:=by
   cases hD:g.D with
   |nil=>exact Nat.zero_le _
   |cons y L=>exact h.ld y (by rw[hD];exact List.mem_cons_self ..)
  refine⟨⟨h.kind,h.mod,k2.fit,k2.r,⟨?_,k2.d⟩,?_,fun y hy=> ?_,h.fr⟩,e2⟩
  ·show wd _ (g.pos k.toNat)=_
   exact zT (by rw[e1];have:=h.fit;omega) (by omega)
  ·rw[List.nodup_append];have hn:=h.nd;rw[List.nodup_append] at hn;refine⟨hn.1,List.nodup_cons.2 ⟨h4,hn.2.1⟩,fun a ha b hb=> ?_⟩;rw[List.mem_cons] at hb;rcases hb with rfl|hb
   ·rintro rfl;exact h3 ha
   ·exact hn.2.2 a ha b hb
  ·rw[List.mem_append,List.mem_cons] at hy;rcases hy with hy|rfl|hy
   ·exact h.lt y (List.mem_append_left _ hy)
   ·exact h2
   ·exact h.lt y (List.mem_append_right _ hy)
 ·rw[if_neg hm,if_neg hm];exact⟨h,rfl⟩
end
def Pg.Clean(g:Pg)(bs:List UInt8):Prop:=∀i,g.base≤i→i<g.base+512→bs[i]?.getD 0≠0→∃x,x<pp g.kind∧((g.Had x∧g.pos x≤i∧i<g.pos x+pu g.kind)∨((x∈g.R∨x∈g.D)∧g.pos x≤i∧i<g.pos x+8))
section
variable{g:Pg}{bs:List UInt8}
theorem Pg.Clean.block(hc:g.Clean bs)(h:g.Ok bs){x:Nat}(hx:x<pp g.kind)(hn:¬g.Had x)(hr:x∉g.R)(hd:x∉g.D):∀i,g.pos x≤i→i<g.pos x+pu g.kind→bs[i]?.getD 0=0:=by
 intro i h1 h2;have hb:=h.block hx;obtain⟨⟨u1,_⟩,_⟩:=ai g.kind h.kind;apply Classical.byContradiction;intro hne;obtain⟨y,hy,h3⟩:=hc i (by omega) (by omega) hne;have hyx:y=x:=Classical.byContradiction fun hne2=>by
  have:=Pg.apart (g:=g) hne2;omega
 subst hyx;rcases h3 with h3|h3
 ·exact hn h3.1
 ·rcases h3.1 with m|m
  ·exact hr m
  ·exact hd m
end
end Go.Proofs.YtndhbnhobhkmaaaGreatDoor
