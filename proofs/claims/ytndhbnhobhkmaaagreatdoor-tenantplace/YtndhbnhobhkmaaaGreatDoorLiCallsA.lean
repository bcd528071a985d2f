/-
  A window's colours, each once.
  What the calls of package colour do over a window.
  A pointer to a shelf is put behind a map's shelves.
  Maps that are made: New, Copy.
  The row as a map from each number to the one behind it: mathematics; and the program's line in memory.
  What the calls of package line do: Len, Has, Front, ahead, All; maps.Clone.
-/
import Derived.Test.YtndhbnhobhkmaaaGreatDoorCqCallsB
import Derived.Test.YtndhbnhobhkmaaaGreatDoorPaThing
import Derived.Shelf.SlMaps.Clone
set_option maxRecDepth 20000
set_option maxHeartbeats 4000000
namespace Go.Proofs.YtndhbnhobhkmaaaGreatDoor.Cq
open Go.RowKit
theorem BB{w:World}{ad:Option Addr}{l:List Int}(cap:Nat)(hl:az w ad l)(hm:l.length≤100000)(x:Int):Calls Tryz.prog 140 #[.slice ad l.length cap,.int .i64 x] w fun e w'=>(∃r:Int,e=.returned (.int .i64 r)∧(0≤r↔x∈l))∧w'=w:=by
 have HL:=hid hl;clear hl;go_enter Tryz.func140,Tryz.ntmps140;go_wp2;go_loopw [5,8] (fun _ i wr=>∃j:Nat,j≤l.length∧i=.int .i64 j∧wr=w∧∀q (hq:q<j) (hl:q<l.length),l[q]≠x) (fun _ i _=>l.length - (intOf i).toNat)
 case atStart=>exact⟨0,by omega,rfl,rfl,fun q hq=>by omega⟩
 case round=>
  obtain⟨j,hj,rfl,hwr,hno⟩:=hrel;obtain rfl:=hwr.symm;have HN:=hid hno;clear hwr hno;by_cases hlt:j<l.length
  ·obtain⟨bb,off,rfl,hb,hc⟩:=HL.out j hlt;have HY:Hid (l[j]=l[j]):=rfl;by_cases hx:x=l[j]
   ·have HE:Hid (x∈l):=by show _∈_;rw[hx];exact List.getElem_mem hlt
    rw[←hx] at hc;clear hx HY;go_wp2;go_ret;exact⟨⟨j,by simp,fun _=>HE.out,fun _=>by omega⟩,rfl⟩
   ·have HE:Hid (∀q (hq:q<j+1) (hl:q<l.length),l[q]≠x):=fun q hq hl=>by
     by_cases e:q=j
     ·subst e;exact fun e=>hx e.symm
     ·exact HN.out q (by omega) hl
    have hb0:(x==l[j])=false:=by simpa using hx
    clear hx HY HN;generalize l[j]=y at *;go_wp2;go_roundw
    case rel=>exact⟨j+1,by omega,by go_num,trivial,HE.out⟩
    case measure=>simp[intOf];omega
  ·have HE:Hid (x∉l):=fun hx=>by
    obtain⟨q,hq,e⟩:=List.getElem_of_mem hx;exact HN.out q (by omega) hq e
   clear HN;go_wp2;go_ret;exact⟨⟨-1,by simp,fun h=>by omega,fun h=>(HE.out h).elim⟩,rfl⟩
theorem nT{w:World}{ad:Option Addr}{l:List Int}(cap:Nat)(hl:az w ad l)(hm:l.length≤100000)(x:Int):Calls Tryz.prog 99 #[.slice ad l.length cap,.int .i64 x] w fun e w'=>e=.returned (.bool (decide (x∈l)))∧w'=w:=by
 have H1:=hid (BB cap hl hm x);clear hl;go_enter Tryz.func99,Tryz.ntmps99;go_wp2_with fail;refine H1.out.mono ?_;rintro e w1 ⟨⟨r,rfl,hr⟩,hw⟩;obtain rfl:=hw.symm;have HR:=hid hr;clear hr hw;go_wp2;go_ret;refine⟨?_,rfl⟩;have:=HR.out;by_cases hx:x∈l
 ·simp[hx,this.2 hx]
 ·have h2:¬0≤r:=fun h=>hx (this.1 h)
  simp[hx,h2]
theorem push_c{w:World}{ops:Array Oper}{rest:List Oper}{o:Oper}{a:Act}{Q:Exit→Act→World→Prop}(hgd:o.guard=none)(s x:Operand)
  (ho:o.op=.call { callee:=.builtin .append,args:=#[s,x],argTypes:=#[24,24] })
  (base:Nat)(y:Value)(ys:List Int)(z:Int)(hs:a.eval s=y)(hown:w.ownsRow base 3 1 y ys.length (ic ys))
  (B:Nat)(hx:a.eval x=.slice (some ⟨B,0,none⟩) 1 1)(hz:w.cell? ⟨B,0,none⟩=some (.int .i64 z))(hl:ys.length<100000)(hbase:base≤w.heap.size)
  (h:∀g cap w',w'.ownsRow base 3 1 (.slice (some ⟨g,0,none⟩) (ys.length+1) cap) (ys++[z]).length (ic (ys++[z]))→w.grownBy w' y.ownBlock→wpList Tryz.prog ops Q rest (a.put o.dst (.slice (some ⟨g,0,none⟩) (ys.length+1) cap)) w'):wpList Tryz.prog ops Q (o::rest) a w:=by
 obtain⟨i0,hi,hz0,hz1,hz2⟩:=info_parts Tryz.iB;refine aE hgd s x 24 ho base 3 i0 (.int .i64 0) 1 8 Tryz.underlying24 hi hz0 hz1 hz2 rfl (by decide) y ys.length (ic ys) hs hown ⟨B,0,none⟩ 1 1 (by decide) [.int .i64 z] hx rfl ?_ ?_ (by unfold maxLen;omega) (by omega) hbase ?_
 ·intro j u hj
  match j,hj with
  |0,hj=>simp at hj;subst hj;simpa [Addr.add] using hz
 ·intro u hu;simp at hu;subst hu;rfl
 ·intro g cap w' hown' hg _;refine h g cap w' ?_ hg;rw[show ic (ys++[z])=ic ys++[.int .i64 z] by simp[ic],List.length_append];exact hown'
theorem oQ{w:World}{base:Nat}{y:Value}{ys:List Int}(h:w.ownsRow base 3 1 y ys.length (ic ys)):∃yad ycap,y=.slice yad ys.length ycap∧az w yad ys∧∀b off,yad=some ⟨b,off,none⟩→base≤b:=by
 rcases h.2 with⟨e1,e2⟩|⟨g,cap,cur,e1,hb,_⟩
 ·have e3:ys=[]:=List.eq_nil_of_length_eq_zero e2;subst e3;exact⟨none,0,e1,fun i hi=>by simp at hi,fun b off e=>by cases e⟩
 ·subst e1;exact⟨_,_,rfl,gh h,fun b off e=>by simp only[Option.some.injEq,Addr.mk.injEq] at e;omega⟩
section
variable{w w':World}{a k:Nat}{Z:Nat→Prop}{has:List Bool}{ad:Option Addr}{l:List Int}
theorem c_cols(cap:Nat)(h:Cm w a Z k has)(hl:az w ad l)(hm:l.length≤maxLen):Calls Tryz.prog 235 #[.pointer (some ⟨a,0,none⟩),.slice ad l.length cap] w fun e w'=>(∃oad ocap,e=.returned (.slice oad (aR k l).length ocap)∧az w' oad (aR k l))∧Fr (fun _=>False) w w':=by
 have hm':l.length≤9223372036854775807:=hm;have HL:=hid hl;have HH:=hid h;obtain⟨hk,hk2⟩:0<k∧k≤32:=by obtain⟨g,c,m,A,B,h1,h2,h3,h4,_⟩:=h;exact⟨h3,h4⟩
 obtain⟨g,c,HC⟩:∃g c,Hid (∀wr,Fr (fun _=>False) w wr→wr.cell? ⟨a,1,none⟩=some (.slice (some ⟨g,0,none⟩) k c)):=by
  obtain⟨g,c,m,A,B,h1,_⟩:=h;exact⟨g,c,fun wr f=>(h1.kept f).c1⟩
 clear hl hm h;go_enter Tryz.func235,Tryz.ntmps235;go_wp2;go_loopw [5,7,10] (fun y _ i wr=>∃j:Nat,j≤l.length∧i=.int .i64 j∧wr.ownsRow w.heap.size 3 1 y (aR k (l.take j)).length (ic (aR k (l.take j)))∧Fr (fun x=>w.heap.size≤x) w wr) (fun _ _ i _=>l.length - (intOf i).toNat)
 case atStart=>exact⟨0,by omega,rfl,World.ownsRow_nil _ _ _ _,Fr.refl _ _⟩
 case round=>
  obtain⟨j,hj,rfl,ho,hf⟩:=hrel;have HO:=hid ho;have HF:=hid hf;clear ho hf;have c1:=HC.out _ HF.out.new;by_cases hlt:j<l.length
  ·have hst:=jx (k:=k) hlt;have hsh:=iL k l j hj;obtain⟨bb,off,rfl,hb,hc⟩:=HL.out.fr HF.out.new j hlt;have HS:=hid hst;clear hst;generalize aR k (l.take j)=D at *;generalize l[j]=x at *;obtain⟨yad,ycap,rfl,hy,_⟩:=oQ HO.out;have H1:=hid (nT ycap hy (by omega) x);clear hy;by_cases x0:0≤x
   ·by_cases x1:x<k
    ·by_cases x2:x∈D
     ·have e1:Hid (aR k (l.take (j+1))=D):=HS.out.trans (if_neg fun h=>h.2.2 x2);rw[decide_eq_true x2] at H1;go_wp2_with fail;refine H1.out.mono ?_;rintro e w1 ⟨rfl,hw⟩;obtain rfl:=hw.symm;clear hw;go_wp2;go_roundw
      case rel=>exact⟨j+1,by omega,by go_num,by rw[e1.out];exact HO.out,HF.out⟩
      case measure=>simp[intOf];omega
     ·have e1:Hid (aR k (l.take (j+1))=D++[x]):=HS.out.trans (if_pos ⟨x0,x1,x2⟩);rw[decide_eq_false x2] at H1;have hsz:=HF.out.size;go_wp2_with fail;refine H1.out.mono ?_;rintro e w1 ⟨rfl,hw⟩;obtain rfl:=hw.symm;clear hw;go_wp2_with (at_builtin;refine push_c rfl (.tmp 31) (.tmp 33) rfl w.heap.size _ D x rfl (HO.out.alloc _) _ rfl (by simp) (by omega) (by simp;omega) ?_;intro g2 cap2 w2 ho2 hg2;have HO2:=hid ho2;have HF2:=hid ((HF.out.alloc _).grown hg2 (fun q e=>.inl (HO.out.lt q e).1));clear ho2 hg2);go_roundw
      case rel=>exact⟨j+1,by omega,by go_num,by rw[e1.out];simpa using HO2.out,HF2.out⟩
      case measure=>simp[intOf];omega
    ·have e1:Hid (aR k (l.take (j+1))=D):=HS.out.trans (if_neg fun h=>x1 h.2.1);go_wp2;go_roundw
     case rel=>exact⟨j+1,by omega,by go_num,by rw[e1.out];exact HO.out,HF.out⟩
     case measure=>simp[intOf];omega
   ·have e1:Hid (aR k (l.take (j+1))=D):=HS.out.trans (if_neg fun h=>x0 h.1);go_wp2;go_roundw
    case rel=>exact⟨j+1,by omega,by go_num,by rw[e1.out];exact HO.out,HF.out⟩
    case measure=>simp[intOf];omega
  ·obtain rfl:j=l.length:=by omega
   rw[List.take_length] at HO;obtain⟨yad,ycap,rfl,hy,_⟩:=oQ HO.out;have HY:=hid hy;clear hy;go_wp2;go_ret;exact⟨⟨yad,ycap,by simp,HY.out⟩,HF.out.new⟩
end
theorem nH{l:List Bool}: -1≤Sf.lowI l∧Sf.lowI l<l.length∨Sf.lowI l= -1:=by
 unfold Sf.lowI;split
 ·left;omega
 ·right;rfl
theorem qX(k:Nat)(has:List Bool)(D:List Int): -1≤loI k has D∧loI k has D≤has.length:=by unfold loI;split<;>omega
theorem xU{k:Nat}{l:List Int}{j:Nat}(h:j<(aR k l).length):∃c:Nat,(aR k l)[j]=(c:Int)∧c<k∧(c:Int)∉(aR k l).take j∧(aR k l).take (j+1)=(aR k l).take j++[(c:Int)]:=by
 obtain⟨h1,h2,_⟩:=dA k l l.length (Nat.le_refl _);rw[List.take_length] at h1 h2;have hx:=h1 _ (List.getElem_mem h);refine⟨(aR k l)[j].toNat,by omega,by omega,?_,?_⟩
 ·rw[show(((aR k l)[j].toNat:Nat):Int)=(aR k l)[j] by omega];intro hc;obtain⟨i,hi,e⟩:=List.getElem_of_mem hc;rw[List.getElem_take] at e;have hi':i<j:=by simp at hi;omega
  exact List.pairwise_iff_getElem.1 h2 i j (by omega) h hi' e
 ·rw[List.take_add_one,List.getElem?_eq_getElem h,show(((aR k l)[j].toNat:Nat):Int)=(aR k l)[j] by omega];rfl
section
variable{w w':World}{a k:Nat}{Z:Nat→Prop}{has:List Bool}{ad:Option Addr}{l:List Int}
theorem yl(cap:Nat)(h:Cm w a Z k has)(hl:az w ad l)(hm:l.length≤maxLen):Calls Tryz.prog 199 #[.pointer (some ⟨a,0,none⟩),.slice ad l.length cap] w fun e w'=>e=.returned (.int .i64 (loI k has l))∧Fr (fun _=>False) w w':=by
 have H1:=hid (c_cols cap h hl hm);obtain⟨g,c,m,A,B,h1,h2,h3,h4,h5,h6,h7⟩:=h;have HJ:=hid h1;have HL:=hid h2;have hkm:has.length=m * k:=h2;have hsh:=iL k l l.length (Nat.le_refl _);rw[List.take_length] at hsh;have e1:Hid (loI k has l=loI k has (aR k l)):=by show _=_;unfold loI;rw[ry h3]
 clear h1 h2 h6 h7 hl hm;rw[e1.out];clear e1;go_enter Tryz.func199,Tryz.ntmps199;go_wp2_with fail;refine H1.out.mono ?_;rintro e w1 ⟨⟨oad,ocap,rfl,ho⟩,f1⟩;have HO:=hid ho;have HF:=hid f1;have HJ1:=hid (HJ.out.kept f1);clear ho f1 H1 HJ;have c1:=HJ1.out.c1;go_wp2;go_loopw [5,7,8,9,14] (fun y _ _ _ i wr=>∃j:Nat,j≤(aR k l).length∧i=.int .i64 j∧wr=w1∧y=.int .i64 (loI k has ((aR k l).take j))) (fun _ _ _ _ i _=>(aR k l).length - (intOf i).toNat)
 case atStart=>exact⟨0,by omega,rfl,rfl,by rw[List.take_zero,Be]⟩
 case round=>
  obtain⟨j,hj,rfl,hwr,rfl⟩:=hrel;obtain rfl:=hwr.symm;clear hwr;by_cases hlt:j<(aR k l).length
  ·obtain⟨cc,hcc,hck,hcn,hct⟩:=xU hlt;obtain⟨bb,off,rfl,hb,hc⟩:=HO.out j hlt;rw[hcc] at hc;have cg:=HJ1.out.cg hck;have H2:=hid (Sf.jP (HJ1.out.sh cc hck) HJ1.out.tab);have hst:=wX (D:=(aR k l).take j) HL.out hck;rw[←hct] at hst;have HS:=hid hst;clear hst hct hcn hcc;have hb1:=nH (l:=colL k m has cc);rw[br] at hb1;have hb2:=qX k has ((aR k l).take j);obtain⟨P,hP,hP1⟩:∃P:Int,Sf.lowI (colL k m has cc) * (k:Int)=P∧ -32≤P∧P≤4096∧(0≤Sf.lowI (colL k m has cc)→0≤P):=by
    refine⟨_,rfl,?_⟩;rcases hb1 with⟨g1,g2⟩|g1
    ·by_cases g3:Sf.lowI (colL k m has cc)<0
     ·have:Sf.lowI (colL k m has cc)= -1:=by omega
      rw[this];omega
     ·have q1:=Int.mul_nonneg (show 0≤Sf.lowI (colL k m has cc) by omega) (show(0:Int)≤k by omega);have q2:=Int.mul_le_mul_of_nonneg_right (show Sf.lowI (colL k m has cc)≤(m:Int) by omega) (show(0:Int)≤k by omega);have q3:(m:Int) * (k:Int)=((m * k:Nat):Int):=by simp
      rw[q3,←hkm] at q2;omega
    ·rw[g1];omega
   rw[hP] at HS;generalize A cc=x at *;generalize Sf.lowI (colL k m has cc)=X at *;generalize loI k has ((aR k l).take j)=T at *;obtain⟨hP1,hP2,hP3⟩:=hP1;have hX:X<4097:=by
    rcases hb1 with⟨g1,g2⟩|g1
    ·have:(m:Int)≤4096:=by
      have:=Nat.le_mul_of_pos_right m h3;omega
     omega
    ·omega
   have hX2: -1≤X:=by omega
   clear hb1 hkm;have hw1:IntKind.i64.wrap P=P:=by rw[IntKind.wrap_i64];omega
   by_cases t:0≤X∧(T<0∨P+cc<T)
   ·rw[if_pos t] at HS;obtain⟨t0,t1⟩:=t;by_cases t2:T<0
    ·clear t1;go_wp2_with (go_at_call 192;refine H2.out.mono ?_;rintro e w2 ⟨rfl,hw⟩;obtain rfl:=hw.symm;clear hw);go_roundw
     case rel=>exact⟨j+1,by omega,by go_num,trivial,by rw[HS.out]⟩
     case measure=>simp[intOf];omega
    ·have t3:P+cc<T:=by omega
     clear t1;go_wp2_with (go_at_call 192;refine H2.out.mono ?_;rintro e w2 ⟨rfl,hw⟩;obtain rfl:=hw.symm;clear hw);go_roundw
     case rel=>exact⟨j+1,by omega,by go_num,trivial,by rw[HS.out]⟩
     case measure=>simp[intOf];omega
   ·rw[if_neg t] at HS;by_cases t0:0≤X
    ·have t2:¬T<0:=fun h=>t ⟨t0,.inl h⟩
     have t3:¬P+cc<T:=fun h=>t ⟨t0,.inr h⟩
     clear t;go_wp2_with (go_at_call 192;refine H2.out.mono ?_;rintro e w2 ⟨rfl,hw⟩;obtain rfl:=hw.symm;clear hw);go_roundw
     case rel=>exact⟨j+1,by omega,by go_num,trivial,by rw[HS.out]⟩
     case measure=>simp[intOf];omega
    ·clear t;go_wp2_with (go_at_call 192;refine H2.out.mono ?_;rintro e w2 ⟨rfl,hw⟩;obtain rfl:=hw.symm;clear hw);go_roundw
     case rel=>exact⟨j+1,by omega,by go_num,trivial,by rw[HS.out]⟩
     case measure=>simp[intOf];omega
  ·obtain rfl:j=(aR k l).length:=by omega
   rw[List.take_length];go_wp2;go_ret;exact⟨by simp,HF.out⟩
def Off(Z:Nat→Prop)(ad:Option Addr)(l:List Int):Prop:=∀b off,ad=some ⟨b,off,none⟩→0<l.length→¬Z b
theorem c_take(cap:Nat)(h:Cm w a Z k has)(hl:az w ad l)(_ho:Off Z ad l)(hm:l.length≤maxLen):Calls Tryz.prog 143 #[.pointer (some ⟨a,0,none⟩),.slice ad l.length cap] w fun e w'=>e=.returned (.tuple #[.int .i64 (takV k has l),.int .i64 (takE k has l)])∧Cm w' a Z k (takS k has l)∧Fr Z w w':=by
 have H1:=hid (yl cap h hl hm);have HH:=hid h;have HKP:=hid fun(w1:World) (f:Fr (fun _=>False) w w1)=>h.kept f
 clear hl hm;by_cases hp:takP k has l<has.length
 ·have e0:loI k has l=(takP k has l:Int):=if_pos hp;have e1:takV k has l=(takP k has l:Int):=if_pos hp;have e2:takE k has l=0:=if_pos hp;have e3:takS k has l=has.set (takP k has l) true:=rfl;have hfree:has.getD (takP k has l) true=false:=by
   have hx:aW k has l (takP k has l)=true:=by
    rcases bF (aW k has l) has.length with⟨_,h2,_⟩|⟨h2,_⟩
    ·exact h2
    ·unfold takP at hp;omega
   unfold aW at hx;simpa using (Bool.and_eq_true_iff.1 hx).1
  rw[e0] at H1;rw[e1,e2,e3];clear e0 e1 e2 e3;generalize takP k has l=q at *;obtain⟨g,c,m,A,B,h1,h2,h3,h4,h5,h6,h7⟩:=h;have HJ:=hid h1;have H2:=hid fun(w1:World) (f:Fr (fun _=>False) w w1)=>eW (HKP.out w1 f) (HJ.out.kept f) q hp h3 h4 h5
  have hc:=Nat.mod_lt q h3;have H3:=hid fun(w1:World) (f:Fr (fun _=>False) w w1)=>Sf.jO ((HJ.out.kept f).sh (q % k) hc) ((q / k:Nat):Int)
  have e1:Sf.taE (colL k m has (q % k)) ((q / k:Nat):Int)=0:=by
   rw[Sf.oG];exact⟨eQ h3 h2 hp,by rw[uY h3 h2 hp];exact hfree⟩
  have e2:Sf.taS (colL k m has (q % k)) ((q / k:Nat):Int)=(colL k m has (q % k)).set (q / k) true:=by
   unfold Sf.taS;rw[eQ h3 h2 hp,if_pos rfl,Int.toNat_natCast]
  have HP:=hid fun(w1 w':World) (f:Fr (fun _=>False) w w1)=>(HJ.out.kept f).page (Z:=Z) (w':=w') h2 h3 h4 h5 h6 (fun x hx=>by have:=h7 x hx;have:=f.size;omega) hp true
  rw[e1,e2] at H3;generalize (colL k m has (q % k)).set (q / k) true=l' at *;generalize A (q % k)=x at *;generalize q / k=y at *;have hq:q≤4096:=by omega
  clear h1 h6 h7 hp hc h2 h3 h4 h5 e1 e2 HH HKP HJ hfree;go_enter Tryz.func143,Tryz.ntmps143;go_wp2_with fail;refine H1.out.mono ?_;rintro e w1 ⟨rfl,f1⟩;have HF:=hid f1;clear f1 H1;go_wp2_with fail;refine(H2.out w1 HF.out).mono ?_;rintro e w2 ⟨rfl,n2,rfl⟩;have HF2:=hid (HF.out.drewN n2);clear HF;go_wp2_with fail;refine(H3.out _ HF2.out).mono ?_;rintro e w3 ⟨rfl,hs3,f3⟩;have HR:=hid (HP.out _ w3 HF2.out hs3 f3);clear hs3 f3;go_wp2;go_ret2;exact⟨by simp,HR.out.1,Fr.trans (HF2.out.mono fun _ _ e=>e.elim) HR.out.2⟩
 ·have e0:loI k has l= -1:=if_neg hp;have e1:takV k has l=0:=if_neg hp;have e2:takE k has l=13:=if_neg hp;have e3:takS k has l=has:=List.set_eq_of_length_le (by omega);rw[e0] at H1;rw[e1,e2,e3];clear e0 e1 e2 e3 h;go_enter Tryz.func143,Tryz.ntmps143;go_wp2_with fail;refine H1.out.mono ?_;rintro e w1 ⟨rfl,f1⟩;have HF:=hid f1;clear f1 H1;go_wp2;go_ret2;exact⟨by simp,HKP.out _ HF.out,HF.out.mono fun _ _ e=>e.elim⟩
end
def Grown(w w2:World)(base am:Nat)(v:Value)(m j:Nat)(A B:Nat→Nat)(col:Nat→List Bool)(sa sb:Nat)(c:List Bool)(g cap:Nat):Prop:=
 w2.cell? ⟨am,1,none⟩=some v∧w2.frozen? ⟨am,1,none⟩=false∧Cj (w2.setCell ⟨am,1,none⟩ (.slice (some ⟨g,0,none⟩) (j+1) cap)) base am (.slice (some ⟨g,0,none⟩) (j+1) cap) m (j+1) (upd A j sa) (upd B j sb) (upd col j c)∧Fr (fun x=>x=am∨v.ownBlock=some x) w (w2.setCell ⟨am,1,none⟩ (.slice (some ⟨g,0,none⟩) (j+1) cap))∧Fr (fun x=>v.ownBlock=some x) w w2
section
variable{w:World}{o:Oper}{a:Act}{Q:Exit→Act→World→Prop}{base am m j:Nat}{v:Value}{A B:Nat→Nat}{col:Nat→List Bool}{sa sb:Nat}{c:List Bool}
theorem wp_ptr{K:Act→World→Prop}(s x:Operand)
  (ho:o.op=.call { callee:=.builtin .append,args:=#[s,x],argTypes:=#[103,103] })
  (hj:Cj w base am v m j A B col)(hsh:Sf.Sh w sa sb c)(hn:∀x,Blk am v j A B x→x≠sa∧x≠sb)(hl:base≤sa∧base≤sb)(hjl:j<1000)(hs:a.eval s=v)(hx:a.eval x=.slice (some ⟨w.heap.size,0,none⟩) 1 1)
  (h:∀g cap w2,Grown w w2 base am v m j A B col sa sb c g cap→K (a.put o.dst (.slice (some ⟨g,0,none⟩) (j+1) cap)) w2):o.wp Tryz.prog a (w.alloc (.cells #[.pointer (some ⟨sa,0,none⟩)] 106)) K Q:=by
 obtain⟨i0,hi,hz0,hz1,hz2⟩:=wm;have hb:base≤w.heap.size:=by have:=hj.lo.1;have:=hj.lta;omega
 obtain⟨g,cap,w2,hr,h2,h3,h4⟩:=bO (P:=Tryz.prog) (w.alloc (.cells #[.pointer (some ⟨sa,0,none⟩)] 106)) base 103 o.type 106 i0 (.pointer none) 1 8 Tryz.underlying103 hi hz0 hz1 hz2 rfl (by decide) v j (ptrs j A) (hj.row.alloc _) ⟨w.heap.size,0,none⟩ 1 1 (by decide) [.pointer (some ⟨sa,0,none⟩)] rfl (fun q u hu=>by
   match q,hu with
   |0,hu=>simp at hu;subst hu;simp[Addr.add]) (fun u hu=>by simp at hu;subst hu;rfl) (by unfold maxLen;omega) (by omega) (by simp;omega)
 obtain⟨k1,k2⟩:=hj.grow hsh hn hl h3 h2 h4;have f2:Fr (fun x=>v.ownBlock=some x) w w2:=((Fr.refl _ w).alloc _).grown h3 fun x e=>.inl e
 have hst:=(f2.block am hj.lta hj.na).trans hj.st;unfold Oper.wp execOp;simp only[ho,resolve,invoke,builtin,Sem.run_bind,Sem.run_pure,Result.andThen_ok,List.map_toArray,List.map_cons,List.map_nil,hs,hx,hr];exact h g cap w2 ⟨by simp[World.cell?,hst],by simp[World.frozen?,hst],k1,k2,f2⟩
theorem qq{ops:Array Oper}{rest:List Oper}(hgd:o.guard=none)(s x:Operand)
  (ho:o.op=.call { callee:=.builtin .append,args:=#[s,x],argTypes:=#[103,103] })
  (hj:Cj w base am v m j A B col)(hsh:Sf.Sh w sa sb c)(hn:∀x,Blk am v j A B x→x≠sa∧x≠sb)(hl:base≤sa∧base≤sb)(hjl:j<1000)(hs:a.eval s=v)(hx:a.eval x=.slice (some ⟨w.heap.size,0,none⟩) 1 1)
  (h:∀g cap w2,Grown w w2 base am v m j A B col sa sb c g cap→wpList Tryz.prog ops Q rest (a.put o.dst (.slice (some ⟨g,0,none⟩) (j+1) cap)) w2):wpList Tryz.prog ops Q (o::rest) a (w.alloc (.cells #[.pointer (some ⟨sa,0,none⟩)] 106)):=
 wpList_plain hgd fun _ hK=>wp_ptr s x ho hj hsh hn hl hjl hs hx fun g cap w2 h2=>hK _ _ (h g cap w2 h2)
end
theorem yi{n k:Int}(h:¬Cfg n k)(w:World):Calls Tryz.prog 23 #[.agg #[.int .i64 n,.int .i64 k]] w fun e w'=>e=.returned (.tuple #[.pointer none,.int .i64 12])∧Fr (fun _=>False) w w':=by
 have H1:=hid fun w=>vg n k w
 rw[if_neg h] at H1;have A:=Cf.new w n k;have c0:=A.c0;have c1:=A.c1;clear A h;go_enter Tryz.func23,Tryz.ntmps23;go_wp2_with fail;refine(H1.out _).mono ?_;rintro e w1 ⟨rfl,f1⟩;have HF:=hid (((Fr.refl (fun _=>False) w).alloc _).trans f1);clear f1;go_wp2;go_ret2;exact⟨by simp,HF.out⟩
theorem Cj.none{w w1:World}(f:Fr (fun _=>False) w w1)(g:Sf.Tab w)(m:Nat)(A B:Nat→Nat)(col:Nat→List Bool):Cj (w1.alloc (.cells #[.int .i64 (m:Int),.slice none 0 0] 105)) w.heap.size w1.heap.size (.slice none 0 0) m 0 A B col:=
 ⟨heap_alloc_new _ _,World.ownsRow_nil _ _ _ _,fun i hi=>by omega,fun i hi=>by omega,by simp[Value.ownBlock],⟨f.size,fun i hi=>by omega⟩,g.pos,g.carry (f.alloc _) id⟩
theorem yj{n k:Nat}(h:Cfg n k)(w:World)(g:Gr w):Calls Tryz.prog 23 #[.agg #[.int .i64 (n:Int),.int .i64 (k:Int)]] w fun e w'=>∃a Z,e=.returned (.tuple #[.pointer (some ⟨a,0,none⟩),.int .i64 0])∧(∀i,Z i→w.heap.size≤i)∧Cm w' a Z k (List.replicate n false)∧Fr (fun _=>False) w w':=by
 have H1:=hid fun w=>vg n k w
 rw[if_pos h] at H1;unfold Cfg at h;obtain⟨m,hm⟩:∃m:Nat,n=m * k:=⟨n / k,(Nat.div_mul_cancel (Nat.dvd_of_mod_eq_zero (by omega))).symm⟩;have hk0:0<k:=by omega
 have hmk:n / k=m:=by rw[hm];exact Nat.mul_div_cancel _ hk0
 have hml:m≤4096:=by have:=Nat.le_mul_of_pos_right m hk0;omega
 have hdiv:Int.tdiv (n:Int) (k:Int)=(m:Int):=by rw[Int.tdiv_eq_ediv_of_nonneg (by omega),←hmk];simp
 have hz:((k:Int)==0)=false:=by simp;omega
 have hw0:IntKind.i64.wrap (m:Int)=(m:Int):=by rw[IntKind.wrap_i64];omega
 have HM:=hid hm;have hk2:k≤32:=by omega
 have HN:Hid (n≤4096):=by show _≤_;omega
 have HG:=hid g;have HA:=hid (Cf.new w n k);have c0:=HA.out.c0;have c1:=HA.out.c1;clear h hm hmk g;go_enter Tryz.func23,Tryz.ntmps23;go_wp2_with fail;refine(H1.out _).mono ?_;rintro e w1 ⟨rfl,f1⟩;have HF:=hid (((Fr.refl (fun _=>False) w).alloc _).trans f1);have A1:=HA.out.kept f1;clear f1 c0 c1 H1;have c0:=A1.c0;have c1:=A1.c1;have c2:=(A1.alloc (.cells #[.int .i64 (m:Int),.slice none 0 0] 105)).c1;clear A1 HA;go_wp2;clear hdiv hz hw0 c0 c1 c2;have HJ:=hid (Cj.none HF.out HG.out m (fun _=>0) (fun _=>0) (fun _=>List.replicate m false));have HW:Hid (Fr (fun x=>w.heap.size≤x) w (w1.alloc (.cells #[.int .i64 (m:Int),.slice none 0 0] 105))):=(HF.out.mono fun _ _ e=>e.elim).alloc _;generalize w1.heap.size=a at *;go_loopw [6,7,22] (fun _ _ i wr=>∃(j:Nat) (v:Value) (A B:Nat→Nat) (col:Nat→List Bool),j≤k∧i=.int .i64 j∧Cj wr w.heap.size a v m j A B col∧(∀q,q<j→col q=List.replicate m false)∧Fr (fun x=>w.heap.size≤x) w wr) (fun _ _ i _=>k - (intOf i).toNat)
 case atStart=>exact⟨0,_,_,_,_,by omega,rfl,HJ.out,fun q hq=>by omega,HW.out⟩
 case round=>
  obtain⟨j,v,A,B,col,hj,rfl,hjj,hcol,hf⟩:=hrel;have HJ2:=hid hjj;have HC:=hid hcol;have HF2:=hid hf;clear hjj hcol hf HJ HW HF;by_cases hlt:j<k
  ·have c0:=HJ2.out.c0;have HN2:=hid fun wr (t:Sf.Tab wr)=>Sf.im m wr (by omega) t.pos
   go_wp2_with fail;refine(HN2.out _ HJ2.out.tab).mono ?_;rintro e w2 ⟨rfl,hs2,f2⟩;have hsz:=HF2.out.size;have hsz2:=f2.size;have HK:=hid (HJ2.out.kept f2);have HS:=hid hs2;have HF3:=hid (HF2.out.trans (f2.mono fun _ _ e=>e.elim));have HNW:Hid (∀x,Blk a v j A B x→x≠wr.heap.size+1∧x≠wr.heap.size):=fun x hx=>by
    have:=(HJ2.out.low hx).2;exact⟨by omega,by omega⟩
   clear hs2 f2 c0;have c1:=HK.out.c1;go_wp2_with (at_builtin;refine qq rfl (.tmp 39) (.tmp 41) rfl HK.out HS.out HNW.out ⟨by omega,by omega⟩ (by omega) rfl rfl ?_;intro g3 cap3 w3 hgr;have c13:=hgr.1;have f13:=hgr.2.1;have HR:=hid hgr.2.2;clear hgr);go_roundw
   case rel=>exact⟨j+1,_,_,_,_,by omega,by go_num,HR.out.1,fun q hq=>by
    by_cases e:q=j
    ·subst e;exact bd _ _ _
    ·rw[bJ _ _ (by omega)];exact HC.out q (by omega),Fr.trans' HF3.out HR.out.2.1 (fun x _ e=>by
     rcases e with rfl|e
     ·exact HK.out.lo.1
     ·exact(HK.out.row.lt x e).1)⟩
   case measure=>simp[intOf];omega
  ·obtain rfl:j=k:=by omega
   obtain⟨g,cap,rfl⟩:∃g cap,v=.slice (some ⟨g,0,none⟩) j cap:=by
    rcases HJ2.out.row.2 with⟨h0,h2⟩|⟨g,cap,_,h2,_⟩
    ·omega
    ·exact⟨g,cap,h2⟩
   have HM2:=hid (Cm.made (has:=List.replicate n false) HJ2.out (fun i hi=>by rw[HC.out i hi,HM.out,xW j m i hi]) (by simpa using HM.out) hk0 hk2 (by simpa using HN.out));go_wp2;go_ret2;obtain⟨Z,hZ,hM⟩:=HM2.out;exact⟨a,Z,by simp,hZ,hM,HF2.out.new⟩
end Go.Proofs.YtndhbnhobhkmaaaGreatDoor.Cq
namespace Go.Proofs.YtndhbnhobhkmaaaGreatDoor
open Go.RowKit
def lk:List Int→Int→Option Int
 |[],_=>none
 |a::r,x=>if x=a then some (liF r) else lk r x
def liL(L:List Int):Int:=L.getLast?.getD (-1)
section
variable{L pre post:List Int}{k x:Int}
theorem fD(L:List Int)(x:Int):(lk L x).isSome=decide (x∈L):=by
 induction L with
 |nil=>rfl
 |cons a r ih=>
  unfold lk;by_cases h:x=a
  ·simp[h]
  ·rw[if_neg h,ih];simp[h]
theorem tO(h:x∉L):lk L x=none:=by
 have:=fD L x;rw[decide_eq_false h] at this;exact Option.isNone_iff_eq_none.1 (by rw[←Option.not_isSome,this];rfl)
theorem lk_app(pre post:List Int)(x:Int)(h:x∉pre):lk (pre++post) x=lk post x:=by
 induction pre with
 |nil=>rfl
 |cons a r ih=>
  simp only[List.mem_cons,not_or] at h;rw[List.cons_append,lk,if_neg h.1,ih h.2]
theorem lk_at(h:x∉pre):lk (pre++x::post) x=some (liF post):=by rw[lk_app _ _ _ h,lk,if_pos rfl]
theorem nK(h:pre≠[])(post:List Int):liF (pre++post)=liF pre:=by
 cases pre with
 |nil=>exact(h rfl).elim
 |cons a r=>rfl
theorem pK(L:List Int)(k:Int):liL (L++[k])=k:=by simp[liL]
theorem nJ(pre:List Int)(h:post≠[]):liL (pre++post)=liL post:=by
 unfold liL;rw[List.getLast?_append];cases e:post.getLast? with
 |none=>exact(h (List.getLast?_eq_none_iff.1 e)).elim
 |some y=>rfl
theorem kp(a b:Int)(r:List Int):liL (a::b::r)=liL (b::r):=nJ [a] (by simp)
theorem dO(h:L≠[]):liL L∈L:=by
 unfold liL;rw[List.getLast?_eq_some_getLast h,Option.getD_some];exact List.getLast_mem h
theorem Bf(nd:L.Nodup)(hn:L≠[])(hk:k∉L)(z:Int):lk (L++[k]) z=if z=k then some (-1) else if z=liL L then some k else lk L z:=by
 induction L with
 |nil=>exact(hn rfl).elim
 |cons a r ih=>
  simp only[List.mem_cons,not_or] at hk;rw[List.nodup_cons] at nd;rw[List.cons_append,lk];cases r with
  |nil=>
   by_cases h1:z=a
   ·subst h1;rw[if_pos rfl,if_neg (fun e=>hk.1 e.symm),if_pos (by rfl)];rfl
   ·rw[if_neg h1];by_cases h2:z=k
    ·subst h2;rw[if_pos rfl];show lk [z] z=_;rw[lk,if_pos rfl];rfl
    ·rw[if_neg h2,if_neg (by exact h1)];show lk [k] z=_;rw[lk,if_neg h2];show none=lk [a] z;exact(tO (by simpa using h1)).symm
  |cons b r=>
   have ih:=ih nd.2 (by simp) hk.2;rw[kp];by_cases h1:z=a
   ·subst h1;have h3:z≠liL (b::r):=fun e=>nd.1 (e▸dO (by simp))
    rw[if_pos rfl,if_neg (fun e=>hk.1 e.symm),if_neg h3,lk,if_pos rfl];rfl
   ·rw[if_neg h1,ih,lk.eq_def (a::b::r)];dsimp only;rw[if_neg h1]
theorem lk_one(k z:Int):lk [k] z=if z=k then some (-1) else none:=rfl
theorem tQ(nd:(pre++k::post).Nodup):liR (pre++k::post) k=pre++post:=by
 rw[List.nodup_append] at nd;have h1:k∉pre:=fun e=>nd.2.2 k e k (by simp) rfl
 have h2:=nd.2.1;have e:liR (pre++k::post) k=liR pre k++liR (k::post) k:=by unfold liR;rw[List.filter_append]
 rw[e,pJ h1,wZ h2]
theorem tP(nd:(pre++k::post).Nodup)(z:Int):lk (pre++post) z=if pre≠[]∧z=liL pre then some (liF post) else if z=k then none else lk (pre++k::post) z:=by
 induction pre with
 |nil=>
  have hk:k∉post:=(List.nodup_cons.1 nd).1;rw[if_neg (fun e=>e.1 rfl)];by_cases h:z=k
  ·subst h;rw[if_pos rfl];exact tO hk
  ·rw[if_neg h];show lk post z=lk (k::post) z;rw[lk.eq_def (k::post)];dsimp only;rw[if_neg h]
 |cons a r ih=>
  rw[List.cons_append,List.nodup_cons] at nd;have ih:=ih nd.2;have ha:a∉r:=fun e=>nd.1 (by simp[e])
  have hak:a≠k:=fun e=>nd.1 (by simp[e])
  rw[List.cons_append,lk,List.cons_append,lk];cases r with
  |nil=>
   by_cases h:z=a
   ·subst h;rw[if_pos rfl,if_pos ⟨by simp,rfl⟩];rfl
   ·rw[if_neg h,if_neg (fun e=>h e.2),if_neg h,ih,if_neg (fun e=>e.1 rfl)]
  |cons b r=>
   by_cases h:z=a
   ·subst h;have h3:z≠liL (b::r):=fun e=>ha (e▸dO (by simp))
    rw[if_pos rfl,kp,if_neg (fun e=>h3 e.2),if_neg hak,if_pos rfl];rfl
   ·rw[if_neg h,ih,kp,if_neg h];by_cases h4:z=liL (b::r)
    ·rw[if_pos ⟨by simp,h4⟩,if_pos ⟨by simp,h4⟩]
    ·rw[if_neg (fun e:b::r≠[]∧z=liL (b::r)=>h4 e.2),if_neg (fun e:a::b::r≠[]∧z=liL (b::r)=>h4 e.2)]
theorem LiOk.last(h:LiOk L):I64 (liL L):=by
 cases L with
 |nil=>exact⟨by decide,by decide⟩
 |cons a r=>have:=h.at_ _ (dO (L:=a::r) (by simp));exact⟨by omega,this.2⟩
theorem LiOk.left(h:LiOk (pre++post)):LiOk pre:=⟨(List.nodup_append.1 h.nd).1,fun x hx=>h.at_ x (List.mem_append_left _ hx)⟩
theorem LiOk.right(h:LiOk (pre++post)):LiOk post:=⟨(List.nodup_append.1 h.nd).2.1,fun x hx=>h.at_ x (List.mem_append_right _ hx)⟩
theorem LiOk.rm(h:LiOk L):liF L= -1↔L=[]:=by
 cases L with
 |nil=>simp[liF]
 |cons a r=>
  have:=h.at_ a (by simp);constructor
  ·intro e;have e:a= -1:=e;omega
  ·intro e;cases e
theorem LiOk.tU(h:LiOk L):liL L= -1↔L=[]:=by
 by_cases e:L=[]
 ·subst e;simp[liL]
 ·have:=h.at_ _ (dO e);constructor
  ·intro e;omega
  ·intro e2;exact(e e2).elim
end
def Lw(w:World)(p:Nat)(m:Option Nat)(fi la:Int):Prop:=w.heap[p]? =some (.cells #[.map m,.int .i64 fi,.int .i64 la] 233 (0,0))
section
variable{w w':World}{p:Nat}{m:Option Nat}{fi la:Int}
theorem Lw.lt(h:Lw w p m fi la):p<w.heap.size:=(Array.getElem?_eq_some_iff.1 h).1
theorem Lw.carry{S:Nat→Prop}(h:Lw w p m fi la)(f:Fr S w w')(hn:¬S p):Lw w' p m fi la:=(f.block p h.lt hn).trans h
theorem Lw.c0(h:Lw w p m fi la):w.cell? ⟨p,0,none⟩=some (.map m):=by unfold Lw at h;simp[World.cell?,h]
theorem Lw.c1(h:Lw w p m fi la):w.cell? ⟨p,1,none⟩=some (.int .i64 fi):=by unfold Lw at h;simp[World.cell?,h]
theorem Lw.c2(h:Lw w p m fi la):w.cell? ⟨p,2,none⟩=some (.int .i64 la):=by unfold Lw at h;simp[World.cell?,h]
theorem Lw.fz(h:Lw w p m fi la)(j:Nat):w.frozen? ⟨p,j,none⟩=false:=by unfold Lw at h;simp[World.frozen?,h]
theorem Lw.set0(h:Lw w p m fi la)(x:Option Nat):Lw (w.setCell ⟨p,0,none⟩ (.map x)) p x fi la:=by unfold Lw at h ⊢;simp[World.setCell,Array.getElem?_modify,h]
theorem Lw.set1(h:Lw w p m fi la)(x:Int):Lw (w.setCell ⟨p,1,none⟩ (.int .i64 x)) p m x la:=by unfold Lw at h ⊢;simp[World.setCell,Array.getElem?_modify,h]
theorem Lw.set2(h:Lw w p m fi la)(x:Int):Lw (w.setCell ⟨p,2,none⟩ (.int .i64 x)) p m fi x:=by unfold Lw at h ⊢;simp[World.setCell,Array.getElem?_modify,h]
end
def Ol(w:World)(m:Option Nat)(L:List Int):Prop:=(m=none∧L=[])∨∃B,m=some B∧Oi w B L.length (lk L) L.length
section
variable{w w':World}{p:Nat}{m:Option Nat}{fi la:Int}{L:List Int}{Z:Nat→Prop}
theorem Ol.carry{S:Nat→Prop}(h:Ol w m L)(f:Fr S w w')(hn:∀B,m=some B→¬S B):Ol w' m L:=by
 rcases h with h|⟨B,e,h⟩
 ·exact .inl h
 ·exact .inr ⟨B,e,h.carry f (hn B e)⟩
theorem Ol.len(h:Ol w m L)(ty:TypeId):(Builtin.len_ #[197] ty #[.map m]).run Tryz.prog w=.ok (.int .i64 L.length) w:=by
 rcases h with⟨rfl,rfl⟩|⟨B,rfl,h⟩
 ·exact Maps.len_nil Tryz.underlying197 ty
 ·exact h.len ty
theorem Ol.fM(h:Ol w m L){x:Int}(hx:I64 x):(Instr.lookup 197 (.map m) (.int .i64 x) true).run Tryz.prog w=.ok (.tuple #[.int .i64 ((lk L x).getD 0),.bool (decide (x∈L))]) w:=by
 have hw:(Lit.int .i64 x).wf=true:=aB hx.1 hx.2;rcases h with⟨rfl,rfl⟩|⟨B,rfl,h⟩
 ·exact Maps.look_nil true bg Tryz.underlying197 (dV w) (bG hw)
 ·rw[h.fM hw,fD]
theorem Ol.look(h:Ol w m L){x:Int}(hx:I64 x):(Instr.lookup 197 (.map m) (.int .i64 x) false).run Tryz.prog w=.ok (.int .i64 ((lk L x).getD 0)) w:=by
 have hw:(Lit.int .i64 x).wf=true:=aB hx.1 hx.2;rcases h with⟨rfl,rfl⟩|⟨B,rfl,h⟩
 ·exact Maps.look_nil false bg Tryz.underlying197 (dV w) (bG hw)
 ·exact h.look hw
end
structure Ln(p:Nat)(L:List Int)(w:World)(Z:Nat→Prop)(m:Option Nat)(fi la:Int):Prop where
 c:Lw w p m fi la
 o:Ol w m L
 ends:L≠[]→fi=liF L∧la=liL L
 zp:Z p
 zm:∀B,m=some B→Z B∧B≠p
 lt:∀i,Z i→i<w.heap.size
def Lm(p:Nat)(L:List Int)(w:World)(Z:Nat→Prop):Prop:=∃m fi la,Ln p L w Z m fi la
theorem Lm.good(p:Nat)(L:List Int):Good (Lm p L):=
 ⟨fun h f hs=>by
  obtain⟨m,fi,la,h⟩:=h;exact⟨m,fi,la,h.c.carry f (hs _ h.zp),h.o.carry f fun B e=>hs _ (h.zm B e).1,h.ends,h.zp,h.zm,fun i hi=>Nat.lt_of_lt_of_le (h.lt i hi) f.size⟩,
 fun h k1 k2=>by
  obtain⟨m,fi,la,h⟩:=h;exact⟨m,fi,la,h.c,h.o,h.ends,k1 _ h.zp,fun B e=>⟨k1 _ (h.zm B e).1,(h.zm B e).2⟩,k2⟩⟩
theorem bz{P:Program}{Q:Exit→Act→World→Prop}{a:Act}{w:World}{c rest:Code}(l:Nat)(J:Act→World→Prop)(μ:Act→World→Nat)(hf:findLabel c l=some (Code.skip.seq rest))
  (pre:∀R:Exit→Act→World→Prop,(∀a w,J a w→rest.wp P R a w)→c.wp P R a w)
  (pass:∀a w,J a w→rest.wp P (Exit.jump l (fun a' w'=>J a' w'∧μ a' w'<μ a w) Q) a w):(Code.scope c).wp P Q a w:=
 wp_scope_jumps l J μ hf (pre _ fun a w h=>Code.wp_mono (fun e a w he=>by
  cases e with
  |goto l'=>exact⟨he.1,he.2.1⟩
  |_=>exact he) (pass a w h)) fun a w h=>wp_seq (wp_skip (pass a w h))
def intV:Value→Nat
 |.int _ x=>x.toNat
 |_=>0
section
variable{w:World}{p:Nat}{Z:Nat→Prop}{L:List Int}{m:Option Nat}{fi la:Int}
theorem AW(c:Lw w p m fi la)(o:Ol w m L):Calls Tryz.prog 221 #[.pointer (some ⟨p,0,none⟩)] w fun e w'=>e=.returned (.int .i64 L.length)∧w'=w:=by
 have c0:=c.c0;have hl:=fun ty=>o.len ty
 clear c o;go_enter Tryz.func221,Tryz.ntmps221;go_wp2;go_ret;exact⟨by simp,rfl⟩
theorem m_has(c:Lw w p m fi la)(o:Ol w m L){k:Int}(hk:I64 k):Calls Tryz.prog 228 #[.pointer (some ⟨p,0,none⟩),.int .i64 k] w fun e w'=>e=.returned (.bool (decide (k∈L)))∧w'=w:=by
 have c0:=c.c0;have hl:=o.fM hk;clear c o;generalize decide (k∈L)=b at *;generalize (lk L k).getD 0=y at *;go_enter Tryz.func228,Tryz.ntmps228;go_wp2;go_ret;exact⟨by simp,rfl⟩
theorem AX(c:Lw w p m fi la)(o:Ol w m L)(he:L≠[]→fi=liF L):Calls Tryz.prog 175 #[.pointer (some ⟨p,0,none⟩)] w fun e w'=>e=.returned (.int .i64 (liF L))∧w'=w:=by
 have H1:=hid (AW c o);have c1:=c.c1;clear c o;cases L with
 |nil=>
  go_enter Tryz.func175,Tryz.ntmps175;go_wp2_with fail;refine H1.out.mono ?_;rintro e w1 ⟨rfl,hw⟩;obtain rfl:=hw.symm;go_wp2;go_ret;exact⟨by simp[liF],rfl⟩
 |cons x r=>
  obtain rfl:x=fi:=((he (by simp)).symm:liF (x::r)=fi);have hn:((x::r).length:Int)≠0:=by simp;omega
  clear he;generalize (x::r).length=N at *;go_enter Tryz.func175,Tryz.ntmps175;go_wp2_with fail;refine H1.out.mono ?_;rintro e w1 ⟨rfl,hw⟩;obtain rfl:=hw.symm;go_wp2;go_ret;exact⟨by simp[liF],rfl⟩
theorem AY(c:Lw w p m fi la)(o:Ol w m L)(ok:LiOk L)(hl:L.length≤5000)(he:L≠[]→fi=liF L){k:Int}(hk:k∈L):Calls Tryz.prog 229 #[.pointer (some ⟨p,0,none⟩),.int .i64 k] w fun e w'=>(∃pre post,L=pre++k::post∧e=.returned (.int .i64 (liL pre)))∧Fr (fun _=>False) w w':=by
 have H1:Hid (∀w0,Fr (fun _=>False) w w0→Calls Tryz.prog 221 #[.pointer (some ⟨p,0,none⟩)] w0 fun e w'=>e=.returned (.int .i64 L.length)∧w'=w0):=fun w0 f=>AW (c.carry f id) (o.carry f fun _ _=>id)
 have HC:Hid (∀w0,Fr (fun _=>False) w w0→w0.cell? ⟨p,0,none⟩=some (.map m)):=fun w0 f=>(c.carry f id).c0
 have HL:Hid (∀w0,Fr (fun _=>False) w w0→∀x,I64 x→(Instr.lookup 197 (.map m) (.int .i64 x) false).run Tryz.prog w0=.ok (.int .i64 ((lk L x).getD 0)) w0):=fun w0 f x hx=>(o.carry f fun _ _=>id).look hx
 have HOK:=hid ok;obtain rfl:fi=liF L:=he (fun e=>by subst e;simp at hk);have c1:=c.c1;have H0:Hid (L=[]++L∧k∈L):=⟨rfl,hk⟩;clear c o ok he hk;go_enter Tryz.func229,Tryz.ntmps229;go_wp2;refine bz 0 (fun a' w'=>∃(pre rest:List Int) (n:Nat) (b x:Int) (u8 u9 u10 u11 u12 u13 u14 u15 u16 u17 u18 u19 u20 u21 u22 u23 u24 u25 u26 u27 u28 u29 u30:Value),Hid (L=pre++rest∧k∈rest∧b=liL pre∧x=liF rest∧n=rest.length∧Fr (fun _=>False) w w')∧a'={ tmps:=#[.pointer (some ⟨p,0,none⟩),.int .i64 k,undef,undef,.int .i64 0,.int .i64 b,.int .i64 x,.int .i64 n,u8,u9,u10,u11,u12,u13,u14,u15,u16,u17,u18,u19,u20,u21,u22,u23,u24,u25,u26,u27,u28,u29,u30],defers:=[] }) (fun a' _=>intV (a'.tmps.getD 7 undef)) rfl ?pre ?pass
 case pre=>
  intro R hK;go_wp2_with fail;go_region_held3 (fun w'=>w'.cell? ⟨p,1,none⟩=some (.int .i64 (liF L))) (first|go_keep|assumption) (first|(go_at_call 221;refine(H1.out _ (Fr.refl _ _).drew).mono ?_;rintro e w1 ⟨rfl,rfl⟩));go_wp2;go_step3;rename_i K hKK;exact hKK _ _ (hK _ _ ⟨[],L,L.length,_,_,_,_,_,_,_,_,_,_,_,_,_,_,_,_,_,_,_,_,_,_,_,_,_,⟨rfl,H0.out.2,rfl,rfl,rfl,(Fr.refl _ _).drew⟩,rfl⟩)
 case pass=>
  rintro a' wr ⟨pre,rest,n,b,x,u8,u9,u10,u11,u12,u13,u14,u15,u16,u17,u18,u19,u20,u21,u22,u23,u24,u25,u26,u27,u28,u29,u30,HI,rfl⟩;clear c1 H0 H1;obtain⟨rfl,hk,hb,hx,hn,hf⟩:=HI.out;cases rest with
  |nil=>simp at hk
  |cons y r=>
   obtain rfl:x=y:=hx;have HF:=hid hf;have hnl:n≤5000:=by subst hn;simp at hl ⊢;omega
   have hn0:(n:Int)≠0:=by subst hn;simp;omega
   by_cases e:x=k
   ·subst e;have HB:=hid hb;clear hb HI hn hk hf hl HL HC HOK;go_wp2;rw[ao];go_ret;exact⟨⟨pre,r,rfl,by rw[←HB.out];simp⟩,HF.out⟩
   ·have hxk:(x==k)=false:=by simp[e]
    have hxp:x∉pre:=fun h=>(List.nodup_append.1 HOK.out.nd).2.2 x h x (by simp) rfl
    have hl0:=HL.out wr.drew HF.out.drew x (by have:=HOK.out.at_ x (by simp);exact⟨by omega,this.2⟩);rw[lk_at hxp,Option.getD_some] at hl0;have hc0:=HC.out wr.drew HF.out.drew;have hkr:k∈r:=by rcases List.mem_cons.1 hk with h|h;exact(e h.symm).elim;exact h
    have HN:Hid ((∃(pre' rest':List Int) (n':Nat),pre++x::r=pre'++rest'∧k∈rest'∧x=liL pre'∧liF r=liF rest'∧n'=rest'.length∧IntKind.i64.wrap ((n:Int) - 1)=n'∧n'<n)):=⟨pre++[x],r,r.length,by simp,hkr,(pK _ _).symm,rfl,rfl,by rw[IntKind.wrap_i64];subst hn;simp at hl ⊢;omega,by subst hn;simp⟩;clear hb HI hn hk hf hl HL HC HOK hkr hxp e;generalize liF r=z at *;obtain⟨pre',rest',n',e1,e2,e3,e4,e5,hw,hlt⟩:=HN.out;have HE:=hid (And.intro e1 (And.intro e2 (And.intro e3 (And.intro e4 e5))));clear e1 e2 e3 e4 e5 HN;go_wp2_with fail;go_region_held3 (fun w'=>w'.cell? ⟨p,0,none⟩=some (.map m)∧(Instr.lookup 197 (.map m) (.int .i64 x) false).run Tryz.prog w'=.ok (.int .i64 z) w') (first|go_keep|exact⟨by assumption,by assumption⟩) (fail);go_wp2;go_step3;exact⟨rfl,⟨pre',rest',n',_,_,_,_,_,_,_,_,_,_,_,_,_,_,_,_,_,_,_,_,_,_,_,_,_,⟨HE.out.1,HE.out.2.1,HE.out.2.2.1,HE.out.2.2.2.1,HE.out.2.2.2.2,HF.out.drew⟩,rfl⟩,by simp[intV];omega⟩
end
end Go.Proofs.YtndhbnhobhkmaaaGreatDoor
