/-
  begin, New, Drop.
-/
import Derived.Test.YtndhbnhobhkmaaaGreatDoorHpTopD
set_option maxRecDepth 20000
set_option maxHeartbeats 4000000
namespace Go.Proofs.YtndhbnhobhkmaaaGreatDoor
open Go.RowKit
open An
def gcl(v0 v1 v2 v3:Value)(S N:Nat→Value)(pm:Value):List Value:=[v0,v1,v2,v3]++((List.range 24).map S++((List.range 8).map N++[pm]))
def gob(v0 v1 v2 v3:Value)(S N:Nat→Value)(pm:Value):Obj:=.cells (gcl v0 v1 v2 v3 S N pm).toArray 145 (0,0)
def pv(A:Nat→Nat):Nat→Value:=fun c=>.pointer (some ⟨A c,0,none⟩)
theorem pE{α:Type}(S:Nat→α)(n c:Nat)(v:α):((List.range n).map S).set c v=(List.range n).map (fset S c v):=by
 apply List.ext_getElem (by simp);intro i h1 h2;simp only[List.getElem_set,List.getElem_map,List.getElem_range];unfold fset;by_cases e:c=i
 ·subst e;simp
 ·rw[if_neg e,if_neg fun k=>e k.symm]
section
variable{v0 v1 v2 v3 pm:Value}{S N:Nat→Value}{w:World}{b:Nat}
theorem gcl_s{c:Nat}(hc:c<24)(v:Value):(gcl v0 v1 v2 v3 S N pm).toArray.setIfInBounds (4+c) v=(gcl v0 v1 v2 v3 (fset S c v) N pm).toArray:=by
 unfold gcl;rw[List.setIfInBounds_toArray,List.set_append_right _ _ (by simp)];simp only[List.length_cons,List.length_nil,Nat.zero_add,Nat.reduceAdd,Nat.add_sub_cancel_left];rw[List.set_append_left _ _ (by simp;omega),pE]
theorem gcl_l{c:Nat}(hc:c<8)(v:Value):(gcl v0 v1 v2 v3 S N pm).toArray.setIfInBounds (28+c) v=(gcl v0 v1 v2 v3 S (fset N c v) pm).toArray:=by
 unfold gcl;rw[List.setIfInBounds_toArray,List.set_append_right _ _ (by simp;omega)];simp only[List.length_cons,List.length_nil,Nat.zero_add,Nat.reduceAdd];rw[List.set_append_right _ _ (by simp;omega),List.set_append_left _ _ (by simp;omega),pE];simp only[List.length_map,List.length_range,show 28+c - 4 - 24=c by omega]
theorem gcl_p(v:Value):(gcl v0 v1 v2 v3 S N pm).toArray.setIfInBounds 36 v=(gcl v0 v1 v2 v3 S N v).toArray:=by
 unfold gcl;rw[List.setIfInBounds_toArray,List.set_append_right _ _ (by simp)];simp only[List.length_cons,List.length_nil,Nat.zero_add,Nat.reduceAdd,Nat.reduceSub];rw[List.set_append_right _ _ (by simp),List.set_append_right _ _ (by simp)];simp
theorem BR(h:w.heap[b]? =some (gob v0 v1 v2 v3 S N pm))(j:Nat):w.frozen? ⟨b,j,none⟩=false:=by unfold gob at h;simp[World.frozen?,h]
theorem kA(h:w.heap[b]? =some (gob v0 v1 v2 v3 S N pm))(j:Nat):w.cell? ⟨b,j,none⟩=(gcl v0 v1 v2 v3 S N pm)[j]? :=by unfold gob at h;simp[World.cell?,h]
theorem gob_s(h:w.heap[b]? =some (gob v0 v1 v2 v3 S N pm)){c:Nat}(hc:c<24):w.cell? ⟨b,4+c,none⟩=some (S c):=by
 rw[kA h];unfold gcl;rw[List.getElem?_append_right (by simp)];simp only[List.length_cons,List.length_nil,Nat.zero_add,Nat.reduceAdd,Nat.add_sub_cancel_left];rw[List.getElem?_append_left (by simp;omega)];simp[hc]
theorem gob_l(h:w.heap[b]? =some (gob v0 v1 v2 v3 S N pm)){c:Nat}(hc:c<8):w.cell? ⟨b,28+c,none⟩=some (N c):=by
 rw[kA h];unfold gcl;rw[List.getElem?_append_right (by simp;omega)];simp only[List.length_cons,List.length_nil,Nat.zero_add,Nat.reduceAdd];rw[List.getElem?_append_right (by simp;omega),List.getElem?_append_left (by simp;omega)];simp[hc,show 28+c - 4 - 24=c by omega]
theorem gob_p(h:w.heap[b]? =some (gob v0 v1 v2 v3 S N pm)):w.cell? ⟨b,36,none⟩=some pm:=by rw[kA h];rfl
end
theorem uz(x:Px)(wl:Nat):hob x wl=gob (.pointer (some ⟨x.a,0,none⟩)) (.pointer (some ⟨x.m,0,none⟩)) (.slice x.ad wl x.cap) (.pointer (some ⟨x.t,0,none⟩)) (pv x.A) (pv x.N) (.map (some x.pb)):=rfl
def shp(p:Nat)(A B:Nat→Nat):Nat→World→(Nat→Prop)→Prop:=fun c=>if c<p then Sht (A c) (B c) (List.replicate (sn c) false) else Non
def lnp(p:Nat)(N:Nat→Nat):Nat→World→(Nat→Prop)→Prop:=fun c=>if c<p then Lm (N c) [] else Non
theorem oL(p:Nat)(A B:Nat→Nat)(c:Nat):Good (shp p A B c):=by unfold shp;split;exact Sht.good ..;exact Non.good
theorem pF(p:Nat)(N:Nat→Nat)(c:Nat):Good (lnp p N c):=by unfold lnp;split;exact Lm.good ..;exact Non.good
theorem vX(p:Nat)(A B:Nat→Nat)(a b:Nat):fset (shp p A B) p (Sht a b (List.replicate (sn p) false))=shp (p+1) (fset A p a) (fset B p b):=by
 funext c;unfold shp fset;by_cases e:c=p
 ·subst e;simp
 ·rw[if_neg e,if_neg e,if_neg e];dsimp only;by_cases h:c<p
  ·rw[if_pos h,if_pos (by omega)]
  ·rw[if_neg h,if_neg (by omega)]
theorem wY(p:Nat)(N:Nat→Nat)(a:Nat):fset (lnp p N) p (Lm a [])=lnp (p+1) (fset N p a):=by
 funext c;unfold lnp fset;by_cases e:c=p
 ·subst e;simp
 ·rw[if_neg e,if_neg e];dsimp only;by_cases h:c<p
  ·rw[if_pos h,if_pos (by omega)]
  ·rw[if_neg h,if_neg (by omega)]
def pvp(p:Nat)(A:Nat→Nat)(S:Nat→Value):Nat→Value:=fun c=>if c<p then .pointer (some ⟨A c,0,none⟩) else S c
theorem oX(p:Nat)(A:Nat→Nat)(S:Nat→Value)(a:Nat):fset (pvp p A S) p (.pointer (some ⟨a,0,none⟩))=pvp (p+1) (fset A p a) S:=by
 funext c;unfold pvp fset;by_cases e:c=p
 ·subst e;simp
 ·rw[if_neg e,if_neg e];dsimp only;by_cases h:c<p
  ·rw[if_pos h,if_pos (by omega)]
  ·rw[if_neg h,if_neg (by omega)]
section
variable{W w:World}{P0 O:World→(Nat→Prop)→Prop}{rest:List (World→(Nat→Prop)→Prop)}{b:Nat}{v0 v1 v2 v3 pm:Value}{S N:Nat→Value}
theorem nQ(cx:Cx W O)(h:aa W w (P0::O::Blk b (gob v0 v1 v2 v3 S N pm)::rest)):Calls Tryz.prog 96 #[.pointer (some ⟨b,0,none⟩)] w fun e w'=>e=.returned (.int .i64 0)∧∃A B N' pb,aa W w' (P0::O::Blk b (gob v0 v1 v2 v3 (pvp 24 A S) (pvp 8 N' N) (.map (some pb)))::(rest++[Fam 24 (shp 24 A B),Fam 8 (lnp 8 N'),Mg pb 0 (fun _=>none)])):=by
 have T0:Hid (aa W w (P0::O::Blk b (gob v0 v1 v2 v3 (pvp 0 (fun _=>0) S) N pm)::(rest++[Fam 24 (shp 0 (fun _=>0) (fun _=>0))]))):=h.more (Fam.good (oL _ _ _)) (Fam.start w 24) (Fr.refl _ _) fun _ e=>e.elim
 have HSl:Hid (∀(p:Nat) w1 pp A B,p<24→aa W w1 (P0::O::Blk b (gob v0 v1 v2 v3 (pvp pp A S) N pm)::(rest++[Fam 24 (shp pp A B)]))→Calls Tryz.prog 137 #[.int .i64 (p:Int)] w1 fun e w'=>e=.returned (.int .i64 (sn p:Int))∧aa W w' (P0::O::Blk b (gob v0 v1 v2 v3 (pvp pp A S) N pm)::(rest++[Fam 24 (shp pp A B)]))):=fun p w1 pp A B hp h1=>(tV p ⟨by omega,by omega⟩ (cx.g h1 rfl).k).mono fun e w' ⟨he,k⟩=>⟨by rw[he,(aj (c:=p) (by omega)).2.2.2.2.1],h1.kept k.fr⟩
 have HNew:Hid (∀(p:Nat) w1 A B,p<24→aa W w1 (P0::O::Blk b (gob v0 v1 v2 v3 (pvp p A S) N pm)::(rest++[Fam 24 (shp p A B)]))→Calls Tryz.prog 55 #[.int .i64 (sn p:Int)] w1 fun e w'=>∃sa sb,e=.returned (.tuple #[.pointer (some ⟨sa,0,none⟩),.int .i64 0])∧aa W w' (P0::O::Blk b (gob v0 v1 v2 v3 (pvp p A S) N pm)::(rest++[Fam 24 (shp (p+1) (fset A p sa) (fset B p sb))]))):=fun p w1 A B hp h1=>by
  have hs:=(aj (c:=p) (by omega)).2.1.2;refine(Sf.im (sn p) w1 (by omega) (cx.g h1 rfl).2.pos).mono ?_;rintro e w' ⟨he,k1,k2⟩;refine⟨w1.heap.size+1,w1.heap.size,he,?_⟩;have h2:=h1.more (Sht.good (w1.heap.size+1) w1.heap.size (List.replicate (sn p) false)) (Z:=fun i=>i=w1.heap.size∨i=w1.heap.size+1) ⟨k1,⟨.inr rfl,.inl rfl⟩,fun i hi=>by
   rcases hi with rfl|rfl
   ·exact k1.ltb
   ·exact k1.lta⟩ k2 fun i hi=>by
   rcases hi with rfl|rfl
   ·exact⟨Nat.le_refl _,k1.ltb⟩
   ·exact⟨by omega,k1.lta⟩
  have h3:=aa.put h2 (rest.length+3) (n:=24) (F:=shp p A B) (by show(rest++[Fam 24 (shp p A B)])[rest.length]? =_;simp) (oL _ _ _) (i:=p) (by unfold shp;rw[if_neg (by omega)]);rw[vX] at h3;have e2:(P0::O::Blk b (gob v0 v1 v2 v3 (pvp p A S) N pm)::(rest++[Fam 24 (shp p A B)])).set (rest.length+3) (Fam 24 (shp (p+1) (fset A p (w1.heap.size+1)) (fset B p w1.heap.size)))=P0::O::Blk b (gob v0 v1 v2 v3 (pvp p A S) N pm)::(rest++[Fam 24 (shp (p+1) (fset A p (w1.heap.size+1)) (fset B p w1.heap.size))]):=by
   show P0::O::Blk _ _::(rest++[Fam 24 (shp p A B)]).set rest.length _=_
   rw[List.set_append_right _ _ (Nat.le_refl _)];simp
  rw[e2] at h3;exact h3
 have HSt:Hid (∀(p:Nat) w1 A X sa,p<24→aa W w1 (P0::O::Blk b (gob v0 v1 v2 v3 (pvp p A S) N pm)::X)→w1.frozen? ⟨b,4+p,none⟩=false∧w1.cell? ⟨b,4+p,none⟩=some (pvp p A S p)∧aa W (w1.setCell ⟨b,4+p,none⟩ (.pointer (some ⟨sa,0,none⟩))) (P0::O::Blk b (gob v0 v1 v2 v3 (pvp (p+1) (fset A p sa) S) N pm)::X)):=fun p w1 A X sa hp h1=>by
  have hb:=h1.cells 2 rfl;refine⟨BR hb _,gob_s hb hp,?_⟩;have:=h1.setAt 2 rfl (4+p) (.pointer (some ⟨sa,0,none⟩));rw[gcl_s hp,oX] at this;exact this
 have HLn:Hid (∀(p:Nat) w1 S2 N2 rest2,p<8→aa W w1 (P0::O::Blk b (gob v0 v1 v2 v3 S2 (pvp p N2 N) pm)::(rest2++[Fam 8 (lnp p N2)]))→Calls Tryz.prog 138 #[] w1 fun e w'=>∃a,e=.returned (.pointer (some ⟨a,0,none⟩))∧(w'.frozen? ⟨b,28+p,none⟩=false∧w'.cell? ⟨b,28+p,none⟩=some (pvp p N2 N p))∧aa W (w'.setCell ⟨b,28+p,none⟩ (.pointer (some ⟨a,0,none⟩))) (P0::O::Blk b (gob v0 v1 v2 v3 S2 (pvp (p+1) (fset N2 p a) N) pm)::(rest2++[Fam 8 (lnp (p+1) (fset N2 p a))]))):=fun p w1 S2 N2 rest2 hp h1=>by
  refine(n_new w1).mono ?_;rintro e w' ⟨a,Z,he,k1,k2,k3⟩;refine⟨a,he,?_⟩;have h2:=h1.more (Lm.good a []) k1 k2 k3;have h3:=aa.put h2 (rest2.length+3) (n:=8) (F:=lnp p N2) (by show(rest2++[Fam 8 (lnp p N2)])[rest2.length]? =_;simp) (pF _ _) (i:=p) (by unfold lnp;rw[if_neg (by omega)]);rw[wY] at h3;have e2:(P0::O::Blk b (gob v0 v1 v2 v3 S2 (pvp p N2 N) pm)::(rest2++[Fam 8 (lnp p N2)])).set (rest2.length+3) (Fam 8 (lnp (p+1) (fset N2 p a)))=P0::O::Blk b (gob v0 v1 v2 v3 S2 (pvp p N2 N) pm)::(rest2++[Fam 8 (lnp (p+1) (fset N2 p a))]):=by
   show P0::O::Blk _ _::(rest2++[Fam 8 (lnp p N2)]).set rest2.length _=_
   rw[List.set_append_right _ _ (Nat.le_refl _)];simp
  rw[e2] at h3;have hb:=h3.cells 2 rfl;refine⟨⟨BR hb _,gob_l hb hp⟩,?_⟩;have:=h3.setAt 2 rfl (28+p) (.pointer (some ⟨a,0,none⟩));rw[gcl_l hp,oX] at this;exact this
 have HMp:Hid (∀w1 S2 N2 rest2,aa W w1 (P0::O::Blk b (gob v0 v1 v2 v3 S2 N2 pm)::rest2)→((w1.alloc (.map #[] 0)).frozen? ⟨b,36,none⟩=false∧(w1.alloc (.map #[] 0)).cell? ⟨b,36,none⟩=some pm∧b<w1.heap.size)∧aa W ((w1.alloc (.map #[] 0)).setCell ⟨b,36,none⟩ (.map (some w1.heap.size))) (P0::O::Blk b (gob v0 v1 v2 v3 S2 N2 (.map (some w1.heap.size)))::(rest2++[Mg w1.heap.size 0 (fun _=>none)]))):=fun w1 S2 N2 rest2 h1=>by
  have hb:=h1.cells 2 rfl;have hb2:=((Fr.refl (fun _=>False) w1).alloc (.map #[] 0)).block b (Array.getElem?_eq_some_iff.1 hb).1 id|>.trans hb;refine⟨⟨BR hb2 _,gob_p hb2,(Array.getElem?_eq_some_iff.1 hb).1⟩,?_⟩;have h2:=h1.more (Mg.good w1.heap.size 0 (fun _=>none)) (w':=w1.alloc (.map #[] 0)) (Z:=fun i=>i=w1.heap.size) ⟨Op17.new w1,rfl,fun i hi=>by subst hi;simp⟩ ((Fr.refl _ _).alloc _) fun i hi=>by subst hi;simp
  have:=h2.setAt 2 rfl 36 (.map (some w1.heap.size));rw[gcl_p] at this;exact this
 clear h;go_enter Tryz.func96,Tryz.ntmps96;go_wp2_with fail;go_loopw [7] (fun i wr=>∃(p:Nat) (A B:Nat→Nat),p≤24∧i=.int .i64 p∧Hid (aa W wr (P0::O::Blk b (gob v0 v1 v2 v3 (pvp p A S) N pm)::(rest++[Fam 24 (shp p A B)])))) (fun i _=>24 - (intOf i).toNat)
 case atStart=>exact⟨0,_,_,by omega,rfl,T0⟩
 case round=>
  clear T0;obtain⟨p,A,B,hp,rfl,T⟩:=hrel;by_cases hlt:p<24
  ·have H1:=hid (HSl.out p wr p A B hlt T.out);have H2:Hid (∀w1,_→_):=fun w1=>HNew.out p w1 A B hlt
   have H3:Hid (∀w1 X sa,_→_):=fun w1 X sa=>HSt.out p w1 A X sa hlt
   clear HSl HNew HSt T;go_wp2_with fail;refine H1.out.mono ?_;rintro e w1 ⟨rfl,h1⟩;have H4:=hid (H2.out _ h1);clear h1 H1 H2;go_wp2_with fail;refine H4.out.mono ?_;rintro e w2 ⟨sa,sb,rfl,h2⟩;obtain⟨z3,c3,h3⟩:=H3.out _ _ sa h2;have T3:=hid h3;clear h2 h3 H3 H4;generalize pvp p A S p=old at *;go_wp2;go_roundw
   case rel=>exact⟨p+1,_,_,by omega,by go_num,T3⟩
   case measure=>simp[intOf];omega
  ·obtain rfl:p=24:=by omega
   have T5:Hid (aa W wr (P0::O::Blk b (gob v0 v1 v2 v3 (pvp 24 A S) (pvp 0 (fun _=>0) N) pm)::(rest++[Fam 24 (shp 24 A B)]++[Fam 8 (lnp 0 (fun _=>0))]))):=T.out.more (Fam.good (pF _ _)) (Fam.start wr 8) (Fr.refl _ _) fun _ e=>e.elim
   clear T HSl HNew HSt;generalize hrs:rest++[Fam 24 (shp 24 A B)]=rest2 at *;go_wp2_with fail;go_loopw [26] (fun i wr=>∃(q:Nat) (N2:Nat→Nat),q≤8∧i=.int .i64 q∧Hid (aa W wr (P0::O::Blk b (gob v0 v1 v2 v3 (pvp 24 A S) (pvp q N2 N) pm)::(rest2++[Fam 8 (lnp q N2)])))) (fun i _=>8 - (intOf i).toNat)
   case atStart=>exact⟨0,_,by omega,rfl,T5⟩
   case round=>
    clear T5;obtain⟨q,N2,hq,rfl,T⟩:=hrel;by_cases hlt2:q<8
    ·have TD:Hid (aa W wr.drew (P0::O::Blk b (gob v0 v1 v2 v3 (pvp 24 A S) (pvp q N2 N) pm)::(rest2++[Fam 8 (lnp q N2)]))):=T.out.kept (Fr.refl _ _).drew;have H1:=hid (HLn.out q _ _ _ _ hlt2 TD.out);clear HLn HMp T TD;go_wp2_with fail;go_region_held3 (fun _=>True) (trivial) (first|(go_at_call 138;refine H1.out.mono ?_;rintro e w2 ⟨a,rfl,⟨z2,c2⟩,h2⟩;have T2:=hid h2;clear h2;generalize pvp q N2 N q=old at *))
     all_goals
      clear H1;go_wp2;go_roundw
      case rel=>exact⟨q+1,_,by omega,by go_num,T2⟩
      case measure=>simp[intOf];omega
    ·obtain rfl:q=8:=by omega
     obtain⟨⟨z9,c9,b9⟩,h9⟩:=HMp.out _ _ _ _ T.out;have T9:=hid h9;clear T h9 HLn HMp;have hne:b≠wr.heap.size:=by omega
     clear b9;have hmm:= @run_makeMap Tryz.prog;go_wp2;go_ret;exact⟨by simp,A,B,N2,wr.heap.size,by have:=T9.out;rw[←hrs] at this;simpa using this⟩
theorem begun{x:Px}{M:Ms}{T:Tb}{Wd:List Int}{A B N':Nat→Nat}{pb:Nat}{S N:Nat→Value}{O:World→(Nat→Prop)→Prop}
  (h:aa W w [Am 111 x.a M.bs M.ss,O,Blk x.h (gob (.pointer (some ⟨x.a,0,none⟩)) (.pointer (some ⟨x.m,0,none⟩)) (.slice x.ad Wd.length x.cap) (.pointer (some ⟨x.t,0,none⟩)) (pvp 24 A S) (pvp 8 N' N) (.map (some pb))),Ct x.m x.k M.has,Tm x.t T,Lv x.ad Wd,Fam 24 (shp 24 A B),Fam 8 (lnp 8 N'),Mg pb 0 (fun _=>none)]):
  ∃x':Px,(x'.h=x.h∧x'.a=x.a∧x'.m=x.m∧x'.t=x.t∧x'.k=x.k)∧aa W w (hl x' M ⟨Wd,T,fun c=>List.replicate (sn c) false,fun _=>[],fun _=>none,0⟩ O []):=by
 refine⟨⟨x.a,x.m,x.h,x.t,x.k,x.ad,x.cap,A,B,N',pb⟩,⟨rfl,rfl,rfl,rfl,rfl⟩,?_⟩;have h1:=h.view 6 rfl (P':=Fam 24 (shf ⟨x.a,x.m,x.h,x.t,x.k,x.ad,x.cap,A,B,N',pb⟩ fun c=>List.replicate (sn c) false)) (Fam.good (cF _ _)) fun U hU=>hU.congr fun i hi=>by unfold shp shf;rw[if_pos hi]
 have h2:=h1.view 7 rfl (P':=Fam 8 (lnf ⟨x.a,x.m,x.h,x.t,x.k,x.ad,x.cap,A,B,N',pb⟩ fun _=>[])) (Fam.good (cu _ _)) fun U hU=>hU.congr fun i hi=>by unfold lnp lnf;rw[if_pos hi]
 have h3:=h2.more (P':=Fam 6400 (pgf ⟨x.a,x.m,x.h,x.t,x.k,x.ad,x.cap,A,B,N',pb⟩ fun _=>none)) (Fam.good (bB _ _)) (Z:=fun _=>False) (Fam.start w 6400) (Fr.refl _ _) fun _ e=>e.elim
 have e1:gob (.pointer (some ⟨x.a,0,none⟩)) (.pointer (some ⟨x.m,0,none⟩)) (.slice x.ad Wd.length x.cap) (.pointer (some ⟨x.t,0,none⟩)) (pvp 24 A S) (pvp 8 N' N) (.map (some pb))=hob ⟨x.a,x.m,x.h,x.t,x.k,x.ad,x.cap,A,B,N',pb⟩ Wd.length:=by
  rw[uz];unfold gob gcl;have k1:(List.range 24).map (pvp 24 A S)=(List.range 24).map (pv A):=by
   apply List.map_congr_left;intro c hc;unfold pvp pv;rw[if_pos (by simpa using hc)]
  have k2:(List.range 8).map (pvp 8 N' N)=(List.range 8).map (pv N'):=by
   apply List.map_congr_left;intro c hc;unfold pvp pv;rw[if_pos (by simpa using hc)]
  rw[k1,k2]
 rw[e1] at h3;have e2:pgm (fun _=>none)=fun _=>none:=by
  funext v;unfold pgm;split<;>rfl
 unfold hl;rw[e2];exact h3
theorem gW{Wd:List Int}:bm ⟨Wd,[],fun c=>List.replicate (sn c) false,fun _=>[],fun _=>none,0⟩ ⟨Wd,[],[],fun _=>[]⟩:=by
 refine⟨rfl,rfl,fun c _=> ?_,fun _ _=>rfl,fun v g _=>⟨fun⟨p,e⟩=>(by cases e),fun⟨x,hx,_⟩=>(by cases hx)⟩,fun _ _=>rfl,?_⟩
 ·unfold shL;apply List.ext_getElem (by simp);intro i h1 h2;simp[bq]
 ·show 0=pgN fun _=>none
  unfold pgN;exact(Cq.kG _ _ fun _ _=>rfl).symm
theorem aa.swapAt{ts:List (World→(Nat→Prop)→Prop)}{P Q:World→(Nat→Prop)→Prop}(h:aa W w ts)(i j:Nat)(hi:ts[i]? =some P)(hj:ts[j]? =some Q)(hne:i≠j):aa W w ((ts.set i Q).set j P):=by
 have gP:=h.nV hi;have gQ:=h.nV hj;have hil:=(List.getElem?_eq_some_iff.1 hi).1;have hjl:=(List.getElem?_eq_some_iff.1 hj).1;have h1:=h.merge i j hi hj hne;have h2:=h1.view i (P:=Both P Q) (P':=Both Q P) (by rw[List.getElem?_set_ne (fun e=>hne e.symm),List.getElem?_set_self hil]) (Both.good gQ gP) fun _=>Both.swap
 have h3:=h2.apart i j (P:=Q) (Q:=P) (by rw[List.getElem?_set_self (by simp;exact hil)]) (by rw[List.getElem?_set_ne hne,List.getElem?_set_self (by simp;exact hjl)]) hne gQ gP;have e2:(((((ts.set i (Both P Q)).set j Non).set i (Both Q P)).set i Q).set j P)=(ts.set i Q).set j P:=by
  rw[List.set_set,List.set_comm _ _ (fun e=>hne e.symm),List.set_set,List.set_set]
 rw[e2] at h3;exact h3
theorem xM(l:List Int)(m:Ms)(T:Tb)(i:Nat)(hi:i<l.length):drA (l.take (i+1)) m T=(drM (drA (l.take i) m T).1 (drA (l.take i) m T).2 l[i],tbU (drA (l.take i) m T).2 l[i]):=by
 induction l generalizing m T i with
 |nil=>simp at hi
 |cons p r ih=>
  cases i with
  |zero=>simp[drA]
  |succ i=>
   simp only[List.length_cons] at hi;simp only[List.take_succ_cons,drA,List.getElem_cons_succ];exact ih _ _ i (by omega)
theorem iJ{C:Nat→Prop}:∀(T:Tb) (m:Ms),TpOk C m.has T→MsOk m→∀q,q≤T.length→(drA ((T.map Prod.fst).take q) m T).2=T.drop q∧TpOk C (drA ((T.map Prod.fst).take q) m T).1.has (T.drop q)∧MsOk (drA ((T.map Prod.fst).take q) m T).1∧(drA ((T.map Prod.fst).take q) m T).1.ss.length=m.ss.length+q
 |T,m,h,ok,0,_=>⟨rfl,h,ok,rfl⟩
 |[],m,h,ok,q+1,hq=>by simp at hq
 |x::r,m,h,ok,q+1,hq=>by
  rw[List.map_cons,List.take_succ_cons];unfold drA;have hf:tbF (x::r) x.1=x.2:=aN h.tb (by simp);have hx:=h.tk x (by simp);obtain⟨p,_,_,_,_,_,w⟩:=drop_one h ok (v:=x.1) (by rw[hf];omega);have e:=oE h.tb;rw[e] at w ⊢;obtain⟨i1,i2,i3,i4⟩:=iJ r (drM m (x::r) x.1) w.ok w.ms q (by simpa using hq);refine⟨i1,i2,i3,?_⟩;rw[i4];show(m.ss++[_]).length+q=_;rw[List.length_append,List.length_singleton];omega
end
section
variable{w:World}{a m h t k:Nat}{U:Nat→Prop}{M:Ms}{H:Hp}
theorem y_drop(q:Hs a m h t k M H w U)(gr:G17 w)(fu:cM U)(c:Hc k M H):Calls Tryz.prog 66 #[.pointer (some ⟨h,0,none⟩)] w fun e w'=>e=.returned (.tuple #[])∧∃U',Hs a m h t k (hDr M H).1 (hDr M H).2 w' U'∧Gw w w' U U':=by
 obtain⟨x,R,⟨rfl,rfl,rfl,rfl,rfl⟩,r,z⟩:=q.into;have cx:=jv gr fu;have T0:=z.begin;have c3:=di (aI T0);have tb:TbOk R.T:=by rw[r.T];exact c.ok.tp.tb
 have H1:Hid (Calls Tryz.prog 108 #[.pointer (some ⟨x.t,0,none⟩)] w fun e w'=>∃ad cap,e=.returned (.slice ad (H.T.map Prod.fst).length cap)∧aa (Bare w) w' (hl x (drA ((H.T.map Prod.fst).take 0) M H.T).1 ⟨R.W,(drA ((H.T.map Prod.fst).take 0) M H.T).2,R.sh,R.ln,R.pg,R.cnt⟩ (Old w U) [Lv ad (H.T.map Prod.fst)])):=(yB T0 tb).mono fun e w' ⟨ad,cap,he,h1⟩=>by
  rw[r.T] at he;refine⟨ad,cap,he,?_⟩;show aa (Bare w) w' (hl x M ⟨R.W,H.T,R.sh,R.ln,R.pg,R.cnt⟩ (Old w U) [Lv ad (H.T.map Prod.fst)]);rw[←r.T];exact h1
 have hlenT:H.T.length≤4096:=by
  have h1:=aF M.has.length (H.T.map fun y=>y.2.toNat) (by
   rw[List.nodup_iff_pairwise_ne,List.pairwise_map];refine List.Pairwise.imp_of_mem ?_ c.ok.tp.tb.inj;intro y y' hy hy' hne e;have h3:=(c.ok.tp.tk y hy).1;have h4:=(c.ok.tp.tk y' hy').1;exact hne (by omega)) fun v hv=>by
   obtain⟨y,hy,rfl⟩:=List.mem_map.1 hv;exact(c.ok.tp.tk y hy).2.1
  rw[List.length_map] at h1;have:=c.ms.cap;omega
 have HL:Hid (∀(i:Nat) (hi:i<(H.T.map Prod.fst).length) w1 ts,aa (Bare w) w1 (hl x (drA ((H.T.map Prod.fst).take i) M H.T).1 ⟨R.W,(drA ((H.T.map Prod.fst).take i) M H.T).2,R.sh,R.ln,R.pg,R.cnt⟩ (Old w U) ts)→Calls Tryz.prog 109 #[.pointer (some ⟨x.h,0,none⟩),.int .i64 (H.T.map Prod.fst)[i]] w1 fun e w'=>e=.returned (.tuple #[])∧aa (Bare w) w' (hl x (drA ((H.T.map Prod.fst).take (i+1)) M H.T).1 ⟨R.W,(drA ((H.T.map Prod.fst).take (i+1)) M H.T).2,R.sh,R.ln,R.pg,R.cnt⟩ (Old w U) ts)):=fun i hi w1 ts h1=>by
  have hi2:i<H.T.length:=by simpa using hi
  obtain⟨s1,s2,s3,s4⟩:=iJ H.T M c.ok.tp c.ms i (by omega);rw[xM _ _ _ _ hi];have hm:H.T[i]∈H.T.drop i:=by rw[List.drop_eq_getElem_cons hi2];exact List.mem_cons_self ..
  have e1:(H.T.map Prod.fst)[i]=H.T[i].1:=by simp
  have hv:=c.ok.tp.tb.at_ H.T[i] (List.getElem_mem hi2);have ht:=s2.tk _ hm;have hf:tbF (H.T.drop i) H.T[i].1=(H.T[i].2.toNat:Int):=by rw[aN (v:=H.T[i].1) (p:=H.T[i].2) s2.tb hm];omega
  refine uk cx h1 (by show TbOk (drA _ _ _).2;rw[s1];exact s2.tb) (v:=(H.T.map Prod.fst)[i]) (by rw[e1];have:=hv.1;unfold VOk at this;exact⟨by omega,by omega⟩) (p:=H.T[i].2.toNat) (by show tbF (drA _ _ _).2 _=_;rw[s1,e1];exact hf) ?_ (by rw[s4];have:=c.ss;omega);have:=s3.len;omega
 have HB:Hid (∀w1 M1 ts,aa (Bare w) w1 (hl x M1 ⟨R.W,[],R.sh,R.ln,R.pg,R.cnt⟩ (Old w U) ts)→Calls Tryz.prog 96 #[.pointer (some ⟨x.h,0,none⟩)] w1 fun e w'=>e=.returned (.int .i64 0)∧∃A B N' pb,aa (Bare w) w' (Am 111 x.a M1.bs M1.ss::Old w U::Blk x.h (gob (.pointer (some ⟨x.a,0,none⟩)) (.pointer (some ⟨x.m,0,none⟩)) (.slice x.ad R.W.length x.cap) (.pointer (some ⟨x.t,0,none⟩)) (pvp 24 A (pv x.A)) (pvp 8 N' (pv x.N)) (.map (some pb)))::((Ct x.m x.k M1.has::Tm x.t []::Lv x.ad R.W::Fam 24 (shf x R.sh)::Fam 8 (lnf x R.ln)::Mg x.pb R.cnt (pgm R.pg)::Fam 6400 (pgf x R.pg)::ts)++[Fam 24 (shp 24 A B),Fam 8 (lnp 8 N'),Mg pb 0 (fun _=>none)]))):=fun w1 M1 ts h1=>by
  have h2:=h1;unfold hl at h2;rw[uz] at h2;exact nQ cx h2
 have hE:(drA ((H.T.map Prod.fst).take (H.T.map Prod.fst).length) M H.T).2=[]:=by
  obtain⟨s1,_⟩:=iJ H.T M c.ok.tp c.ms H.T.length (Nat.le_refl _);rw[List.length_map,s1,List.drop_length]
 have HF:Hid (∀w1 ad A B N' pb,aa (Bare w) w1 (Am 111 x.a (hDr M H).1.bs (hDr M H).1.ss::Old w U::Blk x.h (gob (.pointer (some ⟨x.a,0,none⟩)) (.pointer (some ⟨x.m,0,none⟩)) (.slice x.ad R.W.length x.cap) (.pointer (some ⟨x.t,0,none⟩)) (pvp 24 A (pv x.A)) (pvp 8 N' (pv x.N)) (.map (some pb)))::((Ct x.m x.k (hDr M H).1.has::Tm x.t []::Lv x.ad R.W::Fam 24 (shf x R.sh)::Fam 8 (lnf x R.ln)::Mg x.pb R.cnt (pgm R.pg)::Fam 6400 (pgf x R.pg)::[Lv ad (H.T.map Prod.fst)])++[Fam 24 (shp 24 A B),Fam 8 (lnp 8 N'),Mg pb 0 (fun _=>none)]))→∃U',Hs x.a x.m x.h x.t x.k (hDr M H).1 (hDr M H).2 w1 U'∧Gw w w1 U U'):=fun w1 ad A B N' pb h1=>by
  have h2:=h1.swapAt 6 11 rfl rfl (by decide);have h3:=h2.swapAt 7 12 rfl rfl (by decide);have h4:=h3.swapAt 8 13 rfl rfl (by decide);have h5:aa (Bare w) w1 ([Am 111 x.a (hDr M H).1.bs (hDr M H).1.ss,Old w U,Blk x.h (gob (.pointer (some ⟨x.a,0,none⟩)) (.pointer (some ⟨x.m,0,none⟩)) (.slice x.ad R.W.length x.cap) (.pointer (some ⟨x.t,0,none⟩)) (pvp 24 A (pv x.A)) (pvp 8 N' (pv x.N)) (.map (some pb))),Ct x.m x.k (hDr M H).1.has,Tm x.t [],Lv x.ad R.W,Fam 24 (shp 24 A B),Fam 8 (lnp 8 N'),Mg pb 0 (fun _=>none)]++[Fam 6400 (pgf x R.pg)]++[Lv ad (H.T.map Prod.fst)]++[Fam 24 (shf x R.sh)]++[Fam 8 (lnf x R.ln)]++[Mg x.pb R.cnt (pgm R.pg)]):=h4;obtain⟨x',⟨e1,e2,e3,e4,e5⟩,h6⟩:=begun h5.less.less.less.less.less;have:=Hz.finish h6 z.lt (gW (Wd:=R.W));rw[e1,e2,e3,e4,e5,r.W] at this;exact this
 have hrel0:Hid ((hDr M H).1=(drA ((H.T.map Prod.fst).take (H.T.map Prod.fst).length) M H.T).1):=by show _=_;rw[List.take_length];rfl
 have hLL:(H.T.map Prod.fst).length≤4096:=by simpa using hlenT
 clear T0 q cx c r z tb gr fu hlenT;have HE:=hid hE;clear hE;generalize H.T.map Prod.fst=L at *;go_enter Tryz.func66,Tryz.ntmps66;go_wp2_with fail;refine H1.out.mono ?_;rintro e w1 ⟨ad,cap,rfl,h1⟩;have T1:=hid h1;clear h1 H1 c3;go_wp2_with fail;go_loopw [12] (fun i wr=>∃q:Nat,q≤L.length∧i=.int .i64 q∧Hid (aa (Bare w) wr (hl x (drA (L.take q) M H.T).1 ⟨R.W,(drA (L.take q) M H.T).2,R.sh,R.ln,R.pg,R.cnt⟩ (Old w U) [Lv ad L]))) (fun i _=>L.length - (intOf i).toNat)
 case atStart=>exact⟨0,by omega,rfl,T1⟩
 case round=>
  clear T1;obtain⟨q,hq,rfl,T⟩:=hrel;by_cases hlt:q<L.length
  ·obtain⟨bb,off,rfl,hbb,hc1⟩:=T.out.nums 10 rfl q hlt;have H2:=hid (HL.out q hlt _ _ T.out);clear HL HB HF T HE hrel0;generalize L[q]=v at *;go_wp2_with fail;refine H2.out.mono ?_;rintro e w2 ⟨rfl,h2⟩;have T2:=hid h2;clear h2 H2 hc1;go_wp2;go_roundw
   case rel=>exact⟨q+1,by omega,by go_num,T2⟩
   case measure=>simp[intOf];omega
  ·obtain rfl:q=L.length:=by omega
   have T2:Hid (aa (Bare w) wr (hl x (hDr M H).1 ⟨R.W,[],R.sh,R.ln,R.pg,R.cnt⟩ (Old w U) [Lv ad L])):=by
    have:=T.out;rw[HE.out,←hrel0.out] at this;exact this
   have H2:=hid (HB.out _ _ _ T2.out);clear HL HB T T2 HE hrel0;go_wp2_with fail;refine H2.out.mono ?_;rintro e w2 ⟨rfl,A,B,N',pb,h2⟩;have T3:=hid (HF.out _ _ _ _ _ _ h2);clear h2 H2 HF;go_wp2;go_end0;exact⟨rfl,T3.out⟩
end
end Go.Proofs.YtndhbnhobhkmaaaGreatDoor
