/-
  What the calls of package caps do: whose bits these are (good, Find).
  What the calls of package caps do: Find.
  A slot of the program's table is filled, or freed: what is in memory then.
  What the calls of package caps do: a slot is given out (give, Grant, Restrict).
-/
import Derived.Test.YtndhbnhobhkmaaaGreatDoorKhCalls
import Derived.Deep.RegionHeld3
set_option maxRecDepth 20000
set_option maxHeartbeats 1000000
namespace Go.Proofs.YtndhbnhobhkmaaaGreatDoor.Ka
open Go.RowKit
def goA(c:Ct)(b:Int):Int:=((look c b).map Sl.a).getD 0
def goR(c:Ct)(b:Int):Int:=((look c b).map Sl.r).getD 0
def goN(c:Ct)(b:Int):Int:=((look c b).map Sl.n).getD 0
def goE(c:Ct)(b:Int):Int:=if(look c b).isSome then 0 else 5
theorem kB{c:Ct}{b:Int}(h:look c b=none):goA c b=0∧goR c b=0∧goN c b=0∧goE c b=5:=by
 unfold goA goR goN goE;rw[h];exact⟨rfl,rfl,rfl,rfl⟩
theorem BS{c:Ct}(hc:c.Ok){b:Int}(hb:HB b)(h:c.T=unT b∧hR c.L (unS b)=unR b∧hN c.L (unS b)=unN b):goA c b=hA c.L (unS b)∧goR c b=hR c.L (unS b)∧goN c b=hN c.L (unS b)∧goE c b=0:=by
 have e:=lS hc hb;rw[if_pos h] at e;have hn:sAt c.L (unS b)≠none:=fun h2=>by
  have h3:=h.2.2;unfold hN at h3;rw[h2] at h3;have:=(ow hb).2.2.2.1;have hk:HB b:=hb;unfold HB KR at hk;simp at h3;omega
 unfold goA goR goN goE hA hR hN;rw[e];cases hs:sAt c.L (unS b) with
 |none=>exact(hn hs).elim
 |some x=>exact⟨rfl,rfl,rfl,rfl⟩
theorem put3{w w2:World}{R:Nat}(hR:w.heap.size=R)(f:Fr (fun k=>R≤k) w w2)(x y z:Value):Fr (fun _=>False) w (((w2.setCell ⟨R,0,none⟩ x).setCell ⟨R,1,none⟩ y).setCell ⟨R,2,none⟩ z):=by
 subst hR;exact(((Fr.setCell f (p:=⟨w.heap.size,0,none⟩) (Nat.le_refl _) _).setCell (p:=⟨w.heap.size,1,none⟩) (Nat.le_refl _) _).setCell (p:=⟨w.heap.size,2,none⟩) (Nat.le_refl _) _).new
theorem k_good{w:World}{a o ob s sb:Nat}{c:Ct}(h:Kt w a o ob s sb c){b:Int}(b0:0≤b)(b1:b≤18446744073709551615):Calls Tryz.prog 90 #[.pointer (some ⟨a,0,none⟩),.int .u64 b] w fun e w'=>e=.returned (.tuple #[.agg #[.int .i64 (goA c b),.int .i64 (goR c b),.int .i64 (goN c b)],.int .i64 (goE c b)])∧Fr (fun _=>False) w w':=by
 have HU:=hid fun w=>xA b0 b1 w
 by_cases hb:HB b
 case neg=>
  have HE:=hid (kB (wV h.ok hb));obtain⟨u1,u2,u3,u4,u5⟩:=rY hb;rw[u1,u2,u3,u4,u5] at HU;clear u1 u2 u3 u4 u5 hb b0 b1;rw[HE.out.1,HE.out.2.1,HE.out.2.2.1,HE.out.2.2.2];clear HE;go_enter Tryz.func90,Tryz.ntmps90;go_wp2_with fail;refine(HU.out _).mono ?_;rintro e w1 ⟨rfl,f1⟩;have hr:=(Hb.new w 156 0 0 0).carry f1 id;have F1:=hid (((Fr.refl (fun k=>w.heap.size≤k) w).alloc (.cells #[.int .i64 0,.int .i64 0,.int .i64 0] 156)).trans (f1.mono fun _ _ e=>e.elim));generalize hRR:w.heap.size=R at hr F1;clear f1 HU;have hr2:=hr.carry ((Fr.refl (fun _=>False) _).alloc (.cells #[.int .i64 0,.int .i64 0,.int .i64 0,.int .i64 0] 190)) id;have F2:=hid (F1.out.alloc (.cells #[.int .i64 0,.int .i64 0,.int .i64 0,.int .i64 0] 190));have z0:=hr2.c0;have z1:=hr2.c1;have z2:=hr2.c2;have g:=fun k=>hr2.g k
  have HR:=hid hr2;clear hr hr2 F1;go_wp2;have P:=HR.out.put 0 0 0;have k0:=P.c0;have k1:=P.c1;have k2:=P.c2;exact bodyPost_ret (v:=.tuple #[.agg #[.int .i64 0,.int .i64 0,.int .i64 0],.int .i64 5]) (by simp[results,Tryz.results90,go_sem,k0,k1,k2]) rfl ⟨rfl,put3 hRR F2.out _ _ _⟩
 have HE1:=hid fun e=>BS h.ok hb e
 have HE2:Hid (¬(c.T=unT b∧hR c.L (unS b)=unR b∧hN c.L (unS b)=unN b)→goA c b=0∧goR c b=0∧goN c b=0∧goE c b=5):=fun hn=>kB (by rw[lS h.ok hb,if_neg hn])
 obtain⟨u1,u2,u3,u4,u5⟩:=ow hb;obtain⟨k,hk,hkl⟩:∃k:Nat,unS b=k∧k<4160:=⟨(unS b).toNat,by unfold HB KR at hb;omega,by unfold HB KR at hb;omega⟩;rw[u5,hk] at HU;rw[hk] at HE1 HE2;clear u1 u2 u3 u4 u5 hk hb b0 b1;generalize unT b=t at *;generalize unR b=r at *;generalize unN b=n at *;generalize goA c b=gA at *;generalize goR c b=gR at *;generalize goN c b=gN at *;generalize goE c b=gE at *;have HH:=hid h;have HK:Hid (∀w0,Kt w0 a o ob s sb c→_):=fun w0 h0=>Bw h0 k hkl
 clear h;go_enter Tryz.func90,Tryz.ntmps90;go_wp2_with fail;refine(HU.out _).mono ?_;rintro e w1 ⟨rfl,f1⟩;have hr:=(Hb.new w 156 0 0 0).carry f1 id;have F1:=hid (((Fr.refl (fun k=>w.heap.size≤k) w).alloc (.cells #[.int .i64 0,.int .i64 0,.int .i64 0] 156)).trans (f1.mono fun _ _ e=>e.elim));have K1:=hid ((HH.out.kept ((Fr.refl (fun _=>False) w).alloc (.cells #[.int .i64 0,.int .i64 0,.int .i64 0] 156))).kept f1);generalize hRR:w.heap.size=R at hr F1;clear f1 HU HH;have hr2:=hid (hr.carry ((Fr.refl (fun _=>False) _).alloc (.cells #[.int .i64 t,.int .i64 k,.int .i64 r,.int .i64 n] 190)) id);have F2:=hid (F1.out.alloc (.cells #[.int .i64 t,.int .i64 k,.int .i64 r,.int .i64 n] 190));have K2:=hid (K1.out.kept ((Fr.refl (fun _=>False) _).alloc (.cells #[.int .i64 t,.int .i64 k,.int .i64 r,.int .i64 n] 190)));have B2:=hid (Kb.new w1 t k r n);have p0:=B2.out.c0;have p1:=B2.out.c1;have p2:=B2.out.c2;have p3:=B2.out.c3;clear hr F1 K1;generalize hw2:w1.alloc (.cells #[.int .i64 t,.int .i64 k,.int .i64 r,.int .i64 n] 190)=w2 at *;generalize hB:w1.heap.size=B at *;go_wp2_with fail;clear hw2 hB;by_cases he:c.T=t∧hR c.L k=r∧hN c.L k=n
 case neg=>
  have HE:=hid (HE2.out he);have hcs:(t==c.T)=false∨((t==c.T)=true∧(r==hR c.L k)=false)∨((t==c.T)=true∧(r==hR c.L k)=true∧(n==hN c.L k)=false):=by
   simp only[beq_iff_eq,beq_eq_false_iff_ne];omega
  clear HE1 HE2 he;generalize hR c.L k=r' at *;generalize hN c.L k=n' at *;rcases hcs with e1|⟨e1,e2⟩|⟨e1,e2,e3⟩
  all_goals
   go_region_held3 (fun w'=>w'.cell? ⟨B,0,none⟩=some (.int .i64 t)∧w'.cell? ⟨B,1,none⟩=some (.int .i64 k)∧w'.cell? ⟨B,2,none⟩=some (.int .i64 r)∧w'.cell? ⟨B,3,none⟩=some (.int .i64 n)) (first|exact⟨by assumption,by assumption,by assumption,by assumption⟩|go_keep) (first|(go_at_call 133;refine(HK.out _ (K2.out.kept (Fr.refl _ _).drew)).mono ?_;rintro e w3 ⟨rfl,f3⟩;have B3:=hid ((B2.out.kept (Fr.refl _ _).drew).kept f3);have q0:=B3.out.c0;have q1:=B3.out.c1;have q2:=B3.out.c2;have q3:=B3.out.c3;have K3:=hid ((K2.out.kept (Fr.refl _ _).drew).kept f3);have hr3:=hid ((hr2.out.carry (Fr.refl (fun _=>False) _).drew id).carry f3 id);have F3:=hid ((F2.out.drew).trans (f3.mono fun _ _ e=>e.elim));clear f3));have z0:=hr3.out.c0;have z1:=hr3.out.c1;have z2:=hr3.out.c2;have g:=fun k=>hr3.out.g k
   go_wp2;have P:=hr3.out.put 0 0 0;have k0:=P.c0;have k1:=P.c1;have k2:=P.c2;exact bodyPost_ret (v:=.tuple #[.agg #[.int .i64 0,.int .i64 0,.int .i64 0],.int .i64 5]) (by simp[results,Tryz.results90,go_sem,k0,k1,k2]) rfl ⟨by rw[HE.out.1,HE.out.2.1,HE.out.2.2.1,HE.out.2.2.2],put3 hRR F3.out _ _ _⟩
 have HE:=hid (HE1.out he);obtain⟨rfl,rfl,rfl⟩:=he;clear HE1 HE2;go_region_held3 (fun w'=>w'.cell? ⟨B,0,none⟩=some (.int .i64 c.T)∧w'.cell? ⟨B,1,none⟩=some (.int .i64 k)∧w'.cell? ⟨B,2,none⟩=some (.int .i64 (hR c.L k))∧w'.cell? ⟨B,3,none⟩=some (.int .i64 (hN c.L k))) (first|exact⟨by assumption,by assumption,by assumption,by assumption⟩|go_keep) (first|(go_at_call 133;refine(HK.out _ (K2.out.kept (Fr.refl _ _).drew)).mono ?_;rintro e w3 ⟨rfl,f3⟩;have B3:=hid ((B2.out.kept (Fr.refl _ _).drew).kept f3);have q0:=B3.out.c0;have q1:=B3.out.c1;have q2:=B3.out.c2;have q3:=B3.out.c3;have K3:=hid ((K2.out.kept (Fr.refl _ _).drew).kept f3);have hr3:=hid ((hr2.out.carry (Fr.refl (fun _=>False) _).drew id).carry f3 id);have F3:=hid ((F2.out.drew).trans (f3.mono fun _ _ e=>e.elim));clear f3));have z0:=hr3.out.c0;have z1:=hr3.out.c1;have z2:=hr3.out.c2;have g:=fun k=>hr3.out.g k
 have x0:=K3.out.ca k hkl;have x1:=K3.out.cr k hkl;have x2:=K3.out.cn k hkl;go_wp2_with fail;go_region;go_wp2;have P:=hr3.out.put (hA c.L k) (hR c.L k) (hN c.L k);have k0:=P.c0;have k1:=P.c1;have k2:=P.c2;exact bodyPost_ret (v:=.tuple #[.agg #[.int .i64 (hA c.L k),.int .i64 (hR c.L k),.int .i64 (hN c.L k)],.int .i64 0]) (by simp[results,Tryz.results90,go_sem,k0,k1,k2]) rfl ⟨by rw[HE.out.1,HE.out.2.1,HE.out.2.2.1,HE.out.2.2.2],(put3 hRR F3.out _ _ _).drew⟩
theorem kM(x:BitVec 64)(p:Nat)(hp:p<8)(h:(x&&& ~~~(BitVec.ofNat 64 p))=0#64):x.toNat<8:=by
 have e:x.toNat=x.toNat % 2 ^ 3:=by
  apply Nat.eq_of_testBit_eq;intro i;rw[Nat.testBit_mod_two_pow];by_cases hi:i<3
  ·simp[hi]
  ·have h1:(x&&& ~~~(BitVec.ofNat 64 p)).getLsbD i=false:=by rw[h];simp
   rw[BitVec.getLsbD_and,BitVec.getLsbD_not,BitVec.getLsbD_ofNat] at h1;have h2:p.testBit i=false:=Nat.testBit_lt_two_pow (Nat.lt_of_lt_of_le hp (by rw[show 8=2 ^ 3 from rfl];exact Nat.pow_le_pow_right (by omega) (by omega)));rw[h2] at h1;simp only[hi,decide_false,Bool.false_and];rw[BitVec.testBit_toNat];by_cases h64:i<64
   ·simpa [h64] using h1
   ·exact BitVec.getLsbD_of_ge _ _ (by omega)
 omega
theorem sE:∀p q:Fin 8,(Go.bits .andNot .i64 ((q.val:Nat):Int) ((p.val:Nat):Int)==0)=sub ((p.val:Nat):Int) ((q.val:Nat):Int):=by decide+kernel
theorem jz{p q:Int}(hp:1≤p∧p≤7)(hq: -9223372036854775808≤q∧q≤9223372036854775807):(Go.bits .andNot .i64 q p==0)=decide ((0≤q∧q≤7)∧sub p q=true):=by
 obtain⟨p',rfl,hp'⟩:∃p':Nat,p=p'∧p'<8:=⟨p.toNat,by omega,by omega⟩;by_cases h:0≤q∧q≤7
 ·obtain⟨q',rfl,hq'⟩:∃q':Nat,q=q'∧q'<8:=⟨q.toNat,by omega,by omega⟩;have:=sE ⟨p',hp'⟩ ⟨q',hq'⟩;rw[this];simp[h]
 ·rw[decide_eq_false fun h2=>h h2.1,beq_eq_false_iff_ne];intro e;have e1:Go.bits .andNot .i64 q (p':Int)=IntKind.i64.wrap ((BitVec.ofInt 64 q&&& ~~~(BitVec.ofInt 64 (p':Int))).toNat:Int):=rfl;rw[e1,IntKind.wrap_i64] at e;have h1:=(BitVec.ofInt 64 q&&& ~~~(BitVec.ofInt 64 (p':Int))).isLt;have h2:(BitVec.ofInt 64 q&&& ~~~(BitVec.ofInt 64 (p':Int))).toNat=0:=by omega
  have h3:=kM (BitVec.ofInt 64 q) p' hp' (by
   apply BitVec.eq_of_toNat_eq;rw[BitVec.ofInt_natCast] at h2;simpa using h2)
  rw[BitVec.toNat_ofInt] at h3;omega
theorem uG{c:Ct}{b:Int}{x:Sl}(h:look c b=some x):goA c b=x.a∧goR c b=x.r∧goN c b=x.n∧goE c b=0:=by
 unfold goA goR goN goE;rw[h];exact⟨rfl,rfl,rfl,rfl⟩
section
variable{w:World}{a o ob s sb:Nat}{c:Ct}
theorem Kt.good(h:Kt w a o ob s sb c){b:Int}(b0:0≤b)(b1:b≤18446744073709551615):Calls Tryz.prog 90 #[.pointer (some ⟨a,0,none⟩),.int .u64 b] w fun e w'=>e=.returned (.tuple #[.agg #[.int .i64 (goA c b),.int .i64 (goR c b),.int .i64 (goN c b)],.int .i64 (goE c b)])∧Kt w' a o ob s sb c∧Fr (fun _=>False) w w':=
 (k_good h b0 b1).mono fun _ _ ⟨he,f⟩=>⟨he,h.kept f,f⟩
theorem k_find(h:Kt w a o ob s sb c){b:Int}(b0:0≤b)(b1:b≤18446744073709551615){q:Int}(hq: -9223372036854775808≤q∧q≤9223372036854775807):Calls Tryz.prog 61 #[.pointer (some ⟨a,0,none⟩),.int .u64 b,.int .i64 q] w fun e w'=>e=.returned (.tuple #[.int .i64 (fiV c b q),.int .i64 (fiE c b q)])∧Fr (fun _=>False) w w':=by
 have HG:=hid (h.good b0 b1);cases hl:look c b with
 |none=>
  have e1:fiV c b q=0:=by unfold fiV;rw[hl]
  have e2:fiE c b q=5:=by unfold fiE;rw[hl]
  obtain⟨g1,g2,g3,g4⟩:=kB hl;rw[g1,g2,g3,g4] at HG;rw[e1,e2];clear h g1 g2 g3 g4 e1 e2 hl b0 b1 hq;go_enter Tryz.func61,Tryz.ntmps61;go_wp2_with fail;refine HG.out.mono ?_;rintro e w1 ⟨rfl,_,f1⟩;have F1:=hid f1;clear f1 HG;go_wp2;go_ret2;exact⟨by simp,F1.out.alloc _⟩
 |some x=>
  have hx:=h.ok.kr x (ct hl).1;have HH:=hid fun w=>k_has x.a x.r x.n q w
  rw[jz (by have:=hx.1;unfold KR at this;omega) hq] at HH;obtain⟨g1,g2,g3,g4⟩:=uG hl;rw[g1,g2,g3,g4] at HG;have e1:fiV c b q=if fiOk x q then x.a else 0:=by unfold fiV;rw[hl]
  have e2:fiE c b q=if fiOk x q then 0 else 5:=by unfold fiE;rw[hl]
  rw[e1,e2];clear h g1 g2 g3 g4 e1 e2 hl b0 b1 hq hx;obtain⟨xs,xr,xn,xa⟩:=x;dsimp only at HG HH ⊢;by_cases hf:fiOk ⟨xs,xr,xn,xa⟩ q
  ·rw[decide_eq_true hf] at HH;rw[if_pos hf,if_pos hf];clear hf;go_enter Tryz.func61,Tryz.ntmps61;go_wp2_with fail;refine HG.out.mono ?_;rintro e w1 ⟨rfl,_,f1⟩;have F1:=hid f1;have P1:=hid (Hb.new w1 156 xa xr xn);clear f1 HG;have c0:=P1.out.c0;have c1:=P1.out.c1;have c2:=P1.out.c2;go_wp2_with fail;refine(HH.out _).mono ?_;rintro e w2 ⟨rfl,f2⟩;have P2:=hid (P1.out.carry f2 id);have F2:=hid ((F1.out.alloc _).trans f2);clear f2 HH P1 F1 c0 c1 c2;have c0:=P2.out.c0;go_wp2;go_ret2;exact⟨by simp,F2.out⟩
  ·rw[decide_eq_false hf] at HH;rw[if_neg hf,if_neg hf];clear hf;go_enter Tryz.func61,Tryz.ntmps61;go_wp2_with fail;refine HG.out.mono ?_;rintro e w1 ⟨rfl,_,f1⟩;have F1:=hid f1;have P1:=hid (Hb.new w1 156 xa xr xn);clear f1 HG;have c0:=P1.out.c0;have c1:=P1.out.c1;have c2:=P1.out.c2;go_wp2_with fail;refine(HH.out _).mono ?_;rintro e w2 ⟨rfl,f2⟩;have F2:=hid ((F1.out.alloc _).trans f2);clear f2 HH P1 F1 c0 c1 c2;go_wp2;go_ret2;exact⟨by simp,F2.out⟩
end
theorem sZ{c:Ct}{lo hi r a:Int}(hc:c.can lo hi):(plS c lo hi r a).T=c.T∧(plS c lo hi r a).nx=c.nx+1∧(plS c lo hi r a).L.length=c.L.length+1∧∀x,x∈(plS c lo hi r a).L↔x∈c.L∨x=c.slot lo r a:=by
 have e:plS c lo hi r a=⟨c.T,c.nx+1,c.L.take (scan c.L lo).1++c.slot lo r a::c.L.drop (scan c.L lo).1⟩:=if_pos hc;rw[e];refine⟨rfl,rfl,?_,fun x=> ?_⟩
 ·show(c.L.take (scan c.L lo).1++c.slot lo r a::c.L.drop (scan c.L lo).1).length=_;rw[List.length_append,List.length_cons,List.length_take,List.length_drop];omega
 ·show x∈c.L.take (scan c.L lo).1++c.slot lo r a::c.L.drop (scan c.L lo).1↔_
  rw[List.mem_append,List.mem_cons];constructor
  ·rintro(h|h|h)
   ·exact .inl (List.mem_of_mem_take h)
   ·exact .inr h
   ·exact .inl (List.mem_of_mem_drop h)
  ·rintro(h|h)
   ·rw[←List.take_append_drop (scan c.L lo).1 c.L] at h;rcases List.mem_append.1 h with h|h
    ·exact .inl h
    ·exact .inr (.inr h)
   ·exact .inr (.inl h)
theorem heap_set{w:World}{a:Nat}{cs:Array Value}{t:TypeId}{fr:Nat×Nat}(h:w.heap[a]? =some (.cells cs t fr))(i:Nat)(v:Value):(w.setCell ⟨a,i,none⟩ v).heap[a]? =some (.cells (cs.setIfInBounds i v) t fr):=by
 simp[World.setCell,Array.getElem?_modify,h]
theorem Ce{w:World}{a:Nat}{cs:Array Value}{t:TypeId}{fr:Nat×Nat}(h:w.heap[a]? =some (.cells cs t fr))(i:Nat):w.cell? ⟨a,i,none⟩=cs[i]? :=by simp[World.cell?,h]
def oA(y:Option Sl):Int:=(y.map Sl.a).getD 0
def oR(y:Option Sl):Int:=(y.map Sl.r).getD 0
def oN(y:Option Sl):Int:=(y.map Sl.n).getD 0
section
variable{cs:Array Value}{T nx:Int}{L L':List Sl}{o s:Nat}
theorem Ck.nxt(h:Ck cs T nx L o s)(nx':Int):Ck (cs.setIfInBounds 1 (.int .i64 nx')) T nx' L o s:=by
 refine⟨by rw[Array.size_setIfInBounds];exact h.sz,fun i hi=> ?_⟩;rw[Array.getElem?_setIfInBounds];by_cases e:1=i
 ·subst e;rw[if_pos rfl,if_pos (by rw[h.sz];omega)];rfl
 ·rw[if_neg e,h.at_ i hi];congr 1;unfold ckv;by_cases h4:i<4
  ·rw[if_pos h4,if_pos h4,if_neg (fun e2:i=1=>e e2.symm),if_neg (fun e2:i=1=>e e2.symm)]
  ·rw[if_neg h4,if_neg h4]
theorem Ck.put(h:Ck cs T nx L o s)(k:Nat)(hk:k<4160)(y:Option Sl)(hL:∀q,sAt L' q=if q=(k:Int) then y else sAt L q):Ck (((cs.setIfInBounds (4+k * 3) (.int .i64 (oA y))).setIfInBounds (4+k * 3+1) (.int .i64 (oR y))).setIfInBounds (4+k * 3+2) (.int .i64 (oN y))) T nx L' o s:=by
 have hsz:=h.sz;have hk':sAt L' (k:Int)=y:=by rw[hL,if_pos rfl]
 refine⟨by rw[Array.size_setIfInBounds,Array.size_setIfInBounds,Array.size_setIfInBounds];exact hsz,fun i hi=> ?_⟩;rw[Array.getElem?_setIfInBounds,Array.getElem?_setIfInBounds,Array.getElem?_setIfInBounds,Array.size_setIfInBounds,Array.size_setIfInBounds];by_cases e2:4+k * 3+2=i
 ·subst e2;rw[if_pos rfl,if_pos (by omega),ckv_n];unfold hN;rw[hk'];rfl
 rw[if_neg e2];by_cases e1:4+k * 3+1=i
 ·subst e1;rw[if_pos rfl,if_pos (by omega),ckv_r];unfold hR;rw[hk'];rfl
 rw[if_neg e1];by_cases e0:4+k * 3=i
 ·subst e0;rw[if_pos rfl,if_pos (by omega),ckv_a];unfold hA;rw[hk'];rfl
 rw[if_neg e0,h.at_ i hi];congr 1;unfold ckv;by_cases h4:i<4
 ·rw[if_pos h4,if_pos h4]
 ·have e:sAt L' (((i - 4) / 3:Nat):Int)=sAt L (((i - 4) / 3:Nat):Int):=by rw[hL,if_neg (by omega)]
  unfold hA hR hN;rw[e]
end
section
variable{w w1:World}{a o ob s sb:Nat}{c:Ct}
theorem Kt.fill_o(h:Kt w a o ob s sb c){k:Nat}(hk:k<4096)(f:Fr (fun i=>i=ob) w w1)(hs:Sf.Sh w1 o ob ((tkn c.L 0 4096).set k true)){c':Ct}(hc:c'.Ok)(y:Sl)(ht:c'.T=c.T)(hL:∀q,sAt c'.L q=if q=(k:Int) then some y else sAt c.L q):
  Kt ((((w1.setCell ⟨a,4+k * 3,none⟩ (.int .i64 y.a)).setCell ⟨a,4+k * 3+1,none⟩ (.int .i64 y.r)).setCell ⟨a,4+k * 3+2,none⟩ (.int .i64 y.n)).setCell ⟨a,1,none⟩ (.int .i64 c'.nx)) a o ob s sb c':=by
 obtain⟨⟨n1,n2⟩,⟨n3,n4⟩,⟨n5,n6⟩,n7,n8⟩:=h.ne;have a0:=h.a0;have F:Fr (fun i=>i=a) w1 ((((w1.setCell ⟨a,4+k * 3,none⟩ (.int .i64 y.a)).setCell ⟨a,4+k * 3+1,none⟩ (.int .i64 y.r)).setCell ⟨a,4+k * 3+2,none⟩ (.int .i64 y.n)).setCell ⟨a,1,none⟩ (.int .i64 c'.nx)):=(((Fr.setCell (S:=fun i=>i=a) (Fr.refl _ _) (p:=⟨a,4+k * 3,none⟩) rfl _).setCell (p:=⟨a,4+k * 3+1,none⟩) rfl _).setCell (p:=⟨a,4+k * 3+2,none⟩) rfl _).setCell (p:=⟨a,1,none⟩) rfl _;obtain⟨cs,g1,g2⟩:=h.st;have g1':w1.heap[a]? =some (.cells cs 162 (0,0)):=by rw[f.block a h.lta n2];exact g1
 refine⟨⟨_,heap_set (heap_set (heap_set (heap_set g1' _ _) _ _) _ _) _ _,?_⟩,?_,?_,h.ne,a0,hc⟩
 ·rw[ht];exact(g2.put k (by omega) (some y) hL).nxt c'.nx
 ·have e:tkn c'.L 0 4096=(tkn c.L 0 4096).set k true:=fh _ _ fun i hi=>by
   rw[hL];by_cases e:i=k
   ·rw[if_pos e,if_pos (by omega)];rfl
   ·rw[if_neg e,if_neg (by omega)]
  rw[e];exact hs.carry F (fun e=>n1 e.symm) (fun e=>n2 e.symm) (by omega)
 ·have e:tkn c'.L 4096 64=tkn c.L 4096 64:=fj fun i hi=>by rw[hL,if_neg (by omega)]
  rw[e];exact(h.shs.carry f (fun e=>n7 e.symm) (fun e=>n8 e.symm) (by have:=h.sho.b0;omega)).carry F (fun e=>n3 e.symm) (fun e=>n4 e.symm) (by omega)
theorem Kt.fill_s(h:Kt w a o ob s sb c){k:Nat}(hk:k<64)(f:Fr (fun i=>i=sb) w w1)(hs:Sf.Sh w1 s sb ((tkn c.L 4096 64).set k true)){c':Ct}(hc:c'.Ok)(y:Sl)(ht:c'.T=c.T)(hL:∀q,sAt c'.L q=if q=((4096+k:Nat):Int) then some y else sAt c.L q):
  Kt ((((w1.setCell ⟨a,4+(4096+k) * 3,none⟩ (.int .i64 y.a)).setCell ⟨a,4+(4096+k) * 3+1,none⟩ (.int .i64 y.r)).setCell ⟨a,4+(4096+k) * 3+2,none⟩ (.int .i64 y.n)).setCell ⟨a,1,none⟩ (.int .i64 c'.nx)) a o ob s sb c':=by
 obtain⟨⟨n1,n2⟩,⟨n3,n4⟩,⟨n5,n6⟩,n7,n8⟩:=h.ne;have a0:=h.a0;have F:Fr (fun i=>i=a) w1 ((((w1.setCell ⟨a,4+(4096+k) * 3,none⟩ (.int .i64 y.a)).setCell ⟨a,4+(4096+k) * 3+1,none⟩ (.int .i64 y.r)).setCell ⟨a,4+(4096+k) * 3+2,none⟩ (.int .i64 y.n)).setCell ⟨a,1,none⟩ (.int .i64 c'.nx)):=(((Fr.setCell (S:=fun i=>i=a) (Fr.refl _ _) (p:=⟨a,4+(4096+k) * 3,none⟩) rfl _).setCell (p:=⟨a,4+(4096+k) * 3+1,none⟩) rfl _).setCell (p:=⟨a,4+(4096+k) * 3+2,none⟩) rfl _).setCell (p:=⟨a,1,none⟩) rfl _;obtain⟨cs,g1,g2⟩:=h.st;have g1':w1.heap[a]? =some (.cells cs 162 (0,0)):=by rw[f.block a h.lta n4];exact g1
 refine⟨⟨_,heap_set (heap_set (heap_set (heap_set g1' _ _) _ _) _ _) _ _,?_⟩,?_,?_,h.ne,a0,hc⟩
 ·rw[ht];exact(g2.put (4096+k) (by omega) (some y) hL).nxt c'.nx
 ·have e:tkn c'.L 0 4096=tkn c.L 0 4096:=fj fun i hi=>by rw[hL,if_neg (by omega)]
  rw[e];exact(h.sho.carry f n6 n8 (by have:=h.shs.b0;omega)).carry F (fun e=>n1 e.symm) (fun e=>n2 e.symm) (by omega)
 ·have e:tkn c'.L 4096 64=(tkn c.L 4096 64).set k true:=fh _ _ fun i hi=>by
   rw[hL];by_cases e:i=k
   ·rw[if_pos e,if_pos (by omega)];rfl
   ·rw[if_neg e,if_neg (by omega)]
  rw[e];exact hs.carry F (fun e=>n3 e.symm) (fun e=>n4 e.symm) (by omega)
def wipe(w:World)(a k:Nat):World:=((w.setCell ⟨a,4+k * 3,none⟩ (.int .i64 0)).setCell ⟨a,4+k * 3+1,none⟩ (.int .i64 0)).setCell ⟨a,4+k * 3+2,none⟩ (.int .i64 0)
theorem jD(w:World)(a k:Nat):Fr (fun i=>i=a) w (wipe w a k):=((Fr.setCell (S:=fun i=>i=a) (Fr.refl _ _) (p:=⟨a,4+k * 3,none⟩) rfl _).setCell (p:=⟨a,4+k * 3+1,none⟩) rfl _).setCell (p:=⟨a,4+k * 3+2,none⟩) rfl _
theorem Kt.yF(h:Kt w a o ob s sb c)(k:Nat):Sf.Sh (wipe w a k) o ob (tkn c.L 0 4096):=h.sho.carry (jD w a k) (fun e=>h.ne.1.1 e.symm) (fun e=>h.ne.1.2 e.symm) (by have:=h.a0;omega)
theorem Kt.yE(h:Kt w a o ob s sb c)(k:Nat):Sf.Sh (wipe w a k) s sb (tkn c.L 4096 64):=h.shs.carry (jD w a k) (fun e=>h.ne.2.1.1 e.symm) (fun e=>h.ne.2.1.2 e.symm) (by have:=h.a0;omega)
theorem Kt.yG(h:Kt w a o ob s sb c)(k:Nat):(wipe w a k).cell? ⟨a,2,none⟩=some (.pointer (some ⟨o,0,none⟩))∧(wipe w a k).cell? ⟨a,3,none⟩=some (.pointer (some ⟨s,0,none⟩)):=by
 obtain⟨cs,g1,g2⟩:=h.st;have e:=heap_set (heap_set (heap_set g1 (4+k * 3) (.int .i64 0)) (4+k * 3+1) (.int .i64 0)) (4+k * 3+2) (.int .i64 0);have key:∀i,i<4→(wipe w a k).cell? ⟨a,i,none⟩=cs[i]? :=fun i hi=>by
  show World.cell? (((w.setCell ⟨a,4+k * 3,none⟩ (.int .i64 0)).setCell ⟨a,4+k * 3+1,none⟩ (.int .i64 0)).setCell ⟨a,4+k * 3+2,none⟩ (.int .i64 0)) _=_
  rw[Ce e,Array.getElem?_setIfInBounds_ne (by omega),Array.getElem?_setIfInBounds_ne (by omega),Array.getElem?_setIfInBounds_ne (by omega)]
 exact⟨(key 2 (by omega)).trans (g2.at_ 2 (by omega)),(key 3 (by omega)).trans (g2.at_ 3 (by omega))⟩
theorem zG(h:c.Ok)(k:Int):(Ct.mk c.T c.nx (del c.L k)).Ok:=⟨h.t,h.nx,uR h.srt,fun x hx=>h.kr x (kl.1 hx).1⟩
theorem Kt.gone_o(h:Kt w a o ob s sb c){k:Nat}(hk:k<4096)(f:Fr (fun i=>i=ob) (wipe w a k) w1)(hs:Sf.Sh w1 o ob ((tkn c.L 0 4096).set k false)):Kt w1 a o ob s sb ⟨c.T,c.nx,del c.L k⟩:=by
 have hL:∀q,sAt (del c.L k) q=if q=(k:Int) then none else sAt c.L q:=sO h.ok.srt
 obtain⟨⟨n1,n2⟩,⟨n3,n4⟩,⟨n5,n6⟩,n7,n8⟩:=h.ne;obtain⟨cs,g1,g2⟩:=h.st;have e:=heap_set (heap_set (heap_set g1 (4+k * 3) (.int .i64 0)) (4+k * 3+1) (.int .i64 0)) (4+k * 3+2) (.int .i64 0);refine⟨⟨_,(f.block a (Array.getElem?_eq_some_iff.1 e).1 n2).trans e,g2.put k (by omega) none hL⟩,?_,?_,h.ne,h.a0,zG h.ok _⟩
 ·have e:tkn (del c.L k) 0 4096=(tkn c.L 0 4096).set k false:=fh _ _ fun i hi=>by
   rw[hL];by_cases e:i=k
   ·rw[if_pos e,if_pos (by omega)];rfl
   ·rw[if_neg e,if_neg (by omega)]
  show Sf.Sh _ _ _ (tkn (del c.L k) 0 4096)
  rw[e];exact hs
 ·have e:tkn (del c.L k) 4096 64=tkn c.L 4096 64:=fj fun i hi=>by rw[hL,if_neg (by omega)]
  show Sf.Sh _ _ _ (tkn (del c.L k) 4096 64)
  rw[e];exact(h.yE k).carry f (fun e=>n7 e.symm) (fun e=>n8 e.symm) (by have:=h.sho.b0;omega)
theorem Kt.gone_s(h:Kt w a o ob s sb c){k:Nat}(hk:k<64)(f:Fr (fun i=>i=sb) (wipe w a (4096+k)) w1)(hs:Sf.Sh w1 s sb ((tkn c.L 4096 64).set k false)):Kt w1 a o ob s sb ⟨c.T,c.nx,del c.L ((4096+k:Nat):Int)⟩:=by
 have hL:∀q,sAt (del c.L ((4096+k:Nat):Int)) q=if q=((4096+k:Nat):Int) then none else sAt c.L q:=sO h.ok.srt
 obtain⟨⟨n1,n2⟩,⟨n3,n4⟩,⟨n5,n6⟩,n7,n8⟩:=h.ne;obtain⟨cs,g1,g2⟩:=h.st;have e:=heap_set (heap_set (heap_set g1 (4+(4096+k) * 3) (.int .i64 0)) (4+(4096+k) * 3+1) (.int .i64 0)) (4+(4096+k) * 3+2) (.int .i64 0);refine⟨⟨_,(f.block a (Array.getElem?_eq_some_iff.1 e).1 n4).trans e,g2.put (4096+k) (by omega) none hL⟩,?_,?_,h.ne,h.a0,zG h.ok _⟩
 ·have e:tkn (del c.L ((4096+k:Nat):Int)) 0 4096=tkn c.L 0 4096:=fj fun i hi=>by rw[hL,if_neg (by omega)]
  show Sf.Sh _ _ _ (tkn (del c.L ((4096+k:Nat):Int)) 0 4096)
  rw[e];exact(h.yF (4096+k)).carry f n6 n8 (by have:=h.shs.b0;omega)
 ·have e:tkn (del c.L ((4096+k:Nat):Int)) 4096 64=(tkn c.L 4096 64).set k false:=fh _ _ fun i hi=>by
   rw[hL];by_cases e:i=k
   ·rw[if_pos e,if_pos (by omega)];rfl
   ·rw[if_neg e,if_neg (by omega)]
  show Sf.Sh _ _ _ (tkn (del c.L ((4096+k:Nat):Int)) 4096 64)
  rw[e];exact hs
end
section
variable{w w1:World}{a o ob s sb:Nat}{c:Ct}
theorem Kt.same_o(h:Kt w a o ob s sb c)(f:Fr (fun i=>i=ob) w w1)(hs:Sf.Sh w1 o ob (tkn c.L 0 4096)):Kt w1 a o ob s sb c:=by
 obtain⟨⟨n1,n2⟩,⟨n3,n4⟩,⟨n5,n6⟩,n7,n8⟩:=h.ne;obtain⟨cs,g1,g2⟩:=h.st;exact⟨⟨cs,(f.block a h.lta n2).trans g1,g2⟩,hs,h.shs.carry f (fun e=>n7 e.symm) (fun e=>n8 e.symm) (by have:=h.sho.b0;omega),h.ne,h.a0,h.ok⟩
theorem Kt.same_s(h:Kt w a o ob s sb c)(f:Fr (fun i=>i=sb) w w1)(hs:Sf.Sh w1 s sb (tkn c.L 4096 64)):Kt w1 a o ob s sb c:=by
 obtain⟨⟨n1,n2⟩,⟨n3,n4⟩,⟨n5,n6⟩,n7,n8⟩:=h.ne;obtain⟨cs,g1,g2⟩:=h.st;exact⟨⟨cs,(f.block a h.lta n4).trans g1,g2⟩,h.sho.carry f n6 n8 (by have:=h.shs.b0;omega),hs,h.ne,h.a0,h.ok⟩
theorem Kt.AR(h:Kt w a o ob s sb c){k:Nat}(hk:k<4096)(w1:World)(f:Fr (fun i=>i=ob) w w1):w1.cell? ⟨a,1,none⟩=some (.int .i64 c.nx)∧w1.cell? ⟨a,4+k * 3,none⟩=some (.int .i64 (hA c.L k))∧w1.cell? ⟨a,4+k * 3+1,none⟩=some (.int .i64 (hR c.L k))∧w1.cell? ⟨a,4+k * 3+2,none⟩=some (.int .i64 (hN c.L k))∧∀i,w1.frozen? ⟨a,i,none⟩=false:=by
 have hb:=f.block a h.lta h.ne.1.2;refine⟨(World.cell?_of_block hb).trans h.c1,(World.cell?_of_block hb).trans (h.ca k (by omega)),(World.cell?_of_block hb).trans (h.cr k (by omega)),(World.cell?_of_block hb).trans (h.cn k (by omega)),fun i=> ?_⟩;obtain⟨cs,g1,_⟩:=h.st;rw[g1] at hb;simp[World.frozen?,hb]
theorem Kt.AQ(h:Kt w a o ob s sb c){k:Nat}(hk:k<64)(w1:World)(f:Fr (fun i=>i=sb) w w1):w1.cell? ⟨a,1,none⟩=some (.int .i64 c.nx)∧w1.cell? ⟨a,4+(4096+k) * 3,none⟩=some (.int .i64 (hA c.L ((4096+k:Nat):Int)))∧w1.cell? ⟨a,4+(4096+k) * 3+1,none⟩=some (.int .i64 (hR c.L ((4096+k:Nat):Int)))∧w1.cell? ⟨a,4+(4096+k) * 3+2,none⟩=some (.int .i64 (hN c.L ((4096+k:Nat):Int)))∧∀i,w1.frozen? ⟨a,i,none⟩=false:=by
 have hb:=f.block a h.lta h.ne.2.1.2;refine⟨(World.cell?_of_block hb).trans h.c1,(World.cell?_of_block hb).trans (h.ca (4096+k) (by omega)),(World.cell?_of_block hb).trans (h.cr (4096+k) (by omega)),(World.cell?_of_block hb).trans (h.cn (4096+k) (by omega)),fun i=> ?_⟩;obtain⟨cs,g1,_⟩:=h.st;rw[g1] at hb;simp[World.frozen?,hb]
end
theorem can_o{c:Ct}(hc:c.Ok)(hx:c.nx≠17592186044416):c.can 0 4096↔Sf.low (tkn c.L 0 4096)<4096:=by
 have h:=gj hc.srt 0 4096;have hn:=hc.nx;constructor
 ·intro h2;exact h.1.2 (by have:=h2.1;omega)
 ·intro h2;exact⟨by have:=h.1.1 h2;omega,by omega⟩
theorem xm{w:World}{a o ob s sb:Nat}{c:Ct}(h:Kt w a o ob s sb c)(hT:Hid (Sf.Tab w)){x r:Int}(hx:0≤x)(hr:1≤r∧r≤7):Calls Tryz.prog 92 #[.pointer (some ⟨a,0,none⟩),.pointer (some ⟨o,0,none⟩),.int .i64 0,.int .i64 x,.int .i64 r] w fun e w'=>e=.returned (.tuple #[.int .u64 (plV c 0 4096 r),.int .i64 (plE c 0 4096)])∧Kt w' a o ob s sb (plS c 0 4096 r x)∧Fr (fun i=>i=a∨i=ob) w w':=by
 have HH:=hid h;have c1:=h.c1;by_cases hm:c.nx=17592186044416
 ·have hn:¬c.can 0 4096:=fun h2=>by have:=h2.2;omega
  have e1:plV c 0 4096 r=0:=if_neg hn;have e2:plE c 0 4096=10:=if_neg hn;have e3:plS c 0 4096 r x=c:=if_neg hn;rw[e1,e2,e3];rw[hm] at c1;clear h hm hn e1 e2 e3;go_enter Tryz.func92,Tryz.ntmps92;go_wp2;go_ret2;exact⟨by simp,HH.out,Fr.refl _ _⟩
 have HT:=hid (Sf.yR h.sho hT.out);have hcan:=can_o h.ok hm;have htl:=aD c.L 0 4096;have hnx:=h.ok.nx;by_cases hlo:Sf.low (tkn c.L 0 4096)<4096
 case neg=>
  have hn:¬c.can 0 4096:=fun h2=>hlo (hcan.1 h2)
  have e1:plV c 0 4096 r=0:=if_neg hn;have e2:plE c 0 4096=10:=if_neg hn;have e3:plS c 0 4096 r x=c:=if_neg hn;have t1:Sf.takE (tkn c.L 0 4096)=13:=by unfold Sf.takE;rw[htl,if_neg hlo]
  have t2:Sf.takS (tkn c.L 0 4096)=tkn c.L 0 4096:=by unfold Sf.takS;rw[htl,if_neg hlo]
  rw[e1,e2,e3];rw[t1,t2] at HT;generalize Sf.takV (tkn c.L 0 4096)=tv at *;clear h hn e1 e2 e3 t1 t2 hlo hcan htl;generalize hnn:c.nx=nx at c1 hm;clear hnn;go_enter Tryz.func92,Tryz.ntmps92;go_wp2_with fail;refine HT.out.mono ?_;rintro e w1 ⟨rfl,h1,f1⟩;have H1:=hid (HH.out.same_o f1 h1);have F1:=hid (f1.mono (S':=fun i=>i=a∨i=ob) fun i _ e=>Or.inr e);clear h1 f1 HT;go_wp2;go_ret2;exact⟨by simp,H1.out,F1.out⟩
 have hyes:=hcan.2 hlo;have e2:plE c 0 4096=0:=if_pos hyes;have e1:plV c 0 4096 r=(c.slot 0 r 0).bits c.T:=if_pos hyes;have hsc:=(gj h.ok.srt 0 4096).2 hlo;have t0:Sf.takV (tkn c.L 0 4096)=(Sf.low (tkn c.L 0 4096):Int):=by unfold Sf.takV;rw[htl,if_pos hlo]
 have t1:Sf.takE (tkn c.L 0 4096)=0:=by unfold Sf.takE;rw[htl,if_pos hlo]
 have t2:Sf.takS (tkn c.L 0 4096)=(tkn c.L 0 4096).set (Sf.low (tkn c.L 0 4096)) true:=by unfold Sf.takS;rw[htl,if_pos hlo]
 rw[t0,t1,t2] at HT;generalize Sf.low (tkn c.L 0 4096)=k at *;have hok:=yX (lo:=0) (hi:=4096) (r:=r) (a:=x) h.ok (by omega) (by omega) hr hx;obtain⟨p1,p2,_,p4⟩:=sZ (lo:=0) (hi:=4096) (r:=r) (a:=x) hyes;have hsl:c.slot 0 r x=⟨((k:Nat):Int),r,c.nx,x⟩:=by unfold Ct.slot;rw[hsc];congr 1<;>omega
 rw[hsl] at p4;have hL:=sN hok.srt p4;have e1':(c.slot 0 r 0).bits c.T=pkB c.T ((k:Nat):Int) r c.nx:=by
  show pkB c.T (scan c.L 0).2 r c.nx=_
  rw[hsc];congr 1<;>omega
 have hkr:KR c.T ((k:Nat):Int) r c.nx:=by have:=h.ok.t;unfold KR;omega
 rw[e2,e1,e1'];generalize hcc:plS c 0 4096 r x=c' at *;have HF:=hid fun(w1:World) (f:Fr (fun i=>i=ob) w w1) (hs:Sf.Sh w1 o ob ((tkn c.L 0 4096).set k true))=>HH.out.fill_o hlo f hs hok ⟨((k:Nat):Int),r,c.nx,x⟩ p1 hL
 rw[p2] at HF;dsimp only at HF;have HV:Hid (hR c'.L ((k:Nat):Int)=r∧hN c'.L ((k:Nat):Int)=c.nx∧c'.T=c.T):=by
  refine⟨?_,?_,p1⟩
  ·unfold hR;rw[hL,if_pos rfl];rfl
  ·unfold hN;rw[hL,if_pos rfl];rfl
 clear hL p1 p2 p4 hsl e1 e1' e2 t0 t1 t2 hsc hyes hcan hok hcc htl hx h;have HPK:=hid fun w=>zy c.T ((k:Nat):Int) r c.nx w
 rw[ib hkr] at HPK;have HMV:=hid (HH.out.AR (k:=k) hlo);clear hkr hr;generalize pkB c.T ((k:Nat):Int) r c.nx=pv at *;go_enter Tryz.func92,Tryz.ntmps92;go_wp2_with fail;refine HT.out.mono ?_;rintro e w1 ⟨rfl,h1,f1⟩;have H1:=hid (HF.out w1 f1 h1);have F1:=hid (f1.mono (S':=fun i=>i=a∨i=ob) fun i _ e=>Or.inr e);obtain⟨d1,d2,d3,d4,g⟩:=HMV.out w1 f1;clear h1 f1 HT HF HMV c1;go_wp2_with fail;go_region;go_wp2_with fail;have HKE:=hid (Bw (H1.out.kept (Fr.refl _ _).drew) k (by omega));rw[HV.out.1,HV.out.2.1,HV.out.2.2] at HKE;refine HKE.out.mono ?_;rintro e w2 ⟨rfl,f2⟩;have H2:=hid ((H1.out.kept (Fr.refl _ _).drew).kept f2);have F2:=hid (((((((F1.out.setCell (p:=⟨a,4+k * 3,none⟩) (Or.inl rfl) _).setCell (p:=⟨a,4+k * 3+1,none⟩) (Or.inl rfl) _).setCell (p:=⟨a,4+k * 3+2,none⟩) (Or.inl rfl) _).setCell (p:=⟨a,1,none⟩) (Or.inl rfl) _).drew).trans (f2.mono fun _ _ e=>e.elim)));clear f2 H1 F1 HKE HV;go_wp2_with fail;refine(HPK.out _).mono ?_;rintro e w3 ⟨rfl,f3⟩;have H3:=hid (H2.out.kept f3);have F3:=hid (F2.out.trans (f3.mono fun _ _ e=>e.elim));clear f3 H2 F2 HPK;go_wp2;go_ret2;exact⟨by simp,H3.out,F3.out⟩
theorem can_s{c:Ct}(hc:c.Ok)(hx:c.nx≠17592186044416):c.can 4096 4160↔Sf.low (tkn c.L 4096 64)<64:=by
 have h:=gj hc.srt 4096 64;have hn:=hc.nx;constructor
 ·intro h2;exact h.1.2 (by have:=h2.1;omega)
 ·intro h2;exact⟨by have:=h.1.1 h2;omega,by omega⟩
theorem xl{w:World}{a o ob s sb:Nat}{c:Ct}(h:Kt w a o ob s sb c)(hT:Hid (Sf.Tab w)){x r:Int}(hx:0≤x)(hr:1≤r∧r≤7):Calls Tryz.prog 92 #[.pointer (some ⟨a,0,none⟩),.pointer (some ⟨s,0,none⟩),.int .i64 4096,.int .i64 x,.int .i64 r] w fun e w'=>e=.returned (.tuple #[.int .u64 (plV c 4096 4160 r),.int .i64 (plE c 4096 4160)])∧Kt w' a o ob s sb (plS c 4096 4160 r x)∧Fr (fun i=>i=a∨i=sb) w w':=by
 have HH:=hid h;have c1:=h.c1;by_cases hm:c.nx=17592186044416
 ·have hn:¬c.can 4096 4160:=fun h2=>by have:=h2.2;omega
  have e1:plV c 4096 4160 r=0:=if_neg hn;have e2:plE c 4096 4160=10:=if_neg hn;have e3:plS c 4096 4160 r x=c:=if_neg hn;rw[e1,e2,e3];rw[hm] at c1;clear h hm hn e1 e2 e3;go_enter Tryz.func92,Tryz.ntmps92;go_wp2;go_ret2;exact⟨by simp,HH.out,Fr.refl _ _⟩
 have HT:=hid (Sf.yR h.shs hT.out);have hcan:=can_s h.ok hm;have htl:=aD c.L 4096 64;have hnx:=h.ok.nx;by_cases hlo:Sf.low (tkn c.L 4096 64)<64
 case neg=>
  have hn:¬c.can 4096 4160:=fun h2=>hlo (hcan.1 h2)
  have e1:plV c 4096 4160 r=0:=if_neg hn;have e2:plE c 4096 4160=10:=if_neg hn;have e3:plS c 4096 4160 r x=c:=if_neg hn;have t1:Sf.takE (tkn c.L 4096 64)=13:=by unfold Sf.takE;rw[htl,if_neg hlo]
  have t2:Sf.takS (tkn c.L 4096 64)=tkn c.L 4096 64:=by unfold Sf.takS;rw[htl,if_neg hlo]
  rw[e1,e2,e3];rw[t1,t2] at HT;generalize Sf.takV (tkn c.L 4096 64)=tv at *;clear h hn e1 e2 e3 t1 t2 hlo hcan htl;generalize hnn:c.nx=nx at c1 hm;clear hnn;go_enter Tryz.func92,Tryz.ntmps92;go_wp2_with fail;refine HT.out.mono ?_;rintro e w1 ⟨rfl,h1,f1⟩;have H1:=hid (HH.out.same_s f1 h1);have F1:=hid (f1.mono (S':=fun i=>i=a∨i=sb) fun i _ e=>Or.inr e);clear h1 f1 HT;go_wp2;go_ret2;exact⟨by simp,H1.out,F1.out⟩
 have hyes:=hcan.2 hlo;have e2:plE c 4096 4160=0:=if_pos hyes;have e1:plV c 4096 4160 r=(c.slot 4096 r 0).bits c.T:=if_pos hyes;have hsc:=(gj h.ok.srt 4096 64).2 hlo;have t0:Sf.takV (tkn c.L 4096 64)=(Sf.low (tkn c.L 4096 64):Int):=by unfold Sf.takV;rw[htl,if_pos hlo]
 have t1:Sf.takE (tkn c.L 4096 64)=0:=by unfold Sf.takE;rw[htl,if_pos hlo]
 have t2:Sf.takS (tkn c.L 4096 64)=(tkn c.L 4096 64).set (Sf.low (tkn c.L 4096 64)) true:=by unfold Sf.takS;rw[htl,if_pos hlo]
 rw[t0,t1,t2] at HT;generalize Sf.low (tkn c.L 4096 64)=k at *;have hok:=yX (lo:=4096) (hi:=4160) (r:=r) (a:=x) h.ok (by omega) (by omega) hr hx;obtain⟨p1,p2,_,p4⟩:=sZ (lo:=4096) (hi:=4160) (r:=r) (a:=x) hyes;have hsl:c.slot 4096 r x=⟨((4096+k:Nat):Int),r,c.nx,x⟩:=by unfold Ct.slot;rw[hsc];congr 1<;>omega
 rw[hsl] at p4;have hL:=sN hok.srt p4;have e1':(c.slot 4096 r 0).bits c.T=pkB c.T ((4096+k:Nat):Int) r c.nx:=by
  show pkB c.T (scan c.L 4096).2 r c.nx=_
  rw[hsc];congr 1<;>omega
 have hkr:KR c.T ((4096+k:Nat):Int) r c.nx:=by have:=h.ok.t;unfold KR;omega
 rw[e2,e1,e1'];generalize hcc:plS c 4096 4160 r x=c' at *;have HF:=hid fun(w1:World) (f:Fr (fun i=>i=sb) w w1) (hs:Sf.Sh w1 s sb ((tkn c.L 4096 64).set k true))=>HH.out.fill_s hlo f hs hok ⟨((4096+k:Nat):Int),r,c.nx,x⟩ p1 hL
 rw[p2] at HF;dsimp only at HF;have HV:Hid (hR c'.L ((4096+k:Nat):Int)=r∧hN c'.L ((4096+k:Nat):Int)=c.nx∧c'.T=c.T):=by
  refine⟨?_,?_,p1⟩
  ·unfold hR;rw[hL,if_pos rfl];rfl
  ·unfold hN;rw[hL,if_pos rfl];rfl
 clear hL p1 p2 p4 hsl e1 e1' e2 t0 t1 t2 hsc hyes hcan hok hcc htl hx h;have HPK:=hid fun w=>zy c.T ((4096+k:Nat):Int) r c.nx w
 rw[ib hkr] at HPK;have HMV:=hid (HH.out.AQ (k:=k) hlo);clear hkr hr;generalize pkB c.T ((4096+k:Nat):Int) r c.nx=pv at *;go_enter Tryz.func92,Tryz.ntmps92;go_wp2_with fail;refine HT.out.mono ?_;rintro e w1 ⟨rfl,h1,f1⟩;have H1:=hid (HF.out w1 f1 h1);have F1:=hid (f1.mono (S':=fun i=>i=a∨i=sb) fun i _ e=>Or.inr e);obtain⟨d1,d2,d3,d4,g⟩:=HMV.out w1 f1;clear h1 f1 HT HF HMV c1;go_wp2_with fail;go_region;go_wp2_with fail;have HKE:=hid (Bw (H1.out.kept (Fr.refl _ _).drew) (4096+k) (by omega));rw[HV.out.1,HV.out.2.1,HV.out.2.2] at HKE;refine HKE.out.mono ?_;rintro e w2 ⟨rfl,f2⟩;have H2:=hid ((H1.out.kept (Fr.refl _ _).drew).kept f2);have F2:=hid (((((((F1.out.setCell (p:=⟨a,4+(4096+k) * 3,none⟩) (Or.inl rfl) _).setCell (p:=⟨a,4+(4096+k) * 3+1,none⟩) (Or.inl rfl) _).setCell (p:=⟨a,4+(4096+k) * 3+2,none⟩) (Or.inl rfl) _).setCell (p:=⟨a,1,none⟩) (Or.inl rfl) _).drew).trans (f2.mono fun _ _ e=>e.elim)));clear f2 H1 F1 HKE HV;go_wp2_with fail;refine(HPK.out _).mono ?_;rintro e w3 ⟨rfl,f3⟩;have H3:=hid (H2.out.kept f3);have F3:=hid (F2.out.trans (f3.mono fun _ _ e=>e.elim));clear f3 H2 F2 HPK;go_wp2;go_ret2;exact⟨by simp,H3.out,F3.out⟩
end Go.Proofs.YtndhbnhobhkmaaaGreatDoor.Ka
