/-
  What the calls of package caps do: Grant, Restrict.
  What the calls of package caps do: next, free, Revoke.
  What the calls of package caps do: free, Revoke.
  What the calls of package caps do: Revoke.
  Shelves that are made: New, Copy. And a shelf that is none.
  What the calls of package caps do: New, Copy.
-/
import Derived.Test.YtndhbnhobhkmaaaGreatDoorKaGive
import Derived.Deep.WholeRow
import Derived.Great.BuildSlice
set_option maxRecDepth 20000
set_option maxHeartbeats 2000000
namespace Go.Proofs.YtndhbnhobhkmaaaGreatDoor.Ka
open Go.RowKit
section
variable{w:World}{a o ob s sb:Nat}{c:Ct}
theorem Bm(h:Kt w a o ob s sb c)(hT:Hid (Sf.Tab w))(x:Int):Calls Tryz.prog 89 #[.pointer (some ⟨a,0,none⟩),.int .i64 x] w fun e w'=>e=.returned (.tuple #[.int .u64 (grV c x),.int .i64 (grE c x)])∧Kt w' a o ob s sb (grS c x)∧Fr (fun i=>i=a∨i=ob) w w':=by
 have HH:=hid h;by_cases hx:x<0
 ·have e1:grV c x=0:=if_pos hx;have e2:grE c x=12:=if_pos hx;have e3:grS c x=c:=if_pos hx;rw[e1,e2,e3];clear h e1 e2 e3;go_enter Tryz.func89,Tryz.ntmps89;go_wp2;go_ret2;exact⟨by simp,HH.out,Fr.refl _ _⟩
 ·have HG:=hid (xp h hT (x:=x) (r:=7) (by omega) (by omega));have e1:grV c x=plV c 0 4096 7:=if_neg hx;have e2:grE c x=plE c 0 4096:=if_neg hx;have e3:grS c x=plS c 0 4096 7 x:=if_neg hx;rw[e1,e2,e3];have c2:=h.c2;clear h e1 e2 e3 HH;generalize plV c 0 4096 7=v at *;generalize plE c 0 4096=q at *;generalize plS c 0 4096 7 x=c' at *;go_enter Tryz.func89,Tryz.ntmps89;go_wp2_with fail;refine HG.out.mono ?_;rintro e w1 ⟨rfl,h1,f1⟩;have H1:=hid (And.intro h1 f1);clear h1 f1 HG;go_wp2;go_ret2;exact⟨by simp,H1.out⟩
theorem qX(h:Kt w a o ob s sb c)(hT:Hid (Sf.Tab w)){b:Int}(b0:0≤b)(b1:b≤18446744073709551615)(q:Int):Calls Tryz.prog 53 #[.pointer (some ⟨a,0,none⟩),.int .u64 b,.int .i64 q] w fun e w'=>e=.returned (.tuple #[.int .u64 (reV c b q),.int .i64 (reE c b q)])∧Kt w' a o ob s sb (reS c b q)∧Fr (fun i=>i=a∨i=sb) w w':=by
 have HG:=hid (h.good b0 b1);have HH:=hid h;cases hl:look c b with
 |none=>
  have e1:reV c b q=0:=by unfold reV;rw[hl]
  have e2:reE c b q=5:=by unfold reE;rw[hl]
  have e3:reS c b q=c:=by unfold reS;rw[hl]
  obtain⟨g1,g2,g3,g4⟩:=kB hl;rw[g1,g2,g3,g4] at HG;rw[e1,e2,e3];clear h g1 g2 g3 g4 e1 e2 e3 hl b0 b1;go_enter Tryz.func53,Tryz.ntmps53;go_wp2_with fail;refine HG.out.mono ?_;rintro e w1 ⟨rfl,h1,f1⟩;have F1:=hid f1;have H1:=hid h1;clear f1 h1 HG HH;go_wp2;go_ret2;exact⟨by simp,H1.out.kept ((Fr.refl _ _).alloc _),(F1.out.alloc _).mono fun _ _ e=>e.elim⟩
 |some x=>
  have hx:=h.ok.kr x (bR hl).1;obtain⟨g1,g2,g3,g4⟩:=uG hl;rw[g1,g2,g3,g4] at HG;have hxr:1≤x.r∧x.r≤7:=by have:=hx.1;unfold KR at this;omega
  by_cases hq:1≤q∧q≤7
  case neg=>
   have e1:reV c b q=0:=by unfold reV;rw[hl];exact if_neg hq
   have e2:reE c b q=2:=by unfold reE;rw[hl];exact if_neg hq
   have e3:reS c b q=c:=by unfold reS;rw[hl];exact if_neg hq
   rw[e1,e2,e3];clear h g1 g2 g3 g4 e1 e2 e3 hl b0 b1 hx hxr;obtain⟨xs,xr,xn,xa⟩:=x;dsimp only at HG;have hq2:q<1∨(¬q<1∧7<q):=by omega
   clear hq;rcases hq2 with hq|⟨hq,hq2⟩
   all_goals
    go_enter Tryz.func53,Tryz.ntmps53;go_wp2_with fail;refine HG.out.mono ?_;rintro e w1 ⟨rfl,h1,f1⟩;have F1:=hid f1;have H1:=hid h1;clear f1 h1 HG HH;go_wp2;go_ret2;exact⟨by simp,H1.out.kept ((Fr.refl _ _).alloc _),(F1.out.alloc _).mono fun _ _ e=>e.elim⟩
  have HS:=hid fun w=>k_has x.a x.r x.n q w
  rw[jw hxr (by omega),show decide ((0≤q∧q≤7)∧sub x.r q=true)=sub x.r q by
   cases hs:sub x.r q
   ·exact decide_eq_false fun h=>by cases h.2
   ·exact decide_eq_true ⟨by omega,rfl⟩] at HS
  have hq1:¬q<1:=by omega
  have hq2:¬7<q:=by omega
  cases hs:sub x.r q with
  |false=>
   have e1:reV c b q=0:=by unfold reV;rw[hl];show(if 1≤q∧q≤7 then(if sub x.r q=true then _ else _) else _)=_;rw[if_pos hq,hs];rfl
   have e2:reE c b q=5:=by unfold reE;rw[hl];show(if 1≤q∧q≤7 then(if sub x.r q=true then _ else _) else _)=_;rw[if_pos hq,hs];rfl
   have e3:reS c b q=c:=by unfold reS;rw[hl];show(if 1≤q∧q≤7 then(if sub x.r q=true then _ else _) else _)=_;rw[if_pos hq,hs];rfl
   rw[e1,e2,e3];rw[hs] at HS;clear h g1 g2 g3 g4 e1 e2 e3 hl b0 b1 hx hxr hs hq;obtain⟨xs,xr,xn,xa⟩:=x;dsimp only at HG HS;go_enter Tryz.func53,Tryz.ntmps53;go_wp2_with fail;refine HG.out.mono ?_;rintro e w1 ⟨rfl,h1,f1⟩;have F1:=hid f1;have P1:=hid (Hb.new w1 156 xa xr xn);have H1:=hid (h1.kept ((Fr.refl _ _).alloc (.cells #[.int .i64 xa,.int .i64 xr,.int .i64 xn] 156)));clear f1 HG h1 HH;have c0:=P1.out.c0;have c1:=P1.out.c1;have c2:=P1.out.c2;go_wp2_with fail;refine(HS.out _).mono ?_;rintro e w2 ⟨rfl,f2⟩;have H2:=hid (H1.out.kept f2);have F2:=hid ((F1.out.alloc _).trans f2);clear f2 HS P1 F1 H1 c0 c1 c2;go_wp2;go_ret2;exact⟨by simp,H2.out,F2.out.mono fun _ _ e=>e.elim⟩
  |true=>
   have e1:reV c b q=plV c 4096 4160 q:=by unfold reV;rw[hl];show(if 1≤q∧q≤7 then(if sub x.r q=true then _ else _) else _)=_;rw[if_pos hq,hs];rfl
   have e2:reE c b q=plE c 4096 4160:=by unfold reE;rw[hl];show(if 1≤q∧q≤7 then(if sub x.r q=true then _ else _) else _)=_;rw[if_pos hq,hs];rfl
   have e3:reS c b q=plS c 4096 4160 q x.a:=by unfold reS;rw[hl];show(if 1≤q∧q≤7 then(if sub x.r q=true then _ else _) else _)=_;rw[if_pos hq,hs];rfl
   rw[e1,e2,e3];rw[hs] at HS;have HV:=hid fun(w0:World) (h0:Kt w0 a o ob s sb c) (f0:Fr (fun _=>False) w w0)=>xm h0 (hid (hT.out.carry f0 id)) (x:=x.a) (r:=q) hx.2.2 hq
   clear h g1 g2 g3 g4 e1 e2 e3 hl b0 b1 hx hxr hs hq;generalize plV c 4096 4160 q=v at *;generalize plE c 4096 4160=ee at *;obtain⟨xs,xr,xn,xa⟩:=x;dsimp only at HG HS HV ⊢;generalize plS c 4096 4160 q xa=c' at *;go_enter Tryz.func53,Tryz.ntmps53;go_wp2_with fail;refine HG.out.mono ?_;rintro e w1 ⟨rfl,h1,f1⟩;have HBn:Hid (¬(w1.heap.size=a∨w1.heap.size=sb)):=fun e=>by have:=h1.lta;have:=h1.shs.ltb;omega
   have F1:=hid f1;have P1:=hid (Hb.new w1 156 xa xr xn);have H1:=hid (h1.kept ((Fr.refl _ _).alloc (.cells #[.int .i64 xa,.int .i64 xr,.int .i64 xn] 156)));clear f1 HG h1 HH;have c0:=P1.out.c0;have c1:=P1.out.c1;have c2:=P1.out.c2;go_wp2_with fail;refine(HS.out _).mono ?_;rintro e w2 ⟨rfl,f2⟩;have H2:=hid (H1.out.kept f2);have F2:=hid ((F1.out.alloc _).trans f2);have P2:=hid (P1.out.carry f2 id);clear f2 HS P1 F1 H1 c0 c1 c2;have c0:=P2.out.c0;have c3:=H2.out.c3;go_wp2_with fail;generalize w1.heap.size=B at *;go_region_held3 (fun w'=>w'.cell? ⟨B,0,none⟩=some (.int .i64 xa)∧w'.cell? ⟨a,3,none⟩=some (.pointer (some ⟨s,0,none⟩))) (first|exact⟨by assumption,by assumption⟩|go_keep) (first|(go_at_call 92;refine(HV.out _ (H2.out.kept (Fr.refl _ _).drew) F2.out.drew).mono ?_;rintro e w3 ⟨rfl,h3,f3⟩;have H3:=hid h3;have c33:=h3.c3;have c03:=((P2.out.carry (Fr.refl (fun _=>False) _).drew id).carry f3 HBn.out).c0;have F3:=hid (((F2.out.drew).mono (S':=fun i=>i=a∨i=sb) fun _ _ e=>e.elim).trans f3);clear h3 f3));go_wp2;go_ret2;exact⟨by simp,H3.out,F3.out⟩
end
section
variable{w:World}{a o ob s sb:Nat}{c:Ct}
theorem is_of(hc:c.Ok)(x k:Int):(0<hN c.L k∧hA c.L k=x)↔Is c.L x k:=by
 unfold hN hA Is;cases hs:sAt c.L k with
 |none=>simp
 |some y=>
  have:=(hc.kr y (cJ hs).1).1;unfold KR at this;simp;omega
theorem zl(h:Kt w a o ob s sb c)(x:Int)(p:Nat)(hp:p≤4160):Calls Tryz.prog 121 #[.pointer (some ⟨a,0,none⟩),.int .i64 x,.int .i64 p] w fun e w'=>∃q:Nat,e=.returned (.int .i64 q)∧(p≤q∧q≤4160)∧(∀i:Nat,p≤i→i<q→¬Is c.L x i)∧(q<4160→Is c.L x q)∧Fr (fun _=>False) w w':=by
 have HS:=hid h;clear h;go_enter Tryz.func121,Tryz.ntmps121;go_wp2;refine wp_scope_jumps 0 (fun a' w'=>Fr (fun _=>False) w w'∧∃(j:Nat) (u7 u8 u9 u10 u11 u12 u13 u14 u15 u16 u17 u18 u19 u20 u21 u22 u23:Value),a'={ tmps:=#[.pointer (some ⟨a,0,none⟩),.int .i64 x,.int .i64 j,undef,undef,undef,.int .i64 0,u7,u8,u9,u10,u11,u12,u13,u14,u15,u16,u17,u18,u19,u20,u21,u22,u23],defers:=[] }∧(p≤j∧j≤4160)∧Hid (∀i:Nat,p≤i→i<j→¬Is c.L x i)) (fun a' _=>4160 - (intOf (a'.tmps.getD 2 undef)).toNat) rfl ?first ?pass
 case first=>
  have HF:=hid (Fr.refl (fun _=>False) w);by_cases hlt:p<4160
  ·have ca:=HS.out.ca p hlt;have cr:=HS.out.cr p hlt;have cn:=HS.out.cn p hlt;have HO:=hid fun w=>k_of (hA c.L (p:Int)) (hR c.L (p:Int)) (hN c.L (p:Int)) x w
   have hio:=is_of HS.out.ok x (p:Int);by_cases hi:Is c.L x (p:Int)
   ·rw[decide_eq_true (hio.2 hi)] at HO;have HI:=hid hi;clear hi hio;generalize hA c.L (p:Int)=xa at *;generalize hR c.L (p:Int)=xr at *;generalize hN c.L (p:Int)=xn at *;go_wp2_with fail;go_step3;go_wp2_with fail;refine(HO.out _).mono ?_;rintro e w2 ⟨rfl,f2⟩;have F2:=hid (HF.out.trans f2);clear f2;go_wp2;rw[ao];go_ret;exact⟨p,by simp,⟨by omega,by omega⟩,fun i h1 h2=>by omega,fun _=>HI.out,F2.out⟩
   ·rw[decide_eq_false fun h=>hi (hio.1 h)] at HO;have HN2:Hid (∀i:Nat,p≤i→i<p+1→¬Is c.L x i):=fun i h1 h2=>by
     by_cases e:i=p
     ·subst e;exact hi
     ·exact by omega
    clear hi hio;generalize hA c.L (p:Int)=xa at *;generalize hR c.L (p:Int)=xr at *;generalize hN c.L (p:Int)=xn at *;go_wp2_with fail;go_step3;go_wp2_with fail;refine(HO.out _).mono ?_;rintro e w2 ⟨rfl,f2⟩;have F2:=hid (HF.out.trans f2);clear f2;go_wp2;go_step3;exact⟨rfl,F2.out,p+1,_,_,_,_,_,_,_,_,_,_,_,_,_,_,_,_,_,by go_num,⟨by omega,by omega⟩,HN2⟩
  ·go_wp2_with fail;go_step3;go_wp2;rw[ao];go_ret;exact⟨p,by simp,⟨by omega,by omega⟩,fun i h1 h2=>by omega,fun h=>by omega,HF.out⟩
 case pass=>
  rintro a' w' ⟨hf,j,u7,u8,u9,u10,u11,u12,u13,u14,u15,u16,u17,u18,u19,u20,u21,u22,u23,rfl,hj,HN⟩;have HF:=hid hf;have HS:=hid (HS.out.kept hf);clear hf;by_cases hlt:j<4160
  ·have ca:=HS.out.ca j hlt;have cr:=HS.out.cr j hlt;have cn:=HS.out.cn j hlt;have HO:=hid fun w=>k_of (hA c.L (j:Int)) (hR c.L (j:Int)) (hN c.L (j:Int)) x w
   have hio:=is_of HS.out.ok x (j:Int);by_cases hi:Is c.L x (j:Int)
   ·rw[decide_eq_true (hio.2 hi)] at HO;have HI:=hid hi;clear hi hio;generalize hA c.L (j:Int)=xa at *;generalize hR c.L (j:Int)=xr at *;generalize hN c.L (j:Int)=xn at *;go_wp2_with fail;refine(HO.out _).mono ?_;rintro e w2 ⟨rfl,f2⟩;have F2:=hid (HF.out.trans f2);clear f2;go_wp2;rw[ao];go_ret;exact⟨j,by simp,⟨by omega,by omega⟩,HN.out,fun _=>HI.out,F2.out⟩
   ·rw[decide_eq_false fun h=>hi (hio.1 h)] at HO;have HN2:Hid (∀i:Nat,p≤i→i<j+1→¬Is c.L x i):=fun i h1 h2=>by
     by_cases e:i=j
     ·subst e;exact hi
     ·exact HN.out i h1 (by omega)
    clear hi hio;generalize hA c.L (j:Int)=xa at *;generalize hR c.L (j:Int)=xr at *;generalize hN c.L (j:Int)=xn at *;go_wp2_with fail;refine(HO.out _).mono ?_;rintro e w2 ⟨rfl,f2⟩;have F2:=hid (HF.out.trans f2);clear f2;go_wp2;go_step3;exact⟨rfl,⟨F2.out,j+1,_,_,_,_,_,_,_,_,_,_,_,_,_,_,_,_,_,by go_num,⟨by omega,by omega⟩,HN2⟩,by simp[intOf];omega⟩
  ·go_wp2_with fail;go_wp2;rw[ao];go_ret;exact⟨j,by simp,⟨by omega,by omega⟩,HN.out,fun h=>by omega,HF.out⟩
end
section
variable{w:World}{a o ob s sb:Nat}{c:Ct}
theorem qe(l:List Bool)(k:Nat)(hk:k<l.length):Sf.giS l (k:Int)=l.set k false:=by
 unfold Sf.giS;rw[if_pos (by simp[Sf.hasN,hk])];rfl
theorem k_free(h:Kt w a o ob s sb c)(k:Nat)(hk:k<4160):Calls Tryz.prog 122 #[.pointer (some ⟨a,0,none⟩),.int .i64 k] w fun e w'=>e=.returned (.tuple #[])∧Kt w' a o ob s sb ⟨c.T,c.nx,del c.L k⟩∧Fr (fun i=>i=a∨i=ob∨i=sb) w w':=by
 have ca:=h.ca k hk;have cr:=h.cr k hk;have cn:=h.cn k hk;have g:=fun i=>h.fz i
 by_cases hlt:k<4096
 ·have HG:=hid (Sf.lA (h.yB k) (k:Int));rw[qe _ k (by rw[aD];exact hlt)] at HG;have c2:=(h.yC k).1;have HH:=hid h;clear h;generalize hA c.L k=xa at *;generalize hR c.L k=xr at *;generalize hN c.L k=xn at *;generalize Sf.giE (tkn c.L 0 4096) k=ee at *;unfold wipe at c2;have HF:=hid fun(w1:World) (f:Fr (fun i=>i=ob) (wipe w a k) w1) hs=>HH.out.gone_o hlt f hs
  have HFR:=hid ((jA w a k).mono (S':=fun i=>i=a∨i=ob∨i=sb) fun _ _ e=>Or.inl e);unfold wipe at HG HF HFR;go_enter Tryz.func122,Tryz.ntmps122;go_wp2_with fail;refine HG.out.mono ?_;rintro e w1 ⟨rfl,h1,f1⟩;have H1:=hid (HF.out w1 f1 h1);have F1:=hid (HFR.out.trans (f1.mono fun _ _ e=>Or.inr (Or.inl e)));clear h1 f1 HG HF HFR;go_wp2;go_end0;exact⟨rfl,H1.out,F1.out⟩
 ·obtain⟨j,hkj⟩:∃j,k=4096+j:=⟨k - 4096,by omega⟩;have hj:j<64:=by omega
  have hsub:(k:Int) - 4096=(j:Int):=by omega
  have HG:=hid (Sf.lA (h.yA k) (j:Int));rw[qe _ j (by rw[aD];exact hj)] at HG;have c3:=(h.yC k).2;have HH:=hid h;clear h;generalize hA c.L k=xa at *;generalize hR c.L k=xr at *;generalize hN c.L k=xn at *;generalize Sf.giE (tkn c.L 4096 64) j=ee at *;unfold wipe at c3;have HF:=hid fun(w1:World) (f:Fr (fun i=>i=sb) (wipe w a k) w1) (hs:Sf.Sh w1 s sb ((tkn c.L 4096 64).set j false))=>(show Kt w1 a o ob s sb ⟨c.T,c.nx,del c.L k⟩ by subst hkj;exact HH.out.gone_s hj f hs)
  have HFR:=hid ((jA w a k).mono (S':=fun i=>i=a∨i=ob∨i=sb) fun _ _ e=>Or.inl e);unfold wipe at HG HF HFR;clear hkj;go_enter Tryz.func122,Tryz.ntmps122;go_wp2_with fail;refine HG.out.mono ?_;rintro e w1 ⟨rfl,h1,f1⟩;have H1:=hid (HF.out w1 f1 h1);have F1:=hid (HFR.out.trans (f1.mono fun _ _ e=>Or.inr (Or.inr e)));clear h1 f1 HG HF HFR;go_wp2;go_end0;exact⟨rfl,H1.out,F1.out⟩
end
structure Rv(w wr:World)(a o ob s sb:Nat)(c:Ct)(x:Int)(q m:Nat):Prop where
 le:q≤4160
 k:Kt wr a o ob s sb ⟨c.T,c.nx,cut c.L x q⟩
 is:q<4160→Is (cut c.L x q) x q
 n:m+(cut c.L x q).length=c.L.length
 f:Fr (fun i=>i=a∨i=ob∨i=sb) w wr
section
variable{w wr w1 w2:World}{a o ob s sb:Nat}{c:Ct}{x:Int}{p q m:Nat}
theorem zD(hc:c.Ok)(hpq:p≤q)(h:∀i:Nat,p≤i→i<q→¬Is (cut c.L x p) x i):cut c.L x q=cut c.L x p:=
 xT hc.srt (by omega) fun i h1 h2=>by
  have:=h i.toNat (by omega) (by omega)
  rwa [show((i.toNat:Nat):Int)=i by omega] at this
theorem Rv.start(h:Kt w a o ob s sb c)(hq:q≤4160)(hno:∀i:Nat,0≤i→i<q→¬Is c.L x i)(his:q<4160→Is c.L x q)(f:Fr (fun _=>False) w w1):Rv w w1 a o ob s sb c x q 0:=by
 have e0:cut c.L x ((0:Nat):Int)=c.L:=xU fun y hy=>by have:=(h.ok.kr y hy).1;unfold KR at this;omega
 have e:cut c.L x q=c.L:=(zD (p:=0) h.ok (by omega) (by rw[e0];exact hno)).trans e0;refine⟨hq,?_,?_,?_,f.mono fun _ _ e=>e.elim⟩
 ·rw[e];exact h.kept f
 ·rw[e];exact his
 ·rw[e];omega
theorem Rv.step(h:Rv w wr a o ob s sb c x p m)(hc:c.Ok)(hlt:p<4160)(k1:Kt w1 a o ob s sb ⟨c.T,c.nx,del (cut c.L x p) p⟩)(f1:Fr (fun i=>i=a∨i=ob∨i=sb) wr w1)(hpq:p+1≤q∧q≤4160)
  (hno:∀i:Nat,p+1≤i→i<q→¬Is (del (cut c.L x p) p) x i)(his:q<4160→Is (del (cut c.L x p) p) x q)(f2:Fr (fun _=>False) w1 w2):Rv w w2 a o ob s sb c x q (m+1):=by
 have e1:cut c.L x ((p+1:Nat):Int)=del (cut c.L x p) p:=by
  rw[show((p+1:Nat):Int)=(p:Int)+1 by omega];exact xS hc.srt (h.is hlt)
 have e:cut c.L x q=del (cut c.L x p) p:=(zD (p:=p+1) hc hpq.1 (by rw[e1];exact hno)).trans e1;refine⟨hpq.2,?_,?_,?_,(h.f.trans f1).trans (f2.mono fun _ _ e=>e.elim)⟩
 ·rw[e];exact k1.kept f2
 ·rw[e];exact his
 ·rw[e];have h1:=BN (L:=cut c.L x p) (k:=p) (uV hc.srt) (by obtain⟨y,hy,_⟩:=h.is hlt;rw[hy];exact fun h=>by cases h);have:=h.n;omega
theorem Rv.stop(h:Rv w wr a o ob s sb c x q m)(hc:c.Ok)(hge:¬q<4160):Kt wr a o ob s sb (rvS c x)∧m=rvN c x:=by
 obtain rfl:q=4160:=by have:=h.le;omega
 have e:cut c.L x ((4160:Nat):Int)=c.L.filter fun y=>decide (y.a≠x):=BO fun y hy=>by have:=(hc.kr y hy).1;unfold KR at this;omega
 have hk:=h.k;have hn:=h.n;rw[e] at hk hn;exact⟨hk,by unfold rvN;omega⟩
end
section
variable{w:World}{a o ob s sb:Nat}{c:Ct}
theorem xk(h:Kt w a o ob s sb c)(x:Int):Calls Tryz.prog 81 #[.pointer (some ⟨a,0,none⟩),.int .i64 x] w fun e w'=>e=.returned (.int .i64 (rvN c x:Int))∧Kt w' a o ob s sb (rvS c x)∧Fr (fun i=>i=a∨i=ob∨i=sb) w w':=by
 have HN:=hid (zl h x 0 (by omega));have HH:=hid h;have HL:Hid (c.L.length≤4160):=by have:=mF c.L h.ok.srt fun y hy=>by{ have:=(h.ok.kr y hy).1;unfold KR at this;omega };show _≤_;omega
 clear h;go_enter Tryz.func81,Tryz.ntmps81;go_wp2_with fail;refine HN.out.mono ?_;rintro e w1 ⟨q,rfl,⟨_,hq⟩,hno,his,f1⟩;have R1:=hid (Rv.start HH.out hq hno his f1);clear hq hno his f1 HN;go_wp2;go_loopw [5,6] (fun n i wr=>∃m p:Nat,n=.int .i64 m∧i=.int .i64 p∧Rv w wr a o ob s sb c x p m) (fun _ i _=>4160 - (intOf i).toNat)
 case atStart=>exact⟨0,q,rfl,rfl,R1.out⟩
 case round=>
  clear R1;obtain⟨m,p,rfl,rfl,hR⟩:=hrel;have R:=hid hR;have hm:m≤4160:=by have:=hR.n;have:=HL.out;omega
  have hp:=hR.le;clear hR;by_cases hlt:p<4160
  ·have H1:=hid (k_free R.out.k p hlt);have H2:=hid fun(w2:World) (h2:Kt w2 a o ob s sb ⟨c.T,c.nx,del (cut c.L x p) p⟩)=>zl h2 x (p+1) (by omega)
   have hpc:((p+1:Nat):Int)=(p:Int)+1:=by omega
   rw[hpc] at H2;clear hpc;go_wp2_with fail;refine H1.out.mono ?_;rintro e w2 ⟨rfl,h2,f2⟩;have K2:=hid h2;have F2:=hid f2;clear h2 f2 H1;go_wp2_with fail;refine(H2.out _ K2.out).mono ?_;rintro e w3 ⟨q',rfl,hq,hno,his,f3⟩;have R3:=hid (R.out.step HH.out.ok hlt K2.out F2.out hq hno his f3);have hq1:=hq.1;clear hq hno his f3 H2 K2 F2 R;go_wp2;go_roundw
   case rel=>exact⟨m+1,q',by go_num,rfl,R3.out⟩
   case measure=>simp[intOf];omega
  ·have HE:=hid (R.out.stop HH.out.ok hlt);have HF:=hid R.out.f;clear R;go_wp2;go_ret;exact⟨by rw[←HE.out.2];simp,HE.out.1,HF.out⟩
end
end Go.Proofs.YtndhbnhobhkmaaaGreatDoor.Ka
namespace Go.Proofs.YtndhbnhobhkmaaaGreatDoor.Sf
open Go.RowKit
theorem Tryz.Bn:(Tryz.prog.info? 37).map (fun i=>(i.zero,i.size,i.bytes))=some (some (.int .u64 0),1,8):=by kernel_rfl
theorem qR(n:Nat):madeCells #[Value.int .u64 0] n=(wc (List.replicate n 0)).toArray:=by
 apply Array.ext';rw[toList_madeCells_one];simp[wc]
def part(j n:Nat):List Bool:=List.replicate j false++List.replicate (n - j) true
theorem ny(j n:Nat)(h:j≤n):(part j n).length=n:=by simp[part];omega
theorem ti(j n:Nat)(h:j<n)(hl:j<(part j n).length):(part j n).set j (!(part j n)[j])=part (j+1) n:=by
 have e:(part j n)[j]=true:=by simp[part]
 rw[e];unfold part;rw[List.set_append_right _ _ (by simp),List.length_replicate,Nat.sub_self,show n - j=(n - (j+1))+1 by omega,List.replicate_succ,List.set_cons_zero,List.replicate_succ',List.append_assoc];rfl
theorem wE(n:Nat):part n n=List.replicate n false:=by simp[part]
theorem tj(n:Nat):part 0 n=List.replicate n true:=by simp[part]
theorem ie(n:Nat)(w:World)(h:n≤65536)(hT:Pos w):
  Calls Tryz.prog 55 #[.int .i64 n] w fun e w'=>e=.returned (.tuple #[.pointer (some ⟨w.heap.size+1,0,none⟩),.int .i64 0])∧Sh w' (w.heap.size+1) w.heap.size (List.replicate n false)∧Fr (fun _=>False) w w':=by
 obtain⟨i0,hi,hz0,hz1,hz2⟩:=info_parts Tryz.Bn;obtain⟨q,hq⟩:∃q:Nat,(n+63) / 64=q:=⟨_,rfl⟩;have hq1:((n:Int)+64 - 1) / 64=(q:Int):=by omega
 have hmk:=run_make (P:=Tryz.prog) w 36 37 i0 (.int .u64 0) Tryz.underlying36 hi hz0 .i64 .i64 (q:Int) (q:Int) (by omega) (by omega) (by rw[hz2];omega) (by omega);rw[hz1] at hmk;simp only[Int.toNat_natCast,Nat.mul_one,Value.cells,qR] at hmk;have HP:=hid hT.pos;have HS:Hid (Sh ((w.alloc (.cells (wc (List.replicate q 0)).toArray 37)).alloc (.cells #[.int .i64 (n:Int),.slice (some ⟨w.heap.size,0,none⟩) q q] 164)) (w.heap.size+1) w.heap.size (part 0 n)):=by
  have hB:=Bits.zeroes n;rw[hq] at hB;rw[tj];refine⟨List.replicate q 0,q,hB,?_,?_,by omega,by have:=hT.pos;omega,hT.pos,by simpa using h,?_⟩
  ·rw[pW];simp
  ·have:=(World.ownsRow_lit (e:=37) (base:=0) (size:=1) w (wc (List.replicate q 0)).toArray q (by omega) (by simp[maxLen];omega) (by simp[wc])).alloc (.cells #[.int .i64 (n:Int),.slice (some ⟨w.heap.size,0,none⟩) q q] 164);simpa using this
  ·exact hT.carry (S:=fun _=>False) (((Fr.refl _ w).alloc _).alloc _) (fun h=>h)
 clear hi hz0 hz1 hz2 hT hq;go_enter Tryz.func55,Tryz.ntmps55;go_wp2;clear hq1 hmk;go_loopw [5,21] (fun _ i wr=>∃j:Nat,j≤n∧i=.int .i64 j∧Sh wr (w.heap.size+1) w.heap.size (part j n)∧Fr (fun _=>False) w wr) (fun _ i _=>n - (intOf i).toNat)
 case atStart=>exact⟨0,by omega,rfl,HS.out,((Fr.refl _ w).alloc _).alloc _⟩
 case round=>
  obtain⟨j,hj,rfl,hs,hf⟩:=hrel;have HS2:=hid hs;have HF:=hid hf;clear hs hf HS;by_cases hlt:j<n
  ·have hl:j<(part j n).length:=by rw[ny j n hj];exact hlt
   have HC:=hid (oZ HS2.out j hl);rw[ti j n hlt hl] at HC;go_wp2_with fail;refine HC.out.mono ?_;rintro e w2 ⟨rfl,h2,f2⟩;have H2:=hid (And.intro h2 (HF.out.trans' f2 (fun i hi he=>by omega)));clear h2 f2;go_wp2;go_roundw
   case rel=>exact⟨j+1,by omega,by go_num,H2.out.1,H2.out.2⟩
   case measure=>simp[intOf];omega
  ·obtain rfl:j=n:=by omega
   go_wp2;go_ret2;exact⟨by simp,by rw[←wE];exact HS2.out,HF.out⟩
theorem copied{w w1:World}{a b g c c':Nat}{ws:List Nat}{has:List Bool}(h:Sw w a b ws c has)(hr:w1.ownsRow 0 37 1 (.slice (some ⟨g,0,none⟩) ws.length c') ws.length (wc ws))(hf:Fr (fun _=>False) w w1)(hg:w.heap.size≤g):
  Sh (w1.alloc (.cells #[.int .i64 (has.length:Int),.slice (some ⟨g,0,none⟩) ws.length c'] 164)) w1.heap.size g has∧Fr (fun _=>False) w (w1.alloc (.cells #[.int .i64 (has.length:Int),.slice (some ⟨g,0,none⟩) ws.length c'] 164)):=by
 have hgl:=(hr.lt g rfl).2;have hp:=h.tab.pos;refine⟨⟨ws,c',h.bits,heap_alloc_new _ _,hr.alloc _,by omega,by omega,by omega,h.le,?_⟩,hf.alloc _⟩;exact(h.tab.carry hf (fun h=>h)).carry (S:=fun _=>False) ((Fr.refl _ w1).alloc _) (fun h=>h)
end Go.Proofs.YtndhbnhobhkmaaaGreatDoor.Sf
namespace Go.Proofs.YtndhbnhobhkmaaaGreatDoor.Ka
open Go.RowKit
def zok:Nat→List Value→Bool
 |0,[]=>true
 |n+1,.int .i64 (.ofNat 0)::l=>zok n l
 |_,_=>false
def zrow:Value→Bool
 |.agg ⟨.int .i64 (.ofNat 0):: .int .i64 (.ofNat 0):: .pointer none:: .pointer none::l⟩=>zok 12480 l
 |_=>false
theorem rE:(match Tryz.prog.info? 162 with|some i=>(match i.zero with|some v=>i.size==12484&&zrow v|none=>false)|none=>false)=true:=by kernel_rfl
theorem yw:∀(n:Nat) (l:List Value),zok n l=true→l.length=n∧∀i,i<n→l[i]? =some (.int .i64 0)
 |0,[],_=>⟨rfl,fun i hi=>by omega⟩
 |n+1,v::l,h=>by
  unfold zok at h;split at h
  ·rename_i e _;cases e
  ·rename_i n' l' e1 e2;cases e1;cases e2;obtain⟨h1,h2⟩:=yw n l h;refine⟨by simp[h1],fun i hi=> ?_⟩;cases i with
   |zero=>rfl
   |succ i=>rw[List.getElem?_cons_succ];exact h2 i (by omega)
  ·cases h
theorem qs:∃(i:TypeInfo) (cs:Array Value),Tryz.prog.info? 162=some i∧i.zero=some (.agg cs)∧i.size=12484∧cs.size=12484∧∀k,4≤k→k<12484→cs[k]? =some (.int .i64 0):=by
 have h:=rE;cases hi:Tryz.prog.info? 162 with
 |none=>rw[hi] at h;cases h
 |some i=>
  rw[hi] at h;dsimp only at h;cases hz:i.zero with
  |none=>rw[hz] at h;cases h
  |some v=>
   rw[hz] at h;dsimp only at h;rw[Bool.and_eq_true,beq_iff_eq] at h;obtain⟨h1,h2⟩:=h;unfold zrow at h2;split at h2
   ·rename_i l;obtain⟨q1,q2⟩:=yw _ _ h2;refine⟨i,_,rfl,hz,h1,by simp[q1],fun k hk1 hk2=> ?_⟩;obtain⟨j,rfl⟩:∃j,k=j+1+1+1+1:=⟨k - 4,by omega⟩;rw[List.getElem?_toArray,List.getElem?_cons_succ,List.getElem?_cons_succ,List.getElem?_cons_succ,List.getElem?_cons_succ];exact q2 j (by omega)
   ·cases h2
theorem oj:(match Tryz.prog.underlying 162 with|some (.struct fs)=>fs.toList.mapM (fun f=>(Tryz.prog.info? f.type).map fun i=>(f.offset,i.size))|_=>none)=some [(0,1),(1,1),(2,1),(3,1),(4,12480)]:=by kernel_rfl
def made(cs:Array Value)(t n:Int)(o s:Nat):Array Value:=(((cs.setIfInBounds 0 (.int .i64 t)).setIfInBounds 1 (.int .i64 n)).setIfInBounds 2 (.pointer (some ⟨o,0,none⟩))).setIfInBounds 3 (.pointer (some ⟨s,0,none⟩))
theorem rA(t n:Int)(o s:Nat):∃cs,Tryz.prog.built 162 [(0,.int .i64 t),(1,.int .i64 n),(2,.pointer (some ⟨o,0,none⟩)),(3,.pointer (some ⟨s,0,none⟩))]=some cs∧Ck cs t n [] o s:=by
 obtain⟨i,cs,hi,hz,_,hs,hc⟩:=qs;refine⟨made cs t n o s,?_,?_⟩
 ·have hp:=oj;unfold Program.built;rw[hi];cases hu:Tryz.prog.underlying 162 with
  |none=>rw[hu] at hp;cases hp
  |some d=>
   rw[hu] at hp;cases d
   all_goals try (cases hp;done)
   dsimp only at hp ⊢;rw[hz,hp];simp[Instr.fill,Value.cells,hs,made]
 ·refine⟨by simp[made,hs],fun k hk=> ?_⟩;unfold made;rw[Array.getElem?_setIfInBounds,Array.getElem?_setIfInBounds,Array.getElem?_setIfInBounds,Array.getElem?_setIfInBounds,Array.size_setIfInBounds,Array.size_setIfInBounds,Array.size_setIfInBounds,hs];by_cases e3:3=k
  ·subst e3;rfl
  rw[if_neg e3];by_cases e2:2=k
  ·subst e2;rfl
  rw[if_neg e2];by_cases e1:1=k
  ·subst e1;rfl
  rw[if_neg e1];by_cases e0:0=k
  ·subst e0;rfl
  rw[if_neg e0,hc k (by omega) hk];unfold ckv;rw[if_neg (by omega)]
  repeat' split
  all_goals rfl
theorem jz{P:Program}{ops:Array Oper}{rest:List Oper}{o:Oper}{a:Act}{w:World}{Q:Exit→Act→World→Prop}(hg:o.guard=none)(t:TypeId)(x0 x1 x2 x3:Operand)(ho:o.op=.build t #[(0,x0),(1,x1),(2,x2),(3,x3)])
  (d:Option Tmp)(hd:o.dst=d)(v0 v1 v2 v3:Value)(h0:a.eval x0=v0)(h1:a.eval x1=v1)(h2:a.eval x2=v2)(h3:a.eval x3=v3)(cells:Array Value)(hf:P.built t [(0,v0),(1,v1),(2,v2),(3,v3)]=some cells)
  (h:wpList P ops Q rest (a.put d (.agg cells)) w):wpList P ops Q (o::rest) a w:=by
 refine wpList_buildTo hg t _ ho d hd cells ?_ h;rw[←hf];simp[h0,h1,h2,h3]
theorem k_new{t n:Int}(h:(0≤t∧t≤7)∧1≤n∧n≤17592186044416)(w:World)(g:Sf.Tab w):Calls Tryz.prog 57 #[.int .i64 t,.int .i64 n] w fun e w'=>∃a o ob s sb,e=.returned (.tuple #[.pointer (some ⟨a,0,none⟩),.int .i64 0])∧((w.heap.size≤a∧w.heap.size≤o∧w.heap.size≤ob)∧w.heap.size≤s∧w.heap.size≤sb)∧Kt w' a o ob s sb (newC t n)∧Fr (fun _=>False) w w':=by
 have H1:=hid (Sf.ie 4096 w (by omega) g.pos);have H2:=hid fun w (g:Sf.Pos w)=>Sf.ie 64 w (by omega) g
 obtain⟨⟨t0,t1⟩,n0,n1⟩:=h;go_enter Tryz.func57,Tryz.ntmps57;go_wp2_with fail;refine H1.out.mono ?_;rintro e w1 ⟨rfl,h1,f1⟩;have S1:=hid h1;have F1:=hid f1;clear h1 f1 H1;go_wp2_with fail;refine(H2.out _ S1.out.tab).mono ?_;rintro e w2 ⟨rfl,h2,f2⟩;have S2:=hid h2;have F2:=hid f2;clear h2 f2 H2;obtain⟨cs,hcs,hck⟩:=rA t n (w.heap.size+1) (w1.heap.size+1);go_wp2_with (refine jz rfl 162 (.tmp 37) (.tmp 38) (.tmp 39) (.tmp 40) rfl (some 41) rfl (.int .i64 t) (.int .i64 n) (.pointer (some ⟨w.heap.size+1,0,none⟩)) (.pointer (some ⟨w1.heap.size+1,0,none⟩)) rfl rfl rfl rfl cs hcs ?_);go_ret2;refine⟨w2.heap.size,w.heap.size+1,w.heap.size,w1.heap.size+1,w1.heap.size,by simp,?_,?_,((F1.out.trans F2.out).alloc _)⟩
 ·have:=F1.out.size;have:=F2.out.size;omega
 ·have a1:=S1.out.lta;have a2:=S2.out.lta;have b1:=S1.out.b0;have z1:=F1.out.size;have z2:=F2.out.size;have e1:=jE 0 4096;have e2:=jE 4096 64;refine⟨⟨cs,heap_alloc_new w2 _,hck⟩,?_,?_,by omega,by omega,AE ⟨⟨t0,t1⟩,n0,n1⟩⟩
  ·show Sf.Sh _ _ _ (tkn [] 0 4096)
   rw[e1];exact(S1.out.carry F2.out id id id).carry (S:=fun _=>False) ((Fr.refl _ _).alloc _) id id id
  ·show Sf.Sh _ _ _ (tkn [] 4096 64)
   rw[e2];exact S2.out.carry (S:=fun _=>False) ((Fr.refl _ _).alloc _) id id id
theorem xl{t n:Int}(h:¬((0≤t∧t≤7)∧1≤n∧n≤17592186044416))(w:World):Calls Tryz.prog 57 #[.int .i64 t,.int .i64 n] w fun e w'=>e=.returned (.tuple #[.pointer none,.int .i64 12])∧Fr (fun _=>False) w w':=by
 have hc:t<0∨(¬t<0∧8≤t)∨(¬t<0∧¬8≤t∧n<1)∨(¬t<0∧¬8≤t∧¬n<1∧17592186044416<n):=by omega
 clear h;rcases hc with h|⟨h,h2⟩|⟨h,h2,h3⟩|⟨h,h2,h3,h4⟩
 all_goals
  go_enter Tryz.func57,Tryz.ntmps57;go_wp2_with fail;go_ret2;exact⟨by simp,Fr.refl _ _⟩
end Go.Proofs.YtndhbnhobhkmaaaGreatDoor.Ka
