/-
  What Malloc, Free and Usable do: contracts.
  Blocks: all blocks that are had, by kinds, slots and numbers.
  Blocks, Pages, Table, Window: contracts; and the nil heap's.
-/
import Derived.Test.YtndhbnhobhkmaaaGreatDoorHpTopA
set_option maxRecDepth 20000
namespace Go.Proofs.YtndhbnhobhkmaaaGreatDoor
open Go.RowKit
open An
theorem ri{m:Ms}(ok:MsOk m){c:Nat}(hc:c≤7){q:Nat}(hq:q<m.has.length)(hf:m.has.getD q true=false):(⟨q * 512,c,0,[],[]⟩:Pg).Ok m.bs∧(⟨q * 512,c,0,[],[]⟩:Pg).Clean m.bs∧¬(⟨q * 512,c,0,[],[]⟩:Pg).Full:=by
 obtain⟨_,⟨h2,_⟩,_⟩:=ai c hc;have hb:q * 512+512≤m.bs.length:=by have:=ok.len;omega
 refine⟨⟨hc,by show q * 512 % 512=0;omega,hb,trivial,trivial,List.nodup_nil,fun x hx=>by simp at hx,by show 0≤pp c;omega⟩,fun i h1 h2 hne=> ?_,by unfold Pg.Full Pg.used;simp;omega⟩;exfalso;have hw:=ok.cl q hq hf;have e1:=aZ m.bs (q * 512) (i - q * 512) (by have h2:i<q * 512+512:=h2;omega);rw[show q * 512+(i - q * 512)=i by have h1:q * 512≤i:=h1;omega,hw] at e1;rw[←e1] at hne;exact hne (lF _ _)
section
variable{W w:World}{x:Px}{M:Ms}{R:Rs}{O:World→(Nat→Prop)→Prop}{ts:List (World→(Nat→Prop)→Prop)}
theorem mj{a:Int}{P:World→Prop}(H1:Hid (Calls Tryz.prog 128 #[.pointer (some ⟨x.h,0,none⟩),.int .i64 a] w fun e w'=>e=.returned (.tuple #[.int .i64 0,.int .i64 0,.int .i64 0,.int .i64 13])∧P w')):Calls Tryz.prog 88 #[.pointer (some ⟨x.h,0,none⟩),.int .i64 a] w fun e w'=>e=.returned (.int .i64 13)∧P w':=by
 go_enter Tryz.func88,Tryz.ntmps88;go_wp2_with fail;refine H1.out.mono ?_;rintro e w1 ⟨rfl,h1⟩;have T1:=hid h1;clear h1 H1;go_wp2;go_ret;exact⟨by simp,T1.out⟩
theorem fO(cx:Cx W O){a j E:Int}{c s:Nat}(h7:c≤7){P:World→Prop}(H1:Hid (Calls Tryz.prog 128 #[.pointer (some ⟨x.h,0,none⟩),.int .i64 a] w fun e w'=>e=.returned (.tuple #[.int .i64 (c:Int),.int .i64 (s:Int),.int .i64 j,.int .i64 0])∧aa W w' (hl x M R O ts)))(hr:∀w1,aa W w1 (hl x M R O ts)→Calls Tryz.prog 130 #[.pointer (some ⟨x.h,0,none⟩),.int .i64 (c:Int),.int .i64 (s:Int),.int .i64 j] w1 fun e w'=>e=.returned (.int .i64 E)∧P w'):Calls Tryz.prog 88 #[.pointer (some ⟨x.h,0,none⟩),.int .i64 a] w fun e w'=>e=.returned (.int .i64 E)∧P w':=by
 have H2:Hid (∀w1,aa W w1 (hl x M R O ts)→Calls Tryz.prog 129 #[.int .i64 (c:Int)] w1 fun e w'=>e=.returned (.bool true)∧w'=w1):=fun w1 h1=>by
  have:=dQ (cx.at h1) (c:=c) (by omega);rw[decide_eq_true h7] at this;exact this
 have H3:=hid hr;clear cx hr h7;generalize (c:Int)=c' at *;generalize (s:Int)=s' at *;go_enter Tryz.func88,Tryz.ntmps88;go_wp2_with fail;refine H1.out.mono ?_;rintro e w1 ⟨rfl,h1⟩;have H4:=hid (H2.out _ h1);have H5:=hid (H3.out _ h1);clear h1 H1 H2 H3;go_wp2_with fail;refine H4.out.mono ?_;rintro e w2 ⟨rfl,hw2⟩;obtain rfl:=hw2.symm;clear H4 hw2;go_wp2_with fail;refine H5.out.mono ?_;rintro e w3 ⟨rfl,h3⟩;have T3:=hid h3;clear h3 H5;go_wp2;go_ret;exact⟨by simp,T3.out⟩
theorem qZ(cx:Cx W O){a j E:Int}{c s:Nat}(h7:¬c≤7)(hc:c≤23){P:World→Prop}(H1:Hid (Calls Tryz.prog 128 #[.pointer (some ⟨x.h,0,none⟩),.int .i64 a] w fun e w'=>e=.returned (.tuple #[.int .i64 (c:Int),.int .i64 (s:Int),.int .i64 j,.int .i64 0])∧aa W w' (hl x M R O ts)))(hr:∀w1,aa W w1 (hl x M R O ts)→Calls Tryz.prog 131 #[.pointer (some ⟨x.h,0,none⟩),.int .i64 (c:Int),.int .i64 (s:Int)] w1 fun e w'=>e=.returned (.int .i64 E)∧P w'):Calls Tryz.prog 88 #[.pointer (some ⟨x.h,0,none⟩),.int .i64 a] w fun e w'=>e=.returned (.int .i64 E)∧P w':=by
 have H2:Hid (∀w1,aa W w1 (hl x M R O ts)→Calls Tryz.prog 129 #[.int .i64 (c:Int)] w1 fun e w'=>e=.returned (.bool false)∧w'=w1):=fun w1 h1=>by
  have:=dQ (cx.at h1) hc;rw[decide_eq_false h7] at this;exact this
 have H3:=hid hr;clear cx hr h7 hc;generalize (c:Int)=c' at *;generalize (s:Int)=s' at *;go_enter Tryz.func88,Tryz.ntmps88;go_wp2_with fail;refine H1.out.mono ?_;rintro e w1 ⟨rfl,h1⟩;have H4:=hid (H2.out _ h1);have H5:=hid (H3.out _ h1);clear h1 H1 H2 H3;go_wp2_with fail;refine H4.out.mono ?_;rintro e w2 ⟨rfl,hw2⟩;obtain rfl:=hw2.symm;clear H4 hw2;go_wp2_with fail;refine H5.out.mono ?_;rintro e w3 ⟨rfl,h3⟩;have T3:=hid h3;clear h3 H5;go_wp2;go_ret;exact⟨by simp,T3.out⟩
end
section
variable{w:World}{a m h t k:Nat}{U:Nat→Prop}{M:Ms}{H:Hp}
theorem vD(q:Hs a m h t k M H w U)(gr:G17 w)(fu:cO U)(cc:Hc k M H){n:Int}(_hn:I64 n):Calls Tryz.prog 127 #[.pointer (some ⟨h,0,none⟩),.int .i64 n] w fun e w'=>e=.returned (.tuple #[.int .i64 (hM k M H n).2.2.1,.int .i64 (hM k M H n).2.2.2])∧∃U',Hs a m h t k (hM k M H n).1 (hM k M H n).2.1 w' U'∧Gw w w' U U':=by
 obtain⟨x,R,⟨rfl,rfl,rfl,rfl,rfl⟩,r,z⟩:=q.into;have T0:=z.begin;have cx:=jr gr fu;have hlen:M.bs.length=M.has.length * 512:=cc.ms.len;have hWl:R.W.length≤maxLen:=by rw[r.W];have:=cc.W;unfold maxLen;omega
 by_cases h0:ofI n<0
 ·have e:hM x.k M H n=(M,H,0,2):=by unfold hM;rw[if_pos h0]
  rw[e];exact(kq cx T0 h0).mono fun e w' ⟨he,h1⟩=>⟨he,Hz.finish h1 z.lt r⟩
 have hr23:ofI n≤23:=by
  have:¬(n<1∨8192<n):=fun e=>h0 (by rw[(cy n).2 e];decide)
  exact(bY n (by omega) (by omega)).2
 obtain⟨c,hc⟩:∃c:Nat,ofI n=(c:Int):=⟨(ofI n).toNat,by omega⟩;have hcc:c≤23:=by omega
 have hsh:=r.sh c (by omega)
 -- 'hold' where there is no room
 have holdNo:¬(hSl H.L c<sn c∧pn c≤Cq.frI x.k M.has H.W)→∀w1,aa (Bare w) w1 (hl x M R (Old w U) [])→Hid (Calls Tryz.prog 219 #[.pointer (some ⟨x.h,0,none⟩),.int .i64 (c:Int)] w1 fun e w'=>e=.returned (.tuple #[.int .i64 0,.int .i64 13])∧aa (Bare w) w' (hl x M R (Old w U) [])):=fun hn w1 h1=>by
  by_cases hs:hSl H.L c<sn c
  ·exact uk cx h1 hlen hWl hcc (s:=hSl H.L c) (by rw[hsh];exact nh hs) (by rw[r.W];omega)
  ·exact nV cx h1 hcc (by rw[hsh];exact shL_no hs)
 have noE:¬(hSl H.L c<sn c∧pn c≤Cq.frI x.k M.has H.W)→od x.k M H c=none:=fun h=>if_neg h
 by_cases h7:c≤7
 case neg=>
  by_cases hroom:hSl H.L c<sn c∧pn c≤Cq.frI x.k M.has H.W
  ·have e:hM x.k M H n=(⟨tkH x.k H.W (pn c) M.has,M.bs,M.ss⟩,⟨H.W,mpL (lo c (hSl H.L c)) (tkL x.k H.W (pn c) M.has) H.T,H.L++[⟨c,hSl H.L c,⟨(tbF (mpL (lo c (hSl H.L c)) (tkL x.k H.W (pn c) M.has) H.T) (lo c (hSl H.L c))).toNat * 512,c,0,[],[]⟩⟩],H.ln⟩,adI c (hSl H.L c) 0,0):=by
    unfold hM;rw[if_neg h0,hc,Int.toNat_natCast,if_pos (by omega)];unfold od;rw[if_pos hroom,jI]
   rw[e];refine(fN cx T0 hc h7 hcc (a:=adI c (hSl H.L c) 0) (E:=0) (P:=fun w'=>aa (Bare w) w' (hl x (hdM x M R c) (hdR x M R c (hSl H.L c)) (Old w U) [])) fun w1 h1=>uf cx hcc hroom.1 ?_).mono fun e w' ⟨he,h1⟩=>⟨he,?_⟩
   ·have:=jk cx h1 (by rw[r.T];exact cc.ok.tp.tb) hlen cc.ms.cap hWl hcc hroom.1 (by rw[hsh];exact nh hroom.1) (by rw[r.W];exact hroom.2);rw[hsh,yN hroom.1 (gq hroom.1)] at this;exact this
   ·unfold hdM hdR at h1;rw[r.W,r.T] at h1;refine Hz.finish h1 z.lt ?_;have:=r.run (T':=mpL (lo c (hSl H.L c)) (tkL x.k H.W (pn c) M.has) H.T) (g:=⟨(tbF (mpL (lo c (hSl H.L c)) (tkL x.k H.W (pn c) M.has) H.T) (lo c (hSl H.L c))).toNat * 512,c,0,[],[]⟩) (by omega) hcc hroom.1;rw[r.W] at this;exact this
  ·have e:hM x.k M H n=(M,H,0,13):=by
    unfold hM;rw[if_neg h0,hc,Int.toNat_natCast,if_pos (by omega),noE hroom]
   rw[e];exact(fN cx T0 hc h7 hcc (a:=0) (E:=13) (P:=fun w'=>aa (Bare w) w' (hl x M R (Old w U) [])) fun w1 h1=>xt (holdNo hroom w1 h1)).mono fun e w' ⟨he,h1⟩=>⟨he,Hz.finish h1 z.lt r⟩
 case pos=>
  have hln:=r.ln c (by omega);obtain⟨lk,ll⟩:=ln_ok cc.ok c;cases hl0:H.ln c with
  |cons v tl=>
   obtain⟨y,hy,y1,y2,y3,y4⟩:=((cc.ok.ln c).2 v).1 (by rw[hl0];simp);subst y1;subst y3;obtain⟨p,hp⟩:=r.at cc.ok hy h7;have sm:=cc.ok.sm y hy h7;have hys:=(cc.ok.at_ y hy).2;have e:hM x.k M H n=(blM M y.pg,⟨H.W,H.T,hSet H.L y.kind y.slot (paS y.pg),if(paS y.pg).Full then lnS H.ln y.kind (liR (H.ln y.kind) (lo y.kind y.slot)) else H.ln⟩,adI y.kind y.slot (paV y.pg),0):=by
    unfold hM;rw[if_neg h0,hc,Int.toNat_natCast,if_neg (by omega),hl0];dsimp only;unfold hSm;rw[cU h7,fE cc.ok.nd hy,←hl0];rfl
   rw[e];refine(iW cx T0 hc h7 (by rw[hln];exact lk) (v:=lo y.kind y.slot) (by rw[hln,hl0];rfl) (by have:=(aF h7 hys).1;omega) (a:=adI y.kind y.slot (paV y.pg)) (E:=0) (P:=fun w'=>aa (Bare w) w' (hl x (blM M y.pg) (blR R y.kind (lo y.kind y.slot) p y.pg) (Old w U) [])) fun w1 h1=>ur cx h1 h7 hys hp sm.ok sm.cl y4 sm.kd (by rw[hln];exact lk) (by rw[hln];exact ll) (by have:=cc.ss;omega)).mono fun e w' ⟨he,h1⟩=>⟨he,?_⟩
   refine Hz.finish h1 z.lt ?_;refine r.page cc.ok hy h7 hp fun d hd=> ?_
   by_cases hF:(paS y.pg).Full
   ·rw[if_pos hF,if_pos hF];unfold fset lnS;split
    ·rw[hln]
    ·exact r.ln d hd
   ·rw[if_neg hF,if_neg hF];exact r.ln d hd
  |nil=>
   rw[hl0] at hln;by_cases hroom:hSl H.L c<sn c∧pn c≤Cq.frI x.k M.has H.W
   case neg=>
    have e:hM x.k M H n=(M,H,0,13):=by
     unfold hM;rw[if_neg h0,hc,Int.toNat_natCast,if_neg (by omega),hl0];dsimp only;rw[noE hroom]
    rw[e];exact(ku cx T0 hc h7 hln fun w1 h1=>uh (holdNo hroom w1 h1)).mono fun e w' ⟨he,h1⟩=>⟨he,Hz.finish h1 z.lt r⟩
   case pos=>
    have ht:=mr (fun _=>id) cc.ok cc.ms hcc hroom.1 hroom.2;rw[jI] at ht;dsimp only at ht;have hfr:=gq hroom.1;have hs:=hroom.1;have hlow:=nh hs;have hp1:=((aj hcc).2.2.2.2.2 h7).1;have hhold:=fun w1 (h1:aa (Bare w) w1 (hl x M R (Old w U) []))=>jk cx h1 (by rw[r.T];exact cc.ok.tp.tb) hlen cc.ms.cap hWl hcc hs (by rw[hsh];exact hlow) (by rw[r.W];exact hroom.2)
    rw[hsh,yN hs hfr] at hhold;have eM:hM x.k M H n=hM x.k M H n:=rfl
    conv at eM=>rhs;unfold hM;rw[if_neg h0,hc,Int.toNat_natCast,if_neg (by omega),hl0];dsimp only;unfold od;rw[if_pos hroom,jI];dsimp only;unfold hSm;rw[cU h7];dsimp only;rw[qd hfr];dsimp only
    unfold hdM hdR at hhold;rw[r.W,r.T] at hhold;generalize hSl H.L c=s at *;generalize mpL (lo c s) (tkL x.k H.W (pn c) M.has) H.T=T' at *;generalize tkH x.k H.W (pn c) M.has=has' at *;have hg:=ht.got 0 (by omega);simp only[Int.natCast_zero,Int.add_zero] at hg;have hmem:=ht.ok.tb.aQ hg;obtain⟨q,hq⟩:∃q:Nat,tbF T' (lo c s)=(q:Int):=⟨(tbF T' (lo c s)).toNat,by omega⟩;rw[hq] at hmem;rw[hq,Int.toNat_natCast] at eM;have hqf:M.has.getD q true=false:=by
     rcases ht.new _ hmem with e|e
     ·exfalso;obtain⟨y,hy,j,hj,e2⟩:=cc.ok.dom _ e;obtain⟨b1,b2⟩:=cc.ok.at_ y hy;have:=cE hcc hs b1 b2 (i:=0) (by omega) hj (by simpa using e2);exact hfr ⟨y,hy,this.1.symm,this.2.1.symm⟩
     ·simpa using e.2
    have hql:=ht.ok.lt ⟨_,hmem⟩;rw[ht.len] at hql;obtain⟨z1,z2,z3⟩:=ri cc.ms h7 hql hqf;obtain⟨f1,f2,f3,f4,f5⟩:=iC (b:=q * 512) h7;obtain⟨l1,l2⟩:=aF h7 hs;have hb:=rP T0;have hE0:liPE [] (lo c s)=0:=by unfold liPE;rw[if_neg (by omega)];simp
    have hL0:liP [] (lo c s)=[lo c s]:=by unfold liP;simp;omega
    rw[f1,f2,f3,f4,if_neg f5,mB hfr] at eM;rw[eM];refine(kt cx T0 hc h7 hln (v:=lo c s) (by omega) (by omega) (M1:=⟨has',M.bs,M.ss⟩) (R1:=fun p=>⟨H.W,T',fset R.sh c (Sf.taS (shL H.L c) s),fset R.ln c [lo c s],fset R.pg (lo c s).toNat (some (p,⟨q * 512,c,0,[],[]⟩)),R.cnt+1⟩) (fun p=>aq ..) (a:=adI c s 0) (E:=0) (P:=fun w'=>∃p,aa (Bare w) w' (hl x ⟨has',M.bs,M.ss⟩ ⟨H.W,T',fset R.sh c (Sf.taS (shL H.L c) s),fset R.ln c [lo c s],fset R.pg (lo c s).toNat (some (p,⟨q * 512,c,1,[],[]⟩)),R.cnt+1⟩ (Old w U) [])) (fun w1 h1=> ?_) fun w1 p h1=> ?_).mono fun e w' ⟨he,p,h1⟩=>⟨he,?_⟩
    ·have:=qY cx h7 hs (hhold w1 h1) ht.ok.tb hq (by show q * 512+512≤M.bs.length;omega) hb (r.empty cc.ok h7 hs hfr) (by show R.cnt<maxLen;rw[r.cn];have:=pgN_le R.pg;unfold maxLen;omega) (by show LiOk (R.ln c);rw[hln];exact LiOk.none) (by show(R.ln c).length≤5000;rw[hln];simp);dsimp only at this;rw[hln,hE0,hL0,hsh] at this;exact this
    ·have:=ur cx h1 h7 hs (aq ..) z1 z2 z3 rfl (by show LiOk (fset R.ln c [lo c s] c);rw[aq];exact⟨by simp,fun y hy=>by simp only[List.mem_singleton] at hy;subst hy;omega⟩) (by show(fset R.ln c [lo c s] c).length≤5000;rw[aq];simp) (by show M.ss.length≤900000;have:=cc.ss;omega);unfold blM blR at this;dsimp only at this;rw[f1,f2,f3,f4,if_neg f5,mE] at this;exact this.mono fun e w' ⟨he,h2⟩=>⟨he,p,h2⟩
    ·refine Hz.finish h1 z.lt ?_;have:=r.small (p:=p) (g:=⟨q * 512,c,1,[],[]⟩) (T':=T') cc.ok h7 hs hfr (ln1:=fset R.ln c [lo c s]) (ln2:=lnS H.ln c [lo c s]) fun d hd=>by
      unfold fset lnS;split
      ·rfl
      ·exact r.ln d hd
     rw[r.W,hsh] at this;exact this
theorem rh{C:Nat→Prop}(h:HpOk C M H){x:Hd}(hx:x∈H.L)(hF:x.pg.Full):lo x.kind x.slot∉H.ln x.kind:=fun e=>by
 obtain⟨y,hy,y1,y2,y3,y4⟩:=((h.ln x.kind).2 _).1 e;obtain⟨a1,a2⟩:=h.at_ x hx;obtain⟨b1,b2⟩:=h.at_ y hy;have p1:=(aj a1).1.1;have:=cE a1 a2 b1 b2 (i:=0) (i':=0) (by omega) (by rw[y1];omega) (by rw[y1];simpa using y3);rw[cH h.nd hx hy this.1 this.2.1] at hF;exact y4 hF
theorem y_free(q:Hs a m h t k M H w U)(gr:G17 w)(fu:cO U)(cc:Hc k M H){x kd s j E:Int}(hf:eY x kd s j E)(hx:I64 x):Calls Tryz.prog 88 #[.pointer (some ⟨h,0,none⟩),.int .i64 x] w fun e w'=>e=.returned (.int .i64 (hFr M H kd s j E).2.2)∧∃U',Hs a m h t k (hFr M H kd s j E).1 (hFr M H kd s j E).2.1 w' U'∧Gw w w' U U':=by
 obtain⟨px,R,⟨rfl,rfl,rfl,rfl,rfl⟩,r,z⟩:=q.into;have T0:=z.begin;have cx:=jr gr fu;have H1:=i_find cx T0 (r.ok cc.ok) hf hx;unfold hFr;by_cases hE:E=0
 case neg=>
  have e:fndR R kd s j E=(0,0,0,13):=if_neg fun k=>hE k.1
  rw[e] at H1;rw[if_neg hE];exact(mj (P:=fun w'=>aa (Bare w) w' (hl px M R (Old w U) [])) (hid H1)).mono fun e w' ⟨he,h1⟩=>⟨he,Hz.finish h1 z.lt r⟩
 rw[if_pos hE];obtain⟨c,s,rfl,rfl,hc,hs,hj⟩:=mH hf hE;subst hE;unfold fndR at H1;rw[Int.toNat_natCast,Int.toNat_natCast,xy r cc.ok hc hs j] at H1;rw[Int.toNat_natCast,Int.toNat_natCast];unfold hF;cases hh:hHad H.L c s j with
 |none=>
  rw[hh,if_neg (by simp)] at H1;exact(mj (P:=fun w'=>aa (Bare w) w' (hl px M R (Old w U) [])) (hid H1)).mono fun e w' ⟨he,h1⟩=>⟨he,Hz.finish h1 z.lt r⟩
 |some y=>
  rw[hh,if_pos ⟨rfl,rfl⟩] at H1;obtain⟨y1,y2,y3,y4⟩:=mD hh;subst y2;subst y3;dsimp only;have hsh:=r.sh y.kind (by omega);have hcov:∀i:Nat,i<pn y.kind→¬tbF R.T (lo y.kind y.slot+i)<0:=fun i hi=>by rw[r.T];exact cc.ok.cov y y1 i hi
  have hgE:Sf.giE (R.sh y.kind) y.slot=0:=by rw[hsh];exact giE_in hs ⟨y,y1,rfl,rfl⟩
  by_cases h8:8≤y.kind
  ·rw[if_pos h8];refine(qZ cx (by omega) hc (hid H1) (E:=0) (P:=fun w'=>aa (Bare w) w' (hl px (letN (pn y.kind) (lo y.kind y.slot) M R.T).1 ⟨R.W,(letN (pn y.kind) (lo y.kind y.slot) M R.T).2,fset R.sh y.kind (Sf.giS (R.sh y.kind) y.slot),R.ln,R.pg,R.cnt⟩ (Old w U) [])) fun w1 h1=> ?_).mono fun e w' ⟨he,h1⟩=>⟨he,?_⟩
   ·have:=uq cx h1 (by rw[r.T];exact cc.ok.tp) cc.ms hc hs hcov (by have:=cc.ss;omega);rw[hgE] at this;exact this
   ·rw[r.T] at h1;refine Hz.finish h1 z.lt ?_;have:=r.delRun (T':=(letN (pn y.kind) (lo y.kind y.slot) M H.T).2) h8 hc hs;rw[r.W] at this ⊢;exact this
  ·rw[if_neg h8];have h7:y.kind≤7:=by omega
   have hm:=y4 h7;obtain⟨p,hp⟩:=r.at cc.ok y1 h7;have sm:=cc.ok.sm y y1 h7;have hln:=r.ln y.kind (by omega);obtain⟨lk,ll⟩:=ln_ok cc.ok y.kind;have hl0:=(aF h7 hs).1;by_cases hu:(pfS y.pg j).used=0
   ·rw[if_pos hu];have hnf:¬y.pg.Full:=fun hF=>by
     have:=(sm.ok.uJ sm.cl j).2.2.2 hm;have hp2:=(ai y.pg.kind sm.ok.kind).2.1.1;unfold Pg.Full at hF;omega
    refine(fO cx h7 (hid H1) (E:=0) (P:=fun w'=>aa (Bare w) w' (hl px (letN (pn y.kind) (lo y.kind y.slot) ⟨M.has,pfB y.pg M.bs j,pfT y.pg M.ss j⟩ R.T).1 ⟨R.W,(letN (pn y.kind) (lo y.kind y.slot) ⟨M.has,pfB y.pg M.bs j,pfT y.pg M.ss j⟩ R.T).2,fset R.sh y.kind (Sf.giS (R.sh y.kind) y.slot),fset R.ln y.kind (liR (R.ln y.kind) (lo y.kind y.slot)),fset R.pg (lo y.kind y.slot).toNat none,R.cnt - 1⟩ (Old w U) [])) fun w1 h1=> ?_).mono fun e w' ⟨he,h1⟩=>⟨he,?_⟩
    ·have:=uo cx h1 h7 hs hp sm.ok sm.cl hm hj (by rw[hln];exact lk) (by rw[hln];exact ll) cc.ss hu hnf (by rw[r.T];exact cc.ok.tp) (cc.ok.free cc.ms y1 h7 hm).2.1 hcov;rw[hgE] at this;exact this
    ·rw[r.T] at h1;refine Hz.finish h1 z.lt ?_;have:=r.xQ (T':=(letN (pn y.kind) (lo y.kind y.slot) ⟨M.has,pfB y.pg M.bs j,pfT y.pg M.ss j⟩ H.T).2) cc.ok y1 h7 hp (ln1:=fset R.ln y.kind (liR (R.ln y.kind) (lo y.kind y.slot))) (ln2:=lnS H.ln y.kind (liR (H.ln y.kind) (lo y.kind y.slot))) fun d hd=>by
      rw[hln];unfold fset lnS;split
      ·rfl
      ·exact r.ln d hd
     exact this
   ·rw[if_neg hu];refine(fO cx h7 (hid H1) (E:=0) (P:=fun w'=>aa (Bare w) w' (hl px ⟨M.has,pfB y.pg M.bs j,pfT y.pg M.ss j⟩ ⟨R.W,R.T,R.sh,if y.pg.Full then fset R.ln y.kind (liP (R.ln y.kind) (lo y.kind y.slot)) else R.ln,fset R.pg (lo y.kind y.slot).toNat (some (p,pfS y.pg j)),R.cnt⟩ (Old w U) [])) fun w1 h1=>um cx h1 h7 hs hp sm.ok sm.cl hm hj (by rw[hln];exact lk) (by rw[hln];exact ll) cc.ss hu).mono fun e w' ⟨he,h1⟩=>⟨he,?_⟩
    refine Hz.finish h1 z.lt ?_;refine r.page cc.ok y1 h7 hp fun d hd=> ?_
    by_cases hF:y.pg.Full
    ·rw[if_pos hF,if_pos hF,hln];unfold fset lnS;split
     ·unfold liP;rw[if_neg fun e=>e.elim (fun e=>by omega) (rh cc.ok y1 hF)]
     ·exact r.ln d hd
    ·rw[if_neg hF,if_neg hF];exact r.ln d hd
end
theorem max_is(P:Program)(x y m:Int)(h:m=max x y):∀ts t w,(Builtin.max_ ts t #[.int .i64 x,.int .i64 y]).run P w=.ok (.int .i64 m) w:=by
 intro ts t w;rw[run_max_int2,show(if y>x then y else x)=m by rw[h];split<;>omega]
section
variable{W w:World}{x:Px}{M:Ms}{R:Rs}{O:World→(Nat→Prop)→Prop}{ts:List (World→(Nat→Prop)→Prop)}
end
theorem cl17{w:World}{ad:Option Addr}{l:List Int}(cap:Nat)(hl:aA w ad l)(hm:l.length≤17592186044416):Calls Tryz.prog 94 #[.slice ad l.length cap] w fun e w'=>(∃ad' cap',e=.returned (.slice ad' l.length cap')∧aA w' ad' l∧∀b off,ad'=some ⟨b,off,none⟩→w.heap.size≤b)∧Fr (fun _=>False) w w':=by
 have key:Calls Tryz.prog 94 #[.slice ad l.length cap] w fun e w'=>(∃v,e=.returned v∧w'.ownsRow w.heap.size 3 1 v l.length (ic l))∧Fr (fun _=>False) w w':=by
  cases ad with
  |none=>
   have e0:l=[]:=by
    cases l with
    |nil=>rfl
    |cons x r=>obtain⟨b,off,h,_⟩:=hl 0 (by simp);cases h
   subst e0;clear hl hm;have q:∀(w:World) (a:Option Addr) (n c n' c':Nat),(binOp .eql 24 (.slice a n c) (.slice none n' c')).run Tryz.prog w=.ok (.bool a.isNone) w:=fun w a n c n' c'=>Lib.run_eql_slice_nil w _ _ a n c n' c' Tryz.underlying24
   go_enter Tryz.func94,Tryz.ntmps94;go_wp2;go_ret;exact⟨⟨_,rfl,World.ownsRow_nil _ _ _ _⟩,Fr.refl _ _⟩
  |some a=>
   obtain⟨i0,hi,hz0,hz1,hz2⟩:=info_parts Tryz.iy;have q:∀(w:World) (a:Option Addr) (n c n' c':Nat),(binOp .eql 24 (.slice a n c) (.slice none n' c')).run Tryz.prog w=.ok (.bool a.isNone) w:=fun w a n c n' c'=>Lib.run_eql_slice_nil w _ _ a n c n' c' Tryz.underlying24
   have HN:Hid (∀(o:Obj) (j:Nat) (u:Value),(ic l)[j]? =some u→(w.alloc o).cell? (a.add j)=some u):=fun o j u hj=>by
    have hj2:j<l.length:=by have:=(List.getElem?_eq_some_iff.1 hj).1;simpa [ic] using this
    obtain⟨b,off,h1,h2,h3⟩:=hl.alloc o j hj2;cases h1;rw[add_plain,h3,←hj];simp[ic,hj2]
   clear hl;go_enter Tryz.func94,Tryz.ntmps94;go_wp2_with (at_builtin;refine wpList_append_own _ rfl _ _ 24 rfl w.heap.size 3 i0 (.int .i64 0) 1 8 Tryz.underlying24 hi hz0 hz1 hz2 rfl (by decide) _ _ _ rfl (World.ownsRow_made w #[] 0 (Nat.le_refl _) (Nat.zero_le _) rfl) a l.length cap (ic l) rfl (by rw[iz];simp) (HN.out _) (ue l) (by unfold maxLen;omega) (by omega) (by simp) ?_);intro v' w1 hown hgrow hnil;have HO:=hid hown;have HG:=hid hgrow;clear hown hgrow hnil;go_wp2;go_ret;exact⟨⟨v',rfl,by simpa using HO.out⟩,Fr.new (((Fr.refl _ w).alloc _).grown HG.out (by intro k hk;simp[Value.ownBlock] at hk;omega))⟩
 refine key.mono ?_;rintro e w' ⟨⟨v,he,ho⟩,f⟩;obtain⟨yad,ycap,rfl,h2,h3⟩:=jP ho;exact⟨⟨yad,ycap,he,h2,h3⟩,f⟩
section
variable{w:World}{a m h t k:Nat}{U:Nat→Prop}{M:Ms}{H:Hp}
theorem zM(q:Hs a m h t k M H w U):Calls Tryz.prog 40 #[.pointer (some ⟨h,0,none⟩)] w fun e w'=>e=.returned (.pointer (some ⟨t,0,none⟩))∧Fr (fun _=>False) w w':=by
 obtain⟨x,R,⟨rfl,rfl,rfl,rfl,rfl⟩,r,z⟩:=q.into;have c3:=dg (aH z.begin);clear z r q;go_enter Tryz.func40,Tryz.ntmps40;go_wp2;go_ret;exact⟨by simp,Fr.refl _ _⟩
end
section
end
end Go.Proofs.YtndhbnhobhkmaaaGreatDoor
