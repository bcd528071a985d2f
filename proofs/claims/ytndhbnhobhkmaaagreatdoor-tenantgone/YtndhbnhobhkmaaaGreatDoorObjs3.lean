/-
  Move, over the landed code.
  More of things side by side: one takes another one's place. Nothing of the program is named here.
-/
import Derived.Test.YtndhbnhobhkmaaaGreatDoorHpOut
import Derived.Test.YtndhbnhobhkmaaaGreatDoorViBase
namespace Go.Proofs.YtndhbnhobhkmaaaGreatDoor
open Go.RowKit
open An
section
variable{W w:World}{x:Px}{M:Ms}{R:Rs}{O:World→(Nat→Prop)→Prop}{ts:List (World→(Nat→Prop)→Prop)}
theorem BB(x:Px)(wl:Nat)(ad:Option Addr)(cap n:Nat):(hcl x wl).toArray.setIfInBounds 2 (.slice ad n cap)=(hcl ⟨x.a,x.m,x.h,x.t,x.k,ad,cap,x.A,x.B,x.N,x.pb⟩ n).toArray:=rfl
theorem rF{ad:Option Addr}{cap:Nat}{Wn:List Int}(h:aa W w (hl x M R O (ts++[Lv ad Wn]))):aa W (w.setCell ⟨x.h,2,none⟩ (.slice ad Wn.length cap)) (hl ⟨x.a,x.m,x.h,x.t,x.k,ad,cap,x.A,x.B,x.N,x.pb⟩ M ⟨Wn,R.T,R.sh,R.ln,R.pg,R.cnt⟩ O (ts++[Lv x.ad R.W])):=by
 have h1:=h.setAt 2 rfl 2 (.slice ad Wn.length cap);rw[BB] at h1;have h2:=aa.swapAt (P:=Lv x.ad R.W) (Q:=Lv ad Wn) h1 5 (ts.length+10) rfl (by show(ts++[Lv ad Wn])[ts.length]? =_;simp) (by omega);have e:(([Am 111 x.a M.bs M.ss,O,Blk x.h (hob ⟨x.a,x.m,x.h,x.t,x.k,ad,cap,x.A,x.B,x.N,x.pb⟩ Wn.length),Ct x.m x.k M.has,Tm x.t R.T,Lv ad Wn,Fam 24 (shf x R.sh),Fam 8 (lnf x R.ln),Mg x.pb R.cnt (pgm R.pg),Fam 6400 (pgf x R.pg)]++(ts++[Lv ad Wn])).set (ts.length+10) (Lv x.ad R.W))=hl ⟨x.a,x.m,x.h,x.t,x.k,ad,cap,x.A,x.B,x.N,x.pb⟩ M ⟨Wn,R.T,R.sh,R.ln,R.pg,R.cnt⟩ O (ts++[Lv x.ad R.W]):=by
  rw[List.set_append_right _ _ (by simp)];simp;exact⟨rfl,rfl,rfl⟩
 rw[←e];exact h2
def MvS(x:Px)(W:World)(O:World→(Nat→Prop)→Prop)(M:Ms)(H:Hp)(R:Rs)(Wn V:List Int)(j:Nat)(ts:List (World→(Nat→Prop)→Prop))(w:World):Prop:=
 ∃pg,bm ⟨Wn,(aw x.k Wn (V.take j) M H.T H.L).2.1,R.sh,R.ln,pg,R.cnt⟩ ⟨Wn,(aw x.k Wn (V.take j) M H.T H.L).2.1,(aw x.k Wn (V.take j) M H.T H.L).2.2,H.ln⟩∧
  aa W w (hl x ⟨tkH x.k Wn (V.length - j) (aw x.k Wn (V.take j) M H.T H.L).1.has,(aw x.k Wn (V.take j) M H.T H.L).1.bs,(aw x.k Wn (V.take j) M H.T H.L).1.ss⟩ ⟨Wn,(aw x.k Wn (V.take j) M H.T H.L).2.1,R.sh,R.ln,pg,R.cnt⟩ O ts)
theorem wQ{k:Nat}{H:Hp}{Wn V:List Int}(hA:HpOk (fun _=>True) M ⟨H.W,H.T,H.L,H.ln⟩)(ms:MsOk M)(hvn:V.Nodup)(hvo:∀v∈V,Cq.inW k Wn (tbF H.T v).toNat=false)(hvk:∀v∈V,VOk v∧¬tbF H.T v<0)(hfr:V.length≤Cq.frI k M.has Wn){j:Nat}(hj:j≤V.length):
  HpOk (fun _=>True) (aw k Wn (V.take j) M H.T H.L).1 ⟨H.W,(aw k Wn (V.take j) M H.T H.L).2.1,(aw k Wn (V.take j) M H.T H.L).2.2,H.ln⟩∧MsOk (aw k Wn (V.take j) M H.T H.L).1∧(aw k Wn (V.take j) M H.T H.L).1.ss.length≤M.ss.length+3 * j∧Cq.frI k (aw k Wn (V.take j) M H.T H.L).1.has Wn+j=Cq.frI k M.has Wn:=by
 have hl:(V.take j).length=j:=by rw[List.length_take];omega
 have nd:(V.take j).Nodup:=hvn.sublist (List.take_sublist j V);have hm:∀v∈V.take j,v∈V:=fun v hv=>List.mem_of_mem_take hv
 have h0:∀v∈V.take j,¬tbF H.T v<0:=fun v hv=>(hvk v (hm v hv)).2
 have hcl:=List.countP_le_length (p:=fun v=> !Cq.inW k Wn (tbF H.T v).toNat) (l:=V.take j);obtain⟨i1,i2,_,_,_,_,_,i8⟩:=fy (C:=fun _=>True) (k:=k) (W:=Wn) (fun _ _=>trivial) (V.take j) M H.T H.L H.W H.ln hA ms nd h0 (by omega);have i9:=pJ (C:=fun _=>True) (k:=k) (W:=Wn) (fun _ _=>trivial) (V.take j) M H.T H.L H.W H.ln hA ms nd h0 (fun v hv=>hvo v (hm v hv)) (by omega);rw[hl] at i8 i9;exact⟨i1,i2,i8,i9⟩
theorem ui(cx:Cx W O){H:Hp}{Wn V:List Int}(hA:HpOk (fun _=>True) M ⟨H.W,H.T,H.L,H.ln⟩)(ms:MsOk M)(hs:M.ss.length≤890000)(hvn:V.Nodup)(hvo:∀v∈V,Cq.inW x.k Wn (tbF H.T v).toNat=false)(hvk:∀v∈V,VOk v∧¬tbF H.T v<0)(hfr:V.length≤Cq.frI x.k M.has Wn)(hvm:V.length≤4096){j:Nat}(hj:j<V.length)(h:MvS x W O M H R Wn V j ts w):
  Calls Tryz.prog 104 #[.pointer (some ⟨x.h,0,none⟩),.int .i64 V[j],.int .i64 ((tkL x.k Wn V.length M.has)[j]'(by rw[bw];exact hj))] w fun e w'=>e=.returned (.tuple #[])∧MvS x W O M H R Wn V (j+1) ts w':=by
 obtain⟨j1,j2,j3,j4⟩:=wQ hA ms hvn hvo hvk hfr (j:=j) (by omega);obtain⟨f1,f2⟩:=mv_at hvn hvo M H.L hj;have hpg:=pH hvn hvo (fun v hv=>by have:=(hvk v hv).2;omega) M H.L j (by omega);unfold MvS at h ⊢;obtain⟨pg,rp,h1⟩:=h;rw[f2];generalize aw x.k Wn (V.take j) M H.T H.L=r at *;obtain⟨m1,T1,L1⟩:=r;simp only at *;obtain⟨p,p1,p2,p3,_,p5,_,_,_⟩:=Cq.cu (k:=x.k) (has:=m1.has) (l:=Wn) (by omega);have hsub:V.length - j=(V.length - (j+1))+1:=by omega
 have hp0:(tkL x.k Wn V.length M.has)[j]'(by rw[bw];exact hj)=(p:Int):=by
  rw[hsub,tkL,p3] at hpg;have:(tkL x.k Wn V.length M.has)[j]? =((tkL x.k Wn V.length M.has).drop j)[0]? :=by rw[List.getElem?_drop];rfl
  rw[hpg,List.getElem?_eq_getElem (by rw[bw];exact hj)] at this;simpa using this
 rw[hp0];have hm:=List.getElem_mem hj;obtain⟨k1,k2⟩:=hvk _ hm;have k3:=hvo _ hm;generalize hve:V[j]=vv at *;obtain⟨v,rfl⟩:∃v:Nat,vv=(v:Int):=⟨vv.toNat,by unfold VOk at k1;omega⟩;obtain⟨o,ho⟩:∃o:Nat,tbF H.T v=(o:Int):=⟨(tbF H.T v).toNat,by omega⟩;rw[ho] at f1 k3;rw[ho,p3];simp only[Int.toNat_natCast] at k3 ⊢;unfold Cq.aX at p2;simp only[Bool.and_eq_true,Bool.not_eq_true'] at p2;have hcap:=j2.cap;have hlen:=j2.len;have htb:TbOk T1:=j1.tp.tb;have hmem:=htb.aQ (v:=(v:Int)) (by show ¬tbF T1 v<0;rw[f1];omega);rw[f1] at hmem;have hol:o<m1.has.length:=j1.tp.lt ⟨_,hmem⟩;have hsw:SwOk T1 v p:=⟨by unfold POk;omega,by rw[f1];omega,j1.tp.ux p2.1⟩;have hc:=Bt cx h1 htb (v:=v) (p:=p) (o:=o) (by unfold VOk at k1;omega) hsw f1 (by show _≤m1.bs.length;omega) (by show _≤m1.bs.length;omega) (by show m1.ss.length≤_;omega) (fun y hy=>by
  obtain⟨xx,hx,x1,_,x3⟩:=(rp.pg v y.2 (by unfold VOk at k1;omega)).1 ⟨y.1,hy⟩;rw[←x3];exact(j1.sm xx hx x1).ok.lies)
 refine hc.mono ?_;rintro e w' ⟨he,g⟩;refine⟨he,mvP pg v (p * 512),rp.mv (by unfold VOk at k1;omega),?_⟩;have e2:tkH x.k Wn (V.length - (j+1)) (Cq.giS (Cq.takS x.k m1.has Wn) (o:Int))=Cq.giS (tkH x.k Wn (V.length - j) m1.has) (o:Int):=by
  rw[(zW k3 _ _).1,hsub,tkH]
 rw[e2];exact g
end
section
variable{w:World}{a m h t k:Nat}{U:Nat→Prop}{M:Ms}{H:Hp}{Wn:List Int}{ad:Option Addr}{cap:Nat}
set_option maxRecDepth 20000 in
set_option maxHeartbeats 4000000 in
theorem y_move(q:Both (Hs a m h t k M H) (Lv ad Wn) w U)(gr:G17 w)(fu:cO U)(c:Hc k M H)(hW:Wn.length≤100000):Calls Tryz.prog 62 #[.pointer (some ⟨h,0,none⟩),.slice ad Wn.length cap] w fun e w'=>e=.returned (.int .i64 (hMo k M H Wn).2.2)∧∃U',Hs a m h t k (hMo k M H Wn).1 (hMo k M H Wn).2.1 w' U'∧Gw w w' U U':=by
 have qlt:=Both.lt q;have hqi:∃(x:Px) (R:Rs),(x.h=h∧x.a=a∧x.m=m∧x.t=t∧x.k=k)∧bm R H∧Both (Hz x M R) (Lv ad Wn) w U:=by
  obtain⟨Z,Y,q1,q2,q3,q4,q5,q6⟩:=q;obtain⟨x,R,e,r,z⟩:=q1.into;exact⟨x,R,e,r,Z,Y,z,q2,q3,q4,q5,q6⟩
 obtain⟨x,R,⟨rfl,rfl,rfl,rfl,rfl⟩,r,z⟩:=hqi;have cx:=jr gr fu;have T0:aa (Bare w) w (hl x M R (Old w U) [Lv ad Wn]):=by
  have s1:=aa.begin (Both.good (Hz.good x M R) (Lv.good ad Wn)) z qlt;have s2:aa (Bare w) w ([Hz x M R,Old w U]++[Lv ad Wn]):=s1.da 0 rfl (Hz.good ..) (Lv.good ..);have s3:aa (Bare w) w [Hz x M R,Both (Old w U) (Lv ad Wn)]:=aa.join s2 1 rfl;exact(Hz.opened s3).da 1 rfl (Old.good ..) (Lv.good ..)
 have tb:TbOk R.T:=by rw[r.T];exact c.ok.tp.tb
 have hcap:=c.ms.cap;have hfew:=c.ok.tp.few;have hkn:=ji c.ok.tp.tb;have HO:Hid (Calls Tryz.prog 102 #[.pointer (some ⟨x.h,0,none⟩),.slice ad Wn.length cap] w fun e w'=>∃ad1 ad2 cap2,e=.returned (.slice ad2 (outs x.k Wn H.T (H.T.map Prod.fst)).length cap2)∧aa (Bare w) w' (hl x M R (Old w U) ([Lv ad Wn]++[Lv ad1 (H.T.map Prod.fst)]++[Lv ad2 (outs x.k Wn H.T (H.T.map Prod.fst))]))):=by
  have:=ug cx T0 tb (by rw[r.T];exact fun y hy=>⟨(c.ok.tp.tk y hy).1,(c.ok.tp.tk y hy).2.1⟩) hcap (by rw[r.T];omega) (fT.first ..) hW cap;rw[r.T] at this;exact this
 have hvn:(outs x.k Wn H.T (H.T.map Prod.fst)).Nodup:=hkn.filter _;have hvo:∀v∈outs x.k Wn H.T (H.T.map Prod.fst),Cq.inW x.k Wn (tbF H.T v).toNat=false:=fun v hv=>by
  have:=(List.mem_filter.1 hv).2;simpa using this
 have hvk:∀v∈outs x.k Wn H.T (H.T.map Prod.fst),VOk v∧¬tbF H.T v<0:=fun v hv=>by
  obtain⟨y,hy,rfl⟩:=List.mem_map.1 (List.mem_filter.1 hv).1;rw[aO (v:=y.1) (p:=y.2) c.ok.tp.tb hy];exact⟨(c.ok.tp.tb.at_ y hy).1,by have:=(c.ok.tp.tk y hy).1;omega⟩
 have hvl:(outs x.k Wn H.T (H.T.map Prod.fst)).length=mvN x.k Wn H.T:=by rw[pI c.ok.tp.tb];unfold outs;rw[List.countP_eq_length_filter]
 have hvm:(outs x.k Wn H.T (H.T.map Prod.fst)).length≤4096:=Nat.le_trans (pC _ _ _ _) (by rw[List.length_map];omega);by_cases hfr:Cq.frI x.k M.has Wn<(outs x.k Wn H.T (H.T.map Prod.fst)).length
 ·have e0:hMo x.k M H Wn=(M,H,13):=by unfold hMo;rw[if_pos (by omega)]
  rw[e0];have HT:Hid (∀w1 ad1 ad2,aa (Bare w) w1 (hl x M R (Old w U) ([Lv ad Wn]++[Lv ad1 (H.T.map Prod.fst)]++[Lv ad2 (outs x.k Wn H.T (H.T.map Prod.fst))]))→Calls Tryz.prog 103 #[.pointer (some ⟨x.h,0,none⟩),.int .i64 ((outs x.k Wn H.T (H.T.map Prod.fst)).length:Int),.slice ad Wn.length cap] w1 fun e w'=>e=.returned (.tuple #[.slice none 0 0,.int .i64 13])∧∃U',Hs x.a x.m x.h x.t x.k M H w' U'∧Gw w w' U U'):=fun w1 ad1 ad2 h1=>by
   refine(mi cx h1 c.ms.len (fT.first x M.bs M.ss R (Old w U) [Lv ad1 (H.T.map Prod.fst),Lv ad2 (outs x.k Wn H.T (H.T.map Prod.fst))] ad Wn) (by unfold maxLen;omega) hfr hvm cap).mono ?_;rintro e w' ⟨he,g⟩;exact⟨he,Hz.finish (cB (ts:=[]) (cB (ts:=[Lv ad Wn]) (cB (ts:=[Lv ad Wn]++[Lv ad1 (H.T.map Prod.fst)]) g))) qlt r⟩
  clear T0 cx tb hcap hfew hkn hvn hvo hvk hvl hvm hfr e0 r z c gr fu qlt;generalize outs x.k Wn H.T (H.T.map Prod.fst)=V at *;go_enter Tryz.func62,Tryz.ntmps62;go_wp2_with fail;refine HO.out.mono ?_;rintro e w1 ⟨ad1,ad2,cap2,rfl,h1⟩;have H2:=hid (HT.out _ _ _ h1);clear h1 HO HT;go_wp2_with fail;refine H2.out.mono ?_;rintro e w2 ⟨rfl,h2⟩;have T2:=hid h2;clear h2 H2;go_wp2;go_ret;exact⟨by simp,T2.out⟩
 have hfr':(outs x.k Wn H.T (H.T.map Prod.fst)).length≤Cq.frI x.k M.has Wn:=by omega
 have hA:HpOk (fun _=>True) M ⟨H.W,H.T,H.L,H.ln⟩:=c.ok.weak fun _ _ _=>trivial
 have e0:hMo x.k M H Wn=((aw x.k Wn (outs x.k Wn H.T (H.T.map Prod.fst)) M H.T H.L).1,⟨Wn,(aw x.k Wn (outs x.k Wn H.T (H.T.map Prod.fst)) M H.T H.L).2.1,(aw x.k Wn (outs x.k Wn H.T (H.T.map Prod.fst)) M H.T H.L).2.2,H.ln⟩,0):=by
  unfold hMo;rw[if_neg (by omega),ik _ _ _ _ hkn];rfl
 rw[e0];have HT:Hid (∀w1 ad1 ad2,aa (Bare w) w1 (hl x M R (Old w U) ([Lv ad Wn]++[Lv ad1 (H.T.map Prod.fst)]++[Lv ad2 (outs x.k Wn H.T (H.T.map Prod.fst))]))→Calls Tryz.prog 103 #[.pointer (some ⟨x.h,0,none⟩),.int .i64 ((outs x.k Wn H.T (H.T.map Prod.fst)).length:Int),.slice ad Wn.length cap] w1 fun e w'=>∃ad3 cap3,e=.returned (.tuple #[.slice ad3 (tkL x.k Wn (outs x.k Wn H.T (H.T.map Prod.fst)).length M.has).length cap3,.int .i64 0])∧aa (Bare w) w' (hl x ⟨tkH x.k Wn (outs x.k Wn H.T (H.T.map Prod.fst)).length M.has,M.bs,M.ss⟩ R (Old w U) [Lv ad Wn,Lv ad1 (H.T.map Prod.fst),Lv ad2 (outs x.k Wn H.T (H.T.map Prod.fst)),Lv ad3 (tkL x.k Wn (outs x.k Wn H.T (H.T.map Prod.fst)).length M.has)])):=fun w1 ad1 ad2 h1=>jj cx h1 c.ms.len (fT.first x M.bs M.ss R (Old w U) [Lv ad1 (H.T.map Prod.fst),Lv ad2 (outs x.k Wn H.T (H.T.map Prod.fst))] ad Wn) (by unfold maxLen;omega) hfr' hvm cap
 have HCL:Hid (∀w1 M1 ts,aa (Bare w) w1 (hl x M1 R (Old w U) (Lv ad Wn::ts))→Calls Tryz.prog 94 #[.slice ad Wn.length cap] w1 fun e w'=>∃ad4 cap4,e=.returned (.slice ad4 Wn.length cap4)∧aa (Bare w) w' (hl x M1 R (Old w U) (Lv ad Wn::ts++[Lv ad4 Wn]))):=fun w1 M1 ts h1=>by
  refine(cl17 cap (h1.nums 10 rfl) (by omega)).mono ?_;rintro e w' ⟨⟨ad4,cap4,he,hn,hw⟩,hf⟩;exact⟨ad4,cap4,he,aa.more h1 (Lv.good _ _) (Lv.new hn) hf fun i ⟨⟨off,e⟩,h0⟩=>⟨hw i off e,(Lv.new hn).2.2 i ⟨⟨off,e⟩,h0⟩⟩⟩
 have HST:Hid (∀w1 ad1 ad2 ad3 ad4 cap4,aa (Bare w) w1 (hl x ⟨tkH x.k Wn (outs x.k Wn H.T (H.T.map Prod.fst)).length M.has,M.bs,M.ss⟩ R (Old w U) (Lv ad Wn::[Lv ad1 (H.T.map Prod.fst),Lv ad2 (outs x.k Wn H.T (H.T.map Prod.fst)),Lv ad3 (tkL x.k Wn (outs x.k Wn H.T (H.T.map Prod.fst)).length M.has)]++[Lv ad4 Wn]))→w1.cell? ⟨x.h,2,none⟩=some (.slice x.ad R.W.length x.cap)∧w1.frozen? ⟨x.h,2,none⟩=false∧MvS ⟨x.a,x.m,x.h,x.t,x.k,ad4,cap4,x.A,x.B,x.N,x.pb⟩ (Bare w) (Old w U) M H R Wn (outs x.k Wn H.T (H.T.map Prod.fst)) 0 [Lv ad Wn,Lv ad1 (H.T.map Prod.fst),Lv ad2 (outs x.k Wn H.T (H.T.map Prod.fst)),Lv ad3 (tkL x.k Wn (outs x.k Wn H.T (H.T.map Prod.fst)).length M.has),Lv x.ad R.W] (w1.setCell ⟨x.h,2,none⟩ (.slice ad4 Wn.length cap4))):=fun w1 ad1 ad2 ad3 ad4 cap4 h1=>by
  refine⟨uz (aH h1),hob_z (aH h1) 2,R.pg,⟨rfl,rfl,r.sh,r.ln,r.pg,r.hi,r.cn⟩,?_⟩;have:=rF (ad:=ad4) (cap:=cap4) (ts:=[Lv ad Wn,Lv ad1 (H.T.map Prod.fst),Lv ad2 (outs x.k Wn H.T (H.T.map Prod.fst)),Lv ad3 (tkL x.k Wn (outs x.k Wn H.T (H.T.map Prod.fst)).length M.has)]) h1;rw[r.T] at this;exact this
 have HC:Hid (∀(j:Nat) (hj:j<(outs x.k Wn H.T (H.T.map Prod.fst)).length) (hj2:j<(tkL x.k Wn (outs x.k Wn H.T (H.T.map Prod.fst)).length M.has).length) w1 ad4 cap4 ts,MvS ⟨x.a,x.m,x.h,x.t,x.k,ad4,cap4,x.A,x.B,x.N,x.pb⟩ (Bare w) (Old w U) M H R Wn (outs x.k Wn H.T (H.T.map Prod.fst)) j ts w1→Calls Tryz.prog 104 #[.pointer (some ⟨x.h,0,none⟩),.int .i64 (outs x.k Wn H.T (H.T.map Prod.fst))[j],.int .i64 ((tkL x.k Wn (outs x.k Wn H.T (H.T.map Prod.fst)).length M.has)[j]'hj2)] w1 fun e w'=>e=.returned (.tuple #[])∧MvS ⟨x.a,x.m,x.h,x.t,x.k,ad4,cap4,x.A,x.B,x.N,x.pb⟩ (Bare w) (Old w U) M H R Wn (outs x.k Wn H.T (H.T.map Prod.fst)) (j+1) ts w'):=fun j hj _ w1 ad4 cap4 ts h1=>ui (x:=⟨x.a,x.m,x.h,x.t,x.k,ad4,cap4,x.A,x.B,x.N,x.pb⟩) cx hA c.ms c.ss hvn hvo hvk hfr' hvm hj h1
 have HN:Hid (∀w1 ad1 ad2 ad3 ad4 cap4 j,MvS ⟨x.a,x.m,x.h,x.t,x.k,ad4,cap4,x.A,x.B,x.N,x.pb⟩ (Bare w) (Old w U) M H R Wn (outs x.k Wn H.T (H.T.map Prod.fst)) j [Lv ad Wn,Lv ad1 (H.T.map Prod.fst),Lv ad2 (outs x.k Wn H.T (H.T.map Prod.fst)),Lv ad3 (tkL x.k Wn (outs x.k Wn H.T (H.T.map Prod.fst)).length M.has),Lv x.ad R.W] w1→aA w1 ad2 (outs x.k Wn H.T (H.T.map Prod.fst))∧aA w1 ad3 (tkL x.k Wn (outs x.k Wn H.T (H.T.map Prod.fst)).length M.has)):=fun w1 ad1 ad2 ad3 ad4 cap4 j ⟨pg,_,h1⟩=>⟨h1.nums 12 rfl,h1.nums 13 rfl⟩
 have HF:Hid (∀w1 ad1 ad2 ad3 ad4 cap4,MvS ⟨x.a,x.m,x.h,x.t,x.k,ad4,cap4,x.A,x.B,x.N,x.pb⟩ (Bare w) (Old w U) M H R Wn (outs x.k Wn H.T (H.T.map Prod.fst)) (outs x.k Wn H.T (H.T.map Prod.fst)).length [Lv ad Wn,Lv ad1 (H.T.map Prod.fst),Lv ad2 (outs x.k Wn H.T (H.T.map Prod.fst)),Lv ad3 (tkL x.k Wn (outs x.k Wn H.T (H.T.map Prod.fst)).length M.has),Lv x.ad R.W] w1→∃U',Hs x.a x.m x.h x.t x.k (aw x.k Wn (outs x.k Wn H.T (H.T.map Prod.fst)) M H.T H.L).1 ⟨Wn,(aw x.k Wn (outs x.k Wn H.T (H.T.map Prod.fst)) M H.T H.L).2.1,(aw x.k Wn (outs x.k Wn H.T (H.T.map Prod.fst)) M H.T H.L).2.2,H.ln⟩ w1 U'∧Gw w w1 U U'):=fun w1 ad1 ad2 ad3 ad4 cap4 h1=>by
  unfold MvS at h1;rw[List.take_length,Nat.sub_self] at h1;obtain⟨pg,rp,h1⟩:=h1;have h2:=cB (ts:=[Lv ad Wn,Lv ad1 (H.T.map Prod.fst),Lv ad2 (outs x.k Wn H.T (H.T.map Prod.fst)),Lv ad3 (tkL x.k Wn (outs x.k Wn H.T (H.T.map Prod.fst)).length M.has)]) h1;have h3:=cB (ts:=[]) (cB (ts:=[Lv ad Wn]) (cB (ts:=[Lv ad Wn,Lv ad1 (H.T.map Prod.fst)]) (cB (ts:=[Lv ad Wn,Lv ad1 (H.T.map Prod.fst),Lv ad2 (outs x.k Wn H.T (H.T.map Prod.fst))]) h2)));exact Hz.finish (x:=⟨x.a,x.m,x.h,x.t,x.k,ad4,cap4,x.A,x.B,x.N,x.pb⟩) h3 qlt rp
 have HTL:Hid ((tkL x.k Wn (outs x.k Wn H.T (H.T.map Prod.fst)).length M.has).length=(outs x.k Wn H.T (H.T.map Prod.fst)).length):=bw _ _;clear T0 cx tb hcap hfew hkn hvn hvo hvk hvl hfr hfr' e0 r z c gr fu qlt hA hW;generalize tkL x.k Wn (outs x.k Wn H.T (H.T.map Prod.fst)).length M.has=PG at *;generalize outs x.k Wn H.T (H.T.map Prod.fst)=V at *;generalize Wn.length=wl at *;go_enter Tryz.func62,Tryz.ntmps62;go_wp2_with fail;refine HO.out.mono ?_;rintro e w1 ⟨ad1,ad2,cap2,rfl,h1⟩;have H2:=hid (HT.out _ _ _ h1);clear h1 HO HT;go_wp2_with fail;refine H2.out.mono ?_;rintro e w2 ⟨ad3,cap3,rfl,h2⟩;have H3:=hid (HCL.out _ _ _ h2);clear h2 H2 HCL;go_wp2_with fail;refine H3.out.mono ?_;rintro e w3 ⟨ad4,cap4,rfl,h3⟩;obtain⟨c2,c2f,h4⟩:=HST.out w3 ad1 ad2 ad3 ad4 cap4 h3;have T4:=hid h4;clear h3 h4 H3 HST;go_wp2_with fail;go_loopw [33] (fun i wr=>∃j:Nat,j≤V.length∧i=.int .i64 j∧Hid (MvS ⟨x.a,x.m,x.h,x.t,x.k,ad4,cap4,x.A,x.B,x.N,x.pb⟩ (Bare w) (Old w U) M H R Wn V j [Lv ad Wn,Lv ad1 (H.T.map Prod.fst),Lv ad2 V,Lv ad3 PG,Lv x.ad R.W] wr)) (fun i _=>V.length - (intOf i).toNat)
 case atStart=>exact⟨0,by omega,rfl,T4⟩
 case round=>
  clear T4 c2 c2f;obtain⟨j,hj,rfl,T⟩:=hrel;by_cases hlt:j<V.length
  ·obtain⟨N1,N2⟩:=HN.out _ _ _ _ _ _ _ T.out;have hl3:=HTL.out;have hj2:j<PG.length:=by omega
   obtain⟨b1,o1,rfl,hb1,hc1⟩:=N1 j hlt;obtain⟨b2,o2,rfl,hb2,hc2⟩:=N2 j hj2;have H2:=hid (HC.out j hlt hj2 _ _ _ _ T.out);have hpl:(j:Int)<(PG.length:Int):=by omega
   clear N1 N2 T HN HC hl3 HF;generalize V[j]=v at *;generalize PG[j]=p at *;go_wp2_with fail;refine H2.out.mono ?_;rintro e w5 ⟨rfl,h5⟩;have T5:=hid h5;clear h5 H2;go_wp2;go_roundw
   case rel=>exact⟨j+1,by omega,by go_num,T5⟩
   case measure=>simp[intOf];omega
  ·obtain rfl:j=V.length:=by omega
   have T6:=hid (HF.out _ _ _ _ _ _ T.out);clear HN HC HF T;go_wp2;go_ret;exact⟨by simp,T6.out⟩
end
end Go.Proofs.YtndhbnhobhkmaaaGreatDoor
namespace Go.Proofs.YtndhbnhobhkmaaaGreatDoor
open Go.RowKit
theorem aa.oP{W w:World}{ts:List (World→(Nat→Prop)→Prop)}{R:World→(Nat→Prop)→Prop}(h:aa W w (ts++[R]))(j:Nat):aa W w (ts.set j R):=by
 classical
 by_cases hj:j<ts.length
 case neg=>
  have e:ts.set j R=ts:=List.set_eq_of_length_le (by omega);rw[e];exact aa.less h
 obtain⟨o,h1,h2,h3,h4⟩:=h;have hb:∀i,o i≤ts.length+1:=fun i=>by have:=h2 i;simpa using this
 refine⟨fun i=>if o i=ts.length+1 then j+1 else if o i=j+1 then 0 else o i,⟨h1.nw,fun i hi=> ?_⟩,fun i=> ?_,fun Q hQ=> ?_,fun m Q hm=> ?_⟩
 ·refine h1.dom i fun e=>hi ?_
  simp[e]
 ·rw[List.length_set];show(if o i=ts.length+1 then j+1 else if o i=j+1 then 0 else o i)≤ts.length;have:=hb i;split
  ·omega
  ·split<;>omega
 ·rcases List.mem_or_eq_of_mem_set hQ with e|rfl
  ·exact h3 Q (List.mem_append_left _ e)
  ·exact h3 Q (by simp)
 ·rw[List.getElem?_set] at hm;split at hm
  case isTrue e=>
   subst e;simp only[Option.some.injEq] at hm;subst hm;have hG:=h3 R (by simp);have hp:=h4 ts.length R (by simp);refine hG.mono hp (fun i hi=> ?_) fun i hi=> ?_
   ·have h5:o i=ts.length+1:=hi;show(if o i=ts.length+1 then j+1 else if o i=j+1 then 0 else o i)=j+1;rw[if_pos h5]
   ·have h5:(if o i=ts.length+1 then j+1 else if o i=j+1 then 0 else o i)=j+1:=hi;refine(h1.dom i fun e=> ?_).2;simp[e] at h5
  case isFalse e=>
   have hml:=(List.getElem?_eq_some_iff.1 hm).1;have hG:=h3 Q (List.mem_append_left _ (List.mem_of_getElem? hm));have hp:=h4 m Q (by rw[List.getElem?_append_left hml];exact hm);refine hG.mono hp (fun i hi=> ?_) fun i hi=> ?_
   ·have h5:o i=m+1:=hi;show(if o i=ts.length+1 then j+1 else if o i=j+1 then 0 else o i)=m+1;rw[if_neg (by omega),if_neg (by omega)];exact h5
   ·have h5:(if o i=ts.length+1 then j+1 else if o i=j+1 then 0 else o i)=m+1:=hi;refine(h1.dom i fun e=> ?_).2;simp[e] at h5
end Go.Proofs.YtndhbnhobhkmaaaGreatDoor
