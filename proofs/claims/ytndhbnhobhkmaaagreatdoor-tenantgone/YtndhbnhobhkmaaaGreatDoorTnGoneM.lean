/-
  What the calls of a tenant leave, way by way.
  Handles that are gone stay gone: what each call leaves of a tenant's handles.
-/
import Derived.Test.YtndhbnhobhkmaaaGreatDoorTnDead
namespace Go.Proofs.YtndhbnhobhkmaaaGreatDoor
open Go.RowKit
open An
def FreeW(S:TnS)(hh:Int)(S':TnS)(E:Int):Prop:=(Ka.fiE S.c hh 4≠0∧S'=S∧E=Ka.fiE S.c hh 4)∨(Ka.fiE S.c hh 4=0∧E=0∧∃(y:Int×Int) (c s j:Nat),S.f (Ka.fiV S.c hh 4)=some y∧HadB S.H.L c s j∧Ka.fiV S.c hh 4=adI c s j∧S'=rlS S (Ka.fiV S.c hh 4) c s j 0 y.2)
def ReW(k:Nat)(S:TnS)(hh n:Int)(S':TnS)(E hd:Int):Prop:=
 (Ka.fiE S.c hh 4≠0∧S'=S∧E=Ka.fiE S.c hh 4∧hd=0)∨
 (Ka.fiE S.c hh 4=0∧ofI n<0∧S'=S∧E=2∧hd=0)∨
 (Ka.fiE S.c hh 4=0∧0≤ofI n∧∃y:Int×Int,S.f (Ka.fiV S.c hh 4)=some y∧
  ((ag n≤y.2∧E=0∧hd=hh∧((y.1≤n∧S'=ctS S (Ka.fiV S.c hh 4) n y.2)∨(n<y.1∧S'=ctS (czS S (Ka.fiV S.c hh 4) n y.1) (Ka.fiV S.c hh 4) n y.2)))∨
   (y.2<ag n∧tkE k S n≠0∧S'=S∧E=tkE k S n∧hd=0)∨
   (y.2<ag n∧tkE k S n=0∧∃(c s j c' s' j':Nat) (M':Ms) (H':Hp),HadB S.H.L c s j∧Ka.fiV S.c hh 4=adI c s j∧hM k S.M S.H n=(M',H',adI c' s' j',0)∧Gave (fun q=>Cq.inW k S.H.W q=true) S.M S.H n M' H' (adI c' s' j') c' s' j'∧S.s.cb+ag n≤S.s.lb∧Hc k ⟨M'.has,vcB H'.T M'.bs (adI c' s' j') (Ka.fiV S.c hh 4) y.1,vcT H'.T M'.bs.length M'.ss (adI c' s' j') (Ka.fiV S.c hh 4) y.1⟩ H'∧E=Ka.grE (Ka.rvS S.c (Ka.fiV S.c hh 4)) (adI c' s' j')∧hd=Ka.grV (Ka.rvS S.c (Ka.fiV S.c hh 4)) (adI c' s' j')∧S'=owS (rlS { S.took M' H' (ag n) with M:=⟨M'.has,vcB H'.T M'.bs (adI c' s' j') (Ka.fiV S.c hh 4) y.1,vcT H'.T M'.bs.length M'.ss (adI c' s' j') (Ka.fiV S.c hh 4) y.1⟩ } (Ka.fiV S.c hh 4) c s j 0 y.2) (adI c' s' j') n)))
section
variable{W w:World}{x:Tp}{S:TnS}{ts:List (World→(Nat→Prop)→Prop)}{b:Nat}{n a:Int}
theorem ng(g:aa W w (tnl x S ts))(gr:G17 W)(h:TnOk x S b)(hb:b≤800000){p:Int}(hp:I64 p)(hn:I64 n):Calls Tryz.prog 33 #[.pointer (some ⟨x.T,0,none⟩),.int .i64 p,.int .i64 n] w fun e w'=>∃S' E hd ad,((p<1∨n<1∨8192<p * n)∧S'=S∧E=2∧hd=0∨¬(p<1∨n<1∨8192<p * n)∧S'=mlS x.k S (p * n)∧E=mlE x.k S (p * n)∧hd=mlH x.k S (p * n))∧TnOk x S' (b+2)∧U64 hd∧e=.returned (ans E hd ad 0 ⟨#[]⟩ S'.s.cb)∧aa W w' (tnl x S' ts):=by
 by_cases hk:p<1∨n<1∨8192<p * n
 ·exact(nL g hp hn hk).mono fun e w' ⟨he,g'⟩=>⟨S,2,0,0,.inl ⟨hk,rfl,rfl,rfl⟩,h.less (by omega),by unfold U64;omega,he,g'⟩
 ·refine(lP (p:=p) (n:=n) g (by omega) (by omega) (by omega) fun w ts g=>lu g gr h (n:=p * n) ?_).mono fun e w' ⟨he,g'⟩=>⟨mlS x.k S (p * n),_,_,_,.inr ⟨hk,rfl,rfl,rfl⟩,h.mall hb _,?_,he,g'⟩
  ·have:0≤p * n:=Int.mul_nonneg (by omega) (by omega);omega
  ·unfold mlH;split
   ·exact BG ..
   ·unfold U64;omega
theorem sv(g:aa W w (tnl x S ts))(gr:G17 W)(h:TnOk x S b)(hb:b≤800000){hh:Int}(h0:U64 hh):Calls Tryz.prog 20 #[.pointer (some ⟨x.T,0,none⟩),.int .u64 hh] w fun e w'=>∃S' E,FreeW S hh S' E∧TnOk x S' (b+18)∧e=.returned (ans E 0 0 0 ⟨#[]⟩ S'.s.cb)∧aa W w' (tnl x S' ts):=by
 by_cases hf:Ka.fiE S.c hh 4=0
 ·obtain⟨y,hy⟩:=h.found hf;obtain⟨c,s,j,hd,p,_,ea,ey,_,_,y1,y2,a1,a2⟩:=h.obj hy;have:=lL g gr h.hc h0.1 h0.2 hf (kd:=c) (s:=s) (i:=j) (E:=0) (.inl ⟨rfl,p,ea.symm⟩) (by omega) hy (by unfold Rt;omega);exact this.mono fun e w' ⟨he,g'⟩=>⟨_,_,.inr ⟨hf,rfl,y,c,s,j,hy,hd,ea,rfl⟩,h.released hb hy hd ea,he,g'⟩
 ·exact(lM g h0.1 h0.2 hf).mono fun e w' ⟨he,g'⟩=>⟨S,_,.inl ⟨hf,rfl,rfl⟩,h.less (by omega),he,g'⟩
set_option maxRecDepth 20000 in
theorem lq(g:aa W w (tnl x S ts))(gr:G17 W)(h:TnOk x S b)(hb:b≤700000){hh:Int}(h0:U64 hh)(hn:I64 n):Calls Tryz.prog 21 #[.pointer (some ⟨x.T,0,none⟩),.int .u64 hh,.int .i64 n] w fun e w'=>∃S' E hd ad,ReW x.k S hh n S' E hd∧TnOk x S' (b+100)∧U64 hd∧e=.returned (ans E hd ad 0 ⟨#[]⟩ S'.s.cb)∧aa W w' (tnl x S' ts):=by
 have u0:U64 0:=by unfold U64;omega
 by_cases hf:Ka.fiE S.c hh 4=0
 case neg=>exact(fK g h0.1 h0.2 hf).mono fun e w' ⟨he,g'⟩=>⟨S,_,_,_,.inl ⟨hf,rfl,rfl,rfl⟩,h.less (by omega),u0,he,g'⟩
 by_cases hk:ofI n<0
 case pos=>exact(iU g gr h0.1 h0.2 hf hk).mono fun e w' ⟨he,g'⟩=>⟨S,_,_,_,.inr (.inl ⟨hf,hk,rfl,rfl,rfl⟩),h.less (by omega),u0,he,g'⟩
 obtain⟨y,hy⟩:=h.found hf;obtain⟨c,s,j,hd,p,_,ea,ey,z1,z2,y1,y2,a1,a2⟩:=h.obj hy;have hrt:Rt y.2 0:=by unfold Rt;omega
 have hn1:1≤n∧n≤8192:=by
  by_cases k:n<1∨8192<n
  ·have:=(cy n).2 k;omega
  ·omega
 have hfit:n≤ag n:=by rw[dm n hn1.1 hn1.2];exact jY n hn1.1 hn1.2
 have hss:=h.ss;by_cases hcg:ag n≤y.2
 ·by_cases hup:y.1≤n
  ·refine(db (S1:=ctS S (Ka.fiV S.c hh 4) n y.2) g gr h0.1 h0.2 hf (by omega) (by omega) hy hrt hcg rfl fun w ts g=>pG g (by omega) h.maxLen hy hup).mono fun e w' ⟨he,g'⟩=>⟨_,_,_,_,.inr (.inr ⟨hf,by omega,y,hy,.inl ⟨hcg,rfl,rfl,.inl ⟨hup,rfl⟩⟩⟩),(h.sized hy hn1.1 (by omega)).less (by omega),h0,he,g'⟩
  ·obtain⟨v1,_⟩:=hd.ans (f:=n.toNat) (m:=(y.1 - n).toNat) h.hc.ok h.hc.ms (by omega);have e1:adI c s j+((n.toNat:Nat):Int)=Ka.fiV S.c hh 4+n:=by rw[ea];omega
   rw[e1,show(((y.1 - n).toNat:Nat):Int)=y.1 - n by omega] at v1;have hl:=(mz h.hc.ok.tp.tb S.M.bs.length S.M.ss (Ka.fiV S.c hh 4+n) (n:=y.1 - n) (by omega)).2;have hw:=h.hc.wrote hd (f:=n.toNat) (ds:=List.replicate (y.1 - n).toNat 0) (by rw[List.length_replicate];omega) (ss':=vwT S.H.T S.M.bs.length S.M.ss (Ka.fiV S.c hh 4+n) (y.1 - n)) (by omega);rw[e1,←vz_vw h.hc.ok.tp.tb _ _ (by omega)] at hw;have ok1:TnOk x (czS S (Ka.fiV S.c hh 4) n y.1) (b+40):=h.mem hw (by show(vwT S.H.T S.M.bs.length S.M.ss (Ka.fiV S.c hh 4+n) (y.1 - n)).length≤_;omega) rfl;have ok2:=ok1.sized (a:=Ka.fiV S.c hh 4) (y:=y) hy hn1.1 (by omega);exact(db (S1:=ctS (czS S (Ka.fiV S.c hh 4) n y.1) (Ka.fiV S.c hh 4) n y.2) g gr h0.1 h0.2 hf (by omega) (by omega) hy hrt hcg rfl fun w ts g=>qO g h.hc (by omega) h.maxLen hy (by omega) v1).mono fun e w' ⟨he,g'⟩=>⟨_,_,_,_,.inr (.inr ⟨hf,by omega,y,hy,.inl ⟨hcg,rfl,rfl,.inr ⟨by omega,rfl⟩⟩⟩),ok2.less (by omega),h0,he,g'⟩
 ·by_cases hE:tkE x.k S n=0
  ·obtain⟨c',s',j',M',H',h1,gv,h3,h4,h5,h6,h7⟩:=vQ h.q h.hc hE;obtain⟨okA',hno,hch,_,hnf⟩:=h.took (by omega) h1 gv h5 h7 (C:=S.c) ⟨rfl,fun z hz=>.inl hz⟩;have hbn:HadB H'.L c' s' j':=(gv.had c' s' j').2 (.inr ⟨rfl,rfl,rfl⟩);have hco:=okA'.hc;have hco':Hc x.k M' H':=hco;obtain⟨p',_,_⟩:=hbn.there hco'.ok;have hi':=p'.inside;have hu':=cG c' (by omega) (by omega);have hbo:HadB H'.L c s j:=(gv.had c s j).2 (.inl hd);have hM'ss:M'.ss.length≤b+2:=okA'.ss
   -- the copy
   obtain⟨v1,_⟩:=hbn.ans (f:=0) (m:=y.1.toNat) hco'.ok hco'.ms (by omega);obtain⟨v2,_⟩:=hbo.ans (f:=0) (m:=y.1.toNat) hco'.ok hco'.ms (by omega);rw[show((y.1.toNat:Nat):Int)=y.1 by omega,show adI c' s' j'+((0:Nat):Int)=adI c' s' j' by omega] at v1;rw[show((y.1.toNat:Nat):Int)=y.1 by omega,show adI c s j+((0:Nat):Int)=adI c s j by omega,←ea] at v2;have hv1:VwOk H'.T M'.bs.length (adI c' s' j') y.1:=by
    by_cases k:VwOk H'.T M'.bs.length (adI c' s' j') y.1
    ·exact k
    ·unfold vwE at v1;rw[if_neg k] at v1;omega
   have hv2:VwOk H'.T M'.bs.length (Ka.fiV S.c hh 4) y.1:=by
    by_cases k:VwOk H'.T M'.bs.length (Ka.fiV S.c hh 4) y.1
    ·exact k
    ·unfold vwE at v2;rw[if_neg k] at v2;omega
   have hvc:VcOk H'.T M'.bs.length (adI c' s' j') (Ka.fiV S.c hh 4) y.1:=⟨hv1,hv2⟩;obtain⟨w1,w2⟩:=vc_vw hco'.ok.tp.tb (by omega) hvc;have hl:=vc_few hco'.ok.tp.tb M'.bs.length M'.ss (adI c' s' j') (Ka.fiV S.c hh 4) (n:=y.1) (by omega);have hw:=hco'.wrote hbn (f:=0) (ds:=vrV H'.T M'.bs (Ka.fiV S.c hh 4) y.1) (by rw[w2];omega) (ss':=vcT H'.T M'.bs.length M'.ss (adI c' s' j') (Ka.fiV S.c hh 4) y.1) (by omega);rw[show adI c' s' j'+((0:Nat):Int)=adI c' s' j' by omega,←w1] at hw
   -- what is left, with the new object first
   have okB:=okA'.mem (M':=⟨M'.has,vcB H'.T M'.bs (adI c' s' j') (Ka.fiV S.c hh 4) y.1,vcT H'.T M'.bs.length M'.ss (adI c' s' j') (Ka.fiV S.c hh 4) y.1⟩) (b':=b+42) hw (by show(vcT H'.T M'.bs.length M'.ss (adI c' s' j') (Ka.fiV S.c hh 4) y.1).length≤_;omega) rfl;have hne:adI c' s' j'≠Ka.fiV S.c hh 4:=fun e=>by rw[e,hy] at hno;cases hno
   have hn1':=(h.ks.le (fun a y e=>by obtain⟨_,_,_,_,_,_,_,_,_,_,q1,_⟩:=h.obj e;exact q1) hy).2;have okR:=okB.released (by omega) (a:=Ka.fiV S.c hh 4) (y:=y) (by show(if Ka.fiV S.c hh 4=adI c' s' j' then some (n,ag n) else S.f (Ka.fiV S.c hh 4))=some y;rw[if_neg fun e=>hne e.symm];exact hy) hbo ea;have hgm:=uE (c:=Ka.rvS S.c (Ka.fiV S.c hh 4)) (a:=adI c' s' j');have okE:=okR.caps (C:=Ka.grS (Ka.rvS S.c (Ka.fiV S.c hh 4)) (adI c' s' j')) hgm.1 fun z hz=>by
    rcases hgm.2 z hz with k|k
    ·exact okR.sl z k
    ·rw[k];show(if adI c' s' j'=Ka.fiV S.c hh 4 then none else if adI c' s' j'=adI c' s' j' then some (n,ag n) else S.f (adI c' s' j')).isSome=true;rw[if_neg hne,if_pos rfl];rfl
   rw[←mv_eq S M' _ H' n (Ka.fiV S.c hh 4) (adI c' s' j') y.2 c s j hno hne hn1'] at okE;have hE1:vcE H'.T M'.bs.length (adI c' s' j') (Ka.fiV S.c hh 4) y.1=0:=if_pos hvc;refine(iV (S1:=S.took M' H' (ag n)) (S2:={ S.took M' H' (ag n) with M:=⟨M'.has,vcB H'.T M'.bs (adI c' s' j') (Ka.fiV S.c hh 4) y.1,vcT H'.T M'.bs.length M'.ss (adI c' s' j') (Ka.fiV S.c hh 4) y.1⟩ }) (S3:=rlS { S.took M' H' (ag n) with M:=⟨M'.has,vcB H'.T M'.bs (adI c' s' j') (Ka.fiV S.c hh 4) y.1,vcT H'.T M'.bs.length M'.ss (adI c' s' j') (Ka.fiV S.c hh 4) y.1⟩ } (Ka.fiV S.c hh 4) c s j 0 y.2) (tv:=adI c' s' j') g gr h0.1 h0.2 hf (by omega) (by omega) hy hrt (by omega) hy hy (fun w ts g=> ?_) (fun w ts g=> ?_) (fun w ts g=>lI g gr hw (.inl ⟨rfl,p,ea.symm⟩) (by omega) hy hrt) (fun w ts g=>n_own (n:=n) g gr (by omega) (by show S.n - 1<maxLen;have:=h.maxLen;omega))).mono fun e w' ⟨he,g'⟩=>⟨_,_,_,_,.inr (.inr ⟨hf,by omega,y,hy,.inr (.inr ⟨by omega,hE,c,s,j,c',s',j',M',H',hd,ea,h1,gv,h5,hw,rfl,rfl,rfl⟩)⟩),okE.less (by omega),BG ..,he,g'⟩
   ·have ht:=pE g gr h.hc hn;rw[hE,h3,h4] at ht;exact ht
   ·have ht:=Bg (y:=adI c' s' j') (z:=Ka.fiV S.c hh 4) (n:=y.1) g (j:=0) rfl hco' (by omega) (by omega) (by omega) (by omega);rw[show vcE (S.took M' H' (ag n)).H.T (S.took M' H' (ag n)).M.bs.length (adI c' s' j') (Ka.fiV S.c hh 4) y.1=0 from hE1] at ht;exact ht
  ·obtain⟨e1,_⟩:=tk_no h.q h.hc hE;have:=dG g gr h.hc h0.1 h0.2 hf (by omega) (by omega) hy hrt (by omega) hn hE;rw[e1] at this;exact this.mono fun e w' ⟨he,g'⟩=>⟨S,_,_,_,.inr (.inr ⟨hf,by omega,y,hy,.inr (.inl ⟨by omega,hE,rfl,rfl,rfl⟩)⟩),h.less (by omega),u0,he,g'⟩
theorem nf{ad:Option Addr}{l:List Int}{cap:Nat}(g:aa W w (tnl x S (Lv ad l::ts)))(gr:G17 W)(h:TnOk x S b)(hb:b+1536≤890000)(hl:l.length≤100000)(q:Int):Calls Tryz.prog 34 #[.pointer (some ⟨x.T,0,none⟩),.int .i64 q,.slice ad l.length cap] w fun e w'=>∃x' S' E,((fitE S.s.cb x.pk q (pgI S.M.has.length x.k l)≠0∧x'=x∧S'=S∧E=fitE S.s.cb x.pk q (pgI S.M.has.length x.k l))∨(fitE S.s.cb x.pk q (pgI S.M.has.length x.k l)=0∧(hMo x.k S.M S.H l).2.2≠0∧x'=x∧S'=S∧E=(hMo x.k S.M S.H l).2.2)∨(fitE S.s.cb x.pk q (pgI S.M.has.length x.k l)=0∧(hMo x.k S.M S.H l).2.2=0∧x'=x.peak (npI S.s.cb x.pk q)∧S'=rzS x.k S q l∧E=Qt.rszE S.s (okA q 0) (okB q 0)))∧TnOk x' S' (b+1536)∧x'.T=x.T∧e=.returned (.int .i64 E)∧aa W w' (tnl x' S' ts):=by
 have hp:=vO (cap:=cap) g gr h.hc (by omega);by_cases hE:fitE S.s.cb x.pk q (pgI S.M.has.length x.k l)=0
 ·have hq:May q∧S.s.cb≤q:=by
   unfold fitE at hE;split at hE
   ·omega
   ·split at hE
    ·omega
    ·unfold May;omega
  by_cases hmo:(hMo x.k S.M S.H l).2.2=0
  ·exact(nJ g gr h.hc hl hp hE hmo).mono fun e w' ⟨he,g'⟩=>⟨_,_,_,.inr (.inr ⟨hE,hmo,rfl,rfl,rfl⟩),h.moved (p:=npI S.s.cb x.pk q) (by omega) hb hmo hq.1 hq.2,rfl,he,bg g'⟩
  ·have e1:(hMo x.k S.M S.H l).1=S.M∧(hMo x.k S.M S.H l).2.1=S.H:=by
    unfold hMo at hmo ⊢;split
    ·exact⟨rfl,rfl⟩
    ·rename_i k;rw[if_neg k] at hmo;exact(hmo rfl).elim
   have:=ke g gr h.hc hl hp hE hmo;rw[e1.1,e1.2] at this;exact this.mono fun e w' ⟨he,g'⟩=>⟨x,S,_,.inr (.inl ⟨hE,hmo,rfl,rfl,rfl⟩),h.less (by omega),rfl,he,bg g'⟩
 ·exact(lH g gr hp hE).mono fun e w' ⟨he,g'⟩=>⟨x,S,_,.inl ⟨hE,rfl,rfl,rfl⟩,h.less (by omega),rfl,he,bg g'⟩
theorem sw(g:aa W w (tnl x S ts))(gr:G17 W)(h:TnOk x S b)(hb:b+512≤890000):Calls Tryz.prog 35 #[.pointer (some ⟨x.T,0,none⟩)] w fun e w'=>∃x' S',(S'=drS S x.id∧∃c B,x'=x.dropped c B)∧TnOk x' S' (b+512)∧x'.T=x.T∧e=.returned (.tuple #[])∧aa W w' (tnl x' S' ts):=
 (n_drop g gr h.hc h.id).mono fun _ _ ⟨he,c,B,g'⟩=>⟨x.dropped c B,_,⟨rfl,c,B,rfl⟩,h.dropped hb c B,rfl,he,g'⟩
end
namespace Ka
structure CW(c c':Ct):Prop where
 nx:c.nx≤c'.nx
 T:c'.T=c.T
 new:∀z∈c'.L,z∈c.L∨c.nx≤z.n
section
variable{c c' c'':Ct}{a hh k:Int}{z:Sl}
theorem CW.refl(c:Ct):CW c c:=⟨Int.le_refl _,rfl,fun _=>.inl⟩
theorem CW.trans(h:CW c c')(h':CW c' c''):CW c c'':=⟨Int.le_trans h.nx h'.nx,h'.T.trans h.T,fun z hz=>(h'.new z hz).elim (h.new z) fun e=>.inr (Int.le_trans h.nx e)⟩
theorem vj(h:c.Ok)(hz:z∈c.L):z.bits c.T / 1048576=z.n:=(back (h.kr z hz).1).2.2.2.2
theorem nN(h:c.Ok)(e:look c k=some z):k / 1048576<c.nx:=by
 obtain⟨h1,h2⟩:=bR e;rw[←h2,vj h h1];exact(h.kr z h1).2.1
theorem CW.dead(w:CW c c')(ok':c'.Ok)(h1:look c k=none)(h2:k / 1048576<c.nx):look c' k=none:=by
 cases e:look c' k with
 |none=>rfl
 |some z=>
  obtain⟨m,b⟩:=bR e;rcases w.new z m with h|h
  ·refine(lY h1 z h ?_).elim;rw[←w.T];exact b
  ·have:=vj ok' m;rw[b] at this;omega
theorem CW.gr(a:Int):CW c (grS c a):=by
 unfold grS;split
 ·exact .refl _
 ·unfold plS;split
  ·refine⟨by show c.nx≤c.nx+1;omega,rfl,fun z hz=> ?_⟩;have hz2:z∈c.L.take (scan c.L 0).1++c.slot 0 7 a::c.L.drop (scan c.L 0).1:=hz;rcases List.mem_append.1 hz2 with h|h
   ·exact .inl (List.mem_of_mem_take h)
   ·rcases List.mem_cons.1 h with rfl|h
    ·exact .inr (Int.le_refl _)
    ·exact .inl (List.mem_of_mem_drop h)
  ·exact .refl _
theorem xC(ok:c.Ok)(h:grV c a≠0):grV c a / 1048576=c.nx∧c.nx<(grS c a).nx:=by
 unfold grV at h ⊢;unfold grS;by_cases k:a<0
 ·rw[if_pos k] at h;exact(h rfl).elim
 ·rw[if_neg k] at h ⊢;rw[if_neg k];unfold plV at h ⊢;unfold plS;by_cases q:c.can 0 4096
  ·rw[if_pos q] at h ⊢;rw[if_pos q];refine⟨(back (ok.sD (lo:=0) (hi:=4096) (r:=7) (by omega) (by omega) (by omega) q)).2.2.2.2,?_⟩;show c.nx<c.nx+1;omega
  ·rw[if_neg q] at h;exact(h rfl).elim
theorem CW.rv(a:Int):CW c (rvS c a):=⟨Int.le_refl _,rfl,fun _ hz=>.inl (List.mem_filter.1 hz).1⟩
theorem og(h:fiE c hh k=0):∃z,look c hh=some z∧fiV c hh k=z.a:=by
 unfold fiE at h;unfold fiV;cases e:look c hh with
 |none=>rw[e] at h;simp at h
 |some z=>
  rw[e] at h;simp only at h ⊢;by_cases q:fiOk z k
  ·exact⟨z,rfl,if_pos q⟩
  ·rw[if_neg q] at h;simp at h
theorem sO(ok:c.Ok)(h:fiE c hh k=0):look (rvS c (fiV c hh k)) hh=none:=by
 obtain⟨z,h1,h2⟩:=og h;obtain⟨m1,b1⟩:=bR h1;cases e:look (rvS c (fiV c hh k)) hh with
 |none=>rfl
 |some y=>
  obtain⟨m,b⟩:=bR e;obtain⟨m2,m3⟩:=List.mem_filter.1 (show y∈c.L.filter fun x=>decide (x.a≠fiV c hh k) from m);have e2:y.bits c.T=z.bits c.T:=(show y.bits c.T=hh from b).trans b1.symm;have e3:=lv ok m2 m1 (ju ok m2 m1 e2).1;subst e3;rw[h2] at m3;simp at m3
theorem cD{r:Int}(h:look c k=none):fiE c k r=5:=by unfold fiE;rw[h]
theorem Ao{r:Int}(h:look c k=none):reE c k r=5∧reV c k r=0∧reS c k r=c:=by unfold reE reV reS;rw[h];exact⟨rfl,rfl,rfl⟩
end
structure Gn(c c':Ct)(kd hh E hd:Int):Prop where
 cw:CW c c'
 old:hd≠0→(hd=hh∧∃z,look c hh=some z)∨c.nx≤hd / 1048576
 lt:hd≠0→hd / 1048576<c'.nx
 gone:(kd=3∨kd=4∧hd≠hh)→E=0→(∃z,look c hh=some z)∧look c' hh=none
 z3:kd=3∨kd=10→hd=0
 drop:kd=10→c'.L=[]
theorem Gn.same(c:Ct){kd hh E:Int}(h3:kd≠3)(h4:kd≠4)(h10:kd≠10):Gn c c kd hh E 0:=⟨.refl _,fun h=>(h rfl).elim,fun h=>(h rfl).elim,fun h=>by omega,fun _=>rfl,fun h=>(h10 h).elim⟩
theorem Gn.err(c:Ct){kd hh E:Int}(hE:E≠0)(h10:kd≠10):Gn c c kd hh E 0:=⟨.refl _,fun h=>(h rfl).elim,fun h=>(h rfl).elim,fun _ e=>(hE e).elim,fun _=>rfl,fun h=>(h10 h).elim⟩
structure Iv18(c:Ct)(gl dl:List Int):Prop where
 gl:∀k∈gl,k / 1048576<c.nx
 dl:∀k∈dl,look c k=none∧k / 1048576<c.nx
section
variable{c c':Ct}{gl dl dl':List Int}{kd hh E hd:Int}
theorem Iv18.start(c:Ct):Iv18 c [] []:=⟨fun k h=>(by cases h),fun k h=>(by cases h)⟩
theorem Iv18.step(h:Iv18 c gl dl)(g:Gn c c' kd hh E hd)(ok:c.Ok)(ok':c'.Ok)(hd1:∀k∈dl',k∈dl∨(k=hh∧(kd=3∨kd=4∧hd≠hh)∧E=0)∨(k∈gl∧kd=10)):Iv18 c' gl dl'∧(hd≠0→hd∉dl'):=by
 have hnx:=g.cw.nx;refine⟨⟨fun k hk=>by have:=h.gl k hk;omega,fun k hk=> ?_⟩,fun h0 hk=> ?_⟩
 ·rcases hd1 k hk with e|⟨rfl,e1,e2⟩|⟨e1,e2⟩
  ·obtain⟨a1,a2⟩:=h.dl k e;exact⟨g.cw.dead ok' a1 a2,by omega⟩
  ·obtain⟨⟨z,hz⟩,h2⟩:=g.gone e1 e2;have:=nN ok hz;exact⟨h2,by omega⟩
  ·have:=h.gl k e1;refine⟨?_,by omega⟩;unfold look;rw[g.drop e2];rfl
 ·rcases hd1 hd hk with e|⟨e0,e1,e2⟩|⟨e1,e2⟩
  ·obtain⟨a1,a2⟩:=h.dl hd e;rcases g.old h0 with⟨rfl,z,hz⟩|q
   ·rw[a1] at hz;cases hz
   ·omega
  ·rcases e1 with e1|⟨_,e1⟩
   ·exact h0 (g.z3 (.inl e1))
   ·exact e1 e0
  ·exact h0 (g.z3 (.inr e2))
theorem Iv18.push(h:Iv18 c gl dl)(hl:hd / 1048576<c.nx):Iv18 c (gl++[hd]) dl:=⟨fun k hk=>by
 rcases List.mem_append.1 hk with e|e
 ·exact h.gl k e
 ·rw[List.mem_singleton.1 e];exact hl,h.dl⟩
end
end Ka
section
variable{x:Tp}{S S':TnS}{b:Nat}{hh n E hd kd:Int}
theorem uH(h:TnOk x S b)(ok:S.c.Ok)(h3:kd≠3)(h4:kd≠4)(h10:kd≠10):Ka.Gn S.c (mlS x.k S n).c kd hh (mlE x.k S n) (mlH x.k S n):=by
 unfold mlS mlH;by_cases hE:tkE x.k S n=0
 ·rw[if_pos hE,if_pos hE];obtain⟨c,s,j,M',H',_,_,e3,e4,_⟩:=vQ h.q h.hc hE;rw[e3,e4];refine⟨.gr _,fun q=> ?_,fun q=> ?_,fun q=>by omega,fun q=>by omega,fun q=>by omega⟩
  ·exact .inr (by rw[show(S.took M' H' (ag n)).c=S.c from rfl] at q ⊢;rw[(Ka.xC ok q).1];exact Int.le_refl _)
  ·rw[show(S.took M' H' (ag n)).c=S.c from rfl] at q ⊢;have:=Ka.xC ok q;rw[this.1];exact this.2
 ·rw[if_neg hE,if_neg hE];exact .same _ h3 h4 h10
theorem BJ(ok:S.c.Ok)(h:FreeW S hh S' E):Ka.Gn S.c S'.c 3 hh E 0:=by
 rcases h with⟨h1,rfl,rfl⟩|⟨h1,rfl,y,c,s,j,_,_,_,rfl⟩
 ·exact .err _ h1 (by decide)
 ·obtain⟨z,h2,_⟩:=Ka.og h1;exact⟨.rv _,fun q=>(q rfl).elim,fun q=>(q rfl).elim,fun _ _=>⟨⟨z,h2⟩,Ka.sO ok h1⟩,fun _=>rfl,fun q=>absurd q (by decide)⟩
theorem gn_re{k:Nat}(ok:S.c.Ok)(h:ReW k S hh n S' E hd):Ka.Gn S.c S'.c 4 hh E hd:=by
 rcases h with⟨h1,rfl,rfl,rfl⟩|⟨h1,_,rfl,rfl,rfl⟩|⟨h1,_,y,_,h⟩
 ·exact .err _ h1 (by decide)
 ·exact .err _ (by decide) (by decide)
 ·obtain⟨z,h2,h3⟩:=Ka.og h1;rcases h with⟨_,rfl,rfl,h⟩|⟨_,h4,rfl,rfl,rfl⟩|⟨_,_,c,s,j,c',s',j',M',H',_,_,_,_,_,_,rfl,rfl,rfl⟩
  ·have e:S'.c=S.c:=by rcases h with⟨_,rfl⟩|⟨_,rfl⟩<;>rfl
   rw[e];exact⟨.refl _,fun _=>.inl ⟨rfl,z,h2⟩,fun _=>Ka.nN ok h2,fun q=>by omega,fun q=>by omega,fun q=>by omega⟩
  ·exact .err _ h4 (by decide)
  ·have ok1:=Ka.rvS_ok ok (Ka.fiV S.c hh 4);have w:Ka.CW S.c (Ka.rvS S.c (Ka.fiV S.c hh 4)):=.rv _;have hg:=Ka.sO ok h1;have hs:=Ka.nN ok h2;refine⟨w.trans (.gr _),fun q=>.inr ?_,fun q=> ?_,fun _ _=>⟨⟨z,h2⟩,(Ka.CW.gr _).dead (Ka.grS_ok ok1 _) hg hs⟩,fun q=>by omega,fun q=>by omega⟩
   ·rw[(Ka.xC ok1 q).1];exact Int.le_refl _
   ·have:=Ka.xC ok1 q;rw[this.1];exact this.2
theorem BK(h:TnOk x S b):Ka.Gn S.c (drS S x.id).c 10 hh 0 0:=⟨⟨Int.le_refl _,h.cT.symm,fun z hz=>by cases hz⟩,fun q=>(q rfl).elim,fun q=>(q rfl).elim,fun q=>by omega,fun _=>rfl,fun _=>rfl⟩
end
end Go.Proofs.YtndhbnhobhkmaaaGreatDoor
