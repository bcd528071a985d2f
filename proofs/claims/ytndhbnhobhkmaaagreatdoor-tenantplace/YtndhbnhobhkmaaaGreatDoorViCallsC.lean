/-
  What the view's 'over' does: it goes from piece to piece, till one is refused.
  What the view's 'find' does: the pieces, all of them within the arena, or an error.
  What the view's Zero and Write do, piece by piece.
  What the view's Write does, piece by piece.
-/
import Derived.Test.YtndhbnhobhkmaaaGreatDoorViBase
set_option maxRecDepth 20000
set_option maxHeartbeats 1000000
namespace Go.Proofs.YtndhbnhobhkmaaaGreatDoor
open Go.RowKit
def adv(ad:Option Addr)(k:Nat):Option Addr:=ad.map fun p=>⟨p.block,p.off+k * 3,p.spot⟩
theorem yy(ad:Option Addr):adv ad 0=ad:=by cases ad<;>simp[adv]
def mR:Value→Nat
 |.slice _ n _=>n
 |_=>0
theorem jF{P:Program}{Q:Exit→Act→World→Prop}{a:Act}{w:World}{c rest:Code}(l:Nat)(J:Act→World→Prop)(μ:Act→World→Nat)(hf:findLabel c l=some (Code.skip.seq rest))
  (pre:∀R:Exit→Act→World→Prop,(∀a w,J a w→rest.wp P R a w)→c.wp P R a w)
  (pass:∀a w,J a w→rest.wp P (Exit.jump l (fun a' w'=>J a' w'∧μ a' w'<μ a w) Q) a w):(Code.scope c).wp P Q a w:=
 wp_scope_jumps l J μ hf (pre _ fun a w h=>Code.wp_mono (fun e a w he=>by
  cases e with
  |goto l'=>exact⟨he.1,he.2.1⟩
  |_=>exact he) (pass a w h)) fun a w h=>wp_seq (wp_skip (pass a w h))
theorem gf{F:FuncId}{cv:Array Value}{ad:Option Addr}{cap:Nat}{L:List Sq}(I:Nat→World→Prop)(Q:Int→World→Prop)(hsp:∀k w,I k w→SpAt w ad L)(hcap:L.length≤cap)(hF:∀args w,(callFunc F args).run Tryz.prog w=.ok (.enter F args) w)
  (hst:∀k w (hk:k<L.length),I k w→Calls Tryz.prog F (#[.agg #[.int .i64 L[k].1,.int .i64 L[k].2.1,.bool L[k].2.2]]++cv) w fun e w'=>∃j,e=.returned (.int .i64 j)∧(j=0→I (k+1) w')∧(j≠0→Q j w')){w:World}(h0:I 0 w):
  Calls Tryz.prog 71 #[.slice ad L.length cap,.func (.func F) #[] cv] w fun e w'=>∃j,e=.returned (.int .i64 j)∧(j=0→I L.length w')∧(j≠0→Q j w'):=by
 have H0:=hid h0;have HS:Hid (∀k w,I k w→SpAt w ad L):=hsp;have HT:=hid hst;clear h0 hsp hst;go_enter Tryz.func71,Tryz.ntmps71;go_wp2;refine jF 0 (fun a' w'=>∃(k c:Nat) (ax:Option Addr) (u2 u3 u4 u5 u6 u7 u8 u9 u10 u11 u12 u13 u14 u15 u16 u17 u18:Value),Hid (I k w')∧k≤L.length∧(L.length≤k+c∧(k<L.length→ax=adv ad k))∧a'={ tmps:=#[.slice ax (L.length - k) c,.func (.func F) #[] cv,u2,u3,u4,u5,u6,u7,u8,u9,u10,u11,u12,u13,u14,u15,u16,u17,u18],defers:=[] }) (fun a' _=>mR (a'.tmps.getD 0 undef)) rfl ?pre ?pass
 case pre=>
  intro R hK;go_wp2;go_step3;rename_i K hKK;exact hKK _ _ (hK _ _ ⟨0,cap,ad,_,_,_,_,_,_,_,_,_,_,_,_,_,_,_,_,_,H0,Nat.zero_le _,⟨by omega,fun _=>(yy ad).symm⟩,rfl⟩)
 case pass=>
  rintro a' wr ⟨k,c,ax,u2,u3,u4,u5,u6,u7,u8,u9,u10,u11,u12,u13,u14,u15,u16,u17,u18,HI,hk,⟨hc,hax⟩,rfl⟩;clear H0;by_cases hlt:k<L.length
  ·obtain⟨b,off,rfl,_,p1,p2,p3⟩:=HS.out k wr HI.out k hlt;have H1:=hid (HT.out k wr hlt HI.out);obtain⟨m,hm⟩:∃m,L.length - k=m+1:=⟨L.length - k - 1,by omega⟩;have HM:=hid hm;rw[hm];obtain rfl:=hax hlt;have HC:Hid (L.length≤k+c):=hc;simp only[adv,Option.map_some];clear hm HI hax hc hcap;generalize L[k]=s at *;obtain⟨s1,s2,s3⟩:=s;simp only at p1 p2 p3;go_wp2_with fail;refine H1.out.mono ?_;rintro e w2 ⟨j,rfl,h1,h2⟩;clear H1 HT p1 p2 p3;by_cases hj:j=0
   ·subst hj;have HN:=hid (h1 rfl);clear h1 h2;have HE:Hid (L.length - (k+1)=m∧off+(k+1) * 3=off+k * 3+3∧k+1≤L.length):=⟨by have:=HM.out;omega,by omega,by omega⟩;by_cases hc1:c=1
    ·subst hc1;go_wp2;go_step3;exact⟨rfl,⟨k+1,0,_,_,_,_,_,_,_,_,_,_,_,_,_,_,_,_,_,_,HN,HE.out.2.2,⟨by have:=HC.out;omega,fun h=>by have:=HC.out;omega⟩,by rw[HE.out.1]⟩,by simp[mR]⟩
    ·have hc2:(c==1)=false:=by simp[hc1]
     go_wp2;go_step3;exact⟨rfl,⟨k+1,c - 1,_,_,_,_,_,_,_,_,_,_,_,_,_,_,_,_,_,_,HN,HE.out.2.2,⟨by have:=HC.out;omega,fun _=>by rw[HE.out.2.1]⟩,by rw[HE.out.1]⟩,by simp[mR]⟩
   ·have HN:=hid (h2 hj);have HJ:=hid hj;clear h1 h2;go_wp2;rw[ao];go_ret;exact⟨j,by simp,fun e=>(HJ.out e).elim,fun _=>HN.out⟩
  ·obtain rfl:k=L.length:=by omega
   rw[Nat.sub_self];go_wp2;rw[ao];go_ret;exact⟨0,by simp,fun _=>HI.out,fun e=>(e rfl).elim⟩
end Go.Proofs.YtndhbnhobhkmaaaGreatDoor
namespace Go.Proofs.YtndhbnhobhkmaaaGreatDoor
open Go.RowKit
open An
theorem wo{T:Tb}(ok:TbOk T){x n:Int}{k:Nat}(hk:k<(piL T x n).length):0≤(piL T x n)[k].1∧(piL T x n)[k].1≤1000000000∧1≤(piL T x n)[k].2.1∧(piL T x n)[k].2.1≤512:=by
 by_cases h:piE T x n=0
 ·obtain⟨h1,h2⟩:=fY h;obtain⟨a1,a2,a3,a4,a5⟩:=(lz (T:=T) (a:=x) (by have:=h1.2.1;omega) n.toNat _ h2).all k hk;have:=ok.dm (x / 512+k);omega
 ·have:=(td h).2;rw[this] at hk;simp at hk
def abx(a:Nat):Obj:=.cells #[.pointer (some ⟨a,0,none⟩)] 29 (0,0)
theorem abxc{w:World}{B a:Nat}(h:w.heap[B]? =some (abx a)):w.cell? ⟨B,0,none⟩=some (.pointer (some ⟨a,0,none⟩)):=by unfold abx at h;simp[World.cell?,h]
section
variable{w:World}{a t:Nat}{Z Y:Nat→Prop}{bs:List UInt8}{ss:List Sp}{T:Tb}
theorem f_one(h:Am 111 a bs ss w Z){B:Nat}(hB:w.heap[B]? =some (abx a)){p m:Int}(b:Bool)(hp:0≤p∧p≤1000000000∧1≤m∧m≤512):Calls Tryz.prog 113 #[.agg #[.int .i64 p,.int .i64 m,.bool b],.pointer (some ⟨B,0,none⟩)] w fun e w'=>e=.returned (.int .i64 (if p+m≤bs.length then 0 else 4))∧Fr (fun _=>False) w w':=by
 have hB0:=(Array.getElem?_eq_some_iff.1 hB).1;have H1:Hid (∀w1,Fr (fun _=>False) w w1→Calls Tryz.prog 114 #[.pointer (some ⟨a,0,none⟩)] w1 fun e w'=>e=.returned (.int .i64 bs.length)∧w'=w1):=fun w1 f=>kO (h.kept f)
 have hle:=h.le;have hF:Fr (fun _=>False) w (w.alloc (.cells #[.int .i64 p,.int .i64 m,.bool b] 132)):=(Fr.refl _ _).alloc _;have c0:=abxc ((hF.block B hB0 id).trans hB);have c1:(w.alloc (.cells #[.int .i64 p,.int .i64 m,.bool b] 132)).cell? ⟨w.heap.size,0,none⟩=some (.int .i64 p):=by simp
 have c2:(w.alloc (.cells #[.int .i64 p,.int .i64 m,.bool b] 132)).cell? ⟨w.heap.size,1,none⟩=some (.int .i64 m):=by simp
 have HF:=hid hF;have hw:IntKind.i64.wrap ((bs.length:Int) - p)=bs.length - p:=by rw[IntKind.wrap_i64];omega
 have hgt:decide (m>(bs.length:Int) - p)= !decide (p+m≤(bs.length:Int)):=by
  by_cases e:p+m≤(bs.length:Int)
  ·simp[e];omega
  ·simp[e];omega
 clear h hB hF hB0;generalize hwa:w.alloc (.cells #[.int .i64 p,.int .i64 m,.bool b] 132)=wa at *;generalize (bs.length:Int)=n at *;by_cases hn:p+m≤n
 ·rw[if_pos hn];rw[decide_eq_true hn] at hgt;clear hn;go_enter Tryz.func113,Tryz.ntmps113;go_wp2_with fail;go_region_held3 (fun w'=>w'.cell? ⟨w.heap.size,0,none⟩=some (.int .i64 p)∧w'.cell? ⟨w.heap.size,1,none⟩=some (.int .i64 m)∧w'.cell? ⟨B,0,none⟩=some (.pointer (some ⟨a,0,none⟩))) (first|go_keep|exact⟨by assumption,by assumption,by assumption⟩) (first|(go_at_call 114;refine(H1.out _ HF.out.drew).mono ?_;rintro e w1 ⟨rfl,rfl⟩));go_wp2;go_ret;exact⟨by simp,HF.out.drew⟩
 ·rw[if_neg hn];rw[decide_eq_false hn] at hgt;clear hn;go_enter Tryz.func113,Tryz.ntmps113;go_wp2_with fail;go_region_held3 (fun w'=>w'.cell? ⟨w.heap.size,0,none⟩=some (.int .i64 p)∧w'.cell? ⟨w.heap.size,1,none⟩=some (.int .i64 m)∧w'.cell? ⟨B,0,none⟩=some (.pointer (some ⟨a,0,none⟩))) (first|go_keep|exact⟨by assumption,by assumption,by assumption⟩) (first|(go_at_call 114;refine(H1.out _ HF.out.drew).mono ?_;rintro e w1 ⟨rfl,rfl⟩));go_wp2;go_ret;exact⟨by simp,HF.out.drew⟩
theorem jc{N:Nat}{x n:Int}(h1:piE T x n=0)(h2:InAr N (piL T x n)):vwL T N x n=piL T x n∧vwE T N x n=0:=⟨if_pos ⟨h1,h2⟩,if_pos ⟨h1,h2⟩⟩
theorem mQ{N:Nat}{x n:Int}(h:¬VwOk T N x n):vwL T N x n=[]∧vwE T N x n=4:=⟨if_neg h,if_neg h⟩
theorem f_all(h:Am 111 a bs ss w Z){B:Nat}(hB:w.heap[B]? =some (abx a))(ok:TbOk T){x n:Int}{ad:Option Addr}{cap:Nat}(hs:SpAt w ad (piL T x n))(hc:(piL T x n).length≤cap):Calls Tryz.prog 71 #[.slice ad (piL T x n).length cap,.func (.func 113) #[] #[.pointer (some ⟨B,0,none⟩)]] w fun e w'=>e=.returned (.int .i64 (if InAr bs.length (piL T x n) then 0 else 4))∧Fr (fun _=>False) w w':=by
 refine(gf (F:=113) (fun k w'=>Fr (fun _=>False) w w'∧∀j (hj:j<(piL T x n).length),j<k→(piL T x n)[j].1+(piL T x n)[j].2.1≤bs.length) (fun j w'=>Fr (fun _=>False) w w'∧j=4∧¬InAr bs.length (piL T x n)) (fun k w' hi=>hs.fr hi.1) hc (enters_of Tryz.func113 (by kernel_rfl) rfl) (fun k w' hk hi=> ?_) ⟨Fr.refl _ _,fun j _ h=>by omega⟩).mono ?_
 ·have hB0:=(Array.getElem?_eq_some_iff.1 hB).1;refine(f_one (h.kept hi.1) ((hi.1.block B hB0 id).trans hB) _ (wo ok hk)).mono ?_;rintro e w2 ⟨rfl,f⟩;refine⟨_,rfl,fun e=>⟨hi.1.trans f,fun j hj hlt=> ?_⟩,fun e=>⟨hi.1.trans f,?_,fun hin=> ?_⟩⟩
  ·by_cases ej:j=k
   ·subst ej;by_cases e2:(piL T x n)[j].1+(piL T x n)[j].2.1≤bs.length
    ·exact e2
    ·rw[if_neg e2] at e;omega
   ·exact hi.2 j hj (by omega)
  ·by_cases e2:(piL T x n)[k].1+(piL T x n)[k].2.1≤bs.length
   ·rw[if_pos e2] at e;exact(e rfl).elim
   ·exact if_neg e2
  ·rw[if_pos (hin _ (List.getElem_mem hk))] at e;exact e rfl
 ·rintro e w' ⟨j,rfl,h1,h2⟩;by_cases hj:j=0
  ·subst hj;obtain⟨f,hall⟩:=h1 rfl;have:InAr bs.length (piL T x n):=fun s hs=>by
    obtain⟨j,hj,rfl⟩:=List.getElem_of_mem hs;exact hall j hj hj
   exact⟨by rw[if_pos this],f⟩
  ·obtain⟨f,rfl,hno⟩:=h2 hj;exact⟨by rw[if_neg hno],f⟩
theorem ov(h:Am 111 a bs ss w Z)(k:Tm t T w Y)(ok:TbOk T){x n:Int}(hx:I64 x)(hn:I64 n):Calls Tryz.prog 70 #[.pointer (some ⟨a,0,none⟩),.pointer (some ⟨t,0,none⟩),.int .i64 x,.int .i64 n] w fun e w'=>∃ad cap,e=.returned (.tuple #[.slice ad (vwL T bs.length x n).length cap,.int .i64 (vwE T bs.length x n)])∧SpAt w' ad (vwL T bs.length x n)∧(∀b off,ad=some ⟨b,off,none⟩→0<(vwL T bs.length x n).length→w.heap.size≤b)∧Fr (fun _=>False) w w'∧(vwL T bs.length x n).length≤cap:=by
 have hF:Fr (fun _=>False) w (w.alloc (abx a)):=(Fr.refl _ _).alloc _;have H1:=hid (rC (k.kept hF) ok hx hn);have HB:Hid ((w.alloc (abx a)).heap[w.heap.size]? =some (abx a)):=heap_alloc_new _ _;have HA:=hid h;have HK:=hid ok;have HF:=hid hF;clear h k ok hx hn hF;go_enter Tryz.func70,Tryz.ntmps70;go_wp2_with fail;refine H1.out.mono ?_;rintro e w1 ⟨ad,cap,rfl,hs,hb,f1,hc⟩;have f2:=HF.out.trans f1;have HA1:=hid (f_all (HA.out.kept f2) (B:=w.heap.size) ((f1.block w.heap.size (by simp) id).trans HB.out) HK.out hs hc);have HS:Hid (SpAt w1 ad (piL T x n)∧(∀b off,ad=some ⟨b,off,none⟩→0<(piL T x n).length→w.heap.size≤b)∧Fr (fun _=>False) w w1∧(piL T x n).length≤cap):=⟨hs,fun b off e h0=>Nat.le_trans (by simp) (hb b off e h0),f2,hc⟩;clear hs hb f1 hc f2 H1 HA HF HB HK;by_cases h0:piE T x n=0
 case neg=>
  obtain⟨e1,e2⟩:=td h0;obtain⟨e3,e4⟩:=mQ (T:=T) (N:=bs.length) (x:=x) (n:=n) fun h=>h0 h.1
  rw[e1];have HE:=hid (And.intro e3 e4);clear h0 e1 e2 e3 e4;go_wp2;go_ret2;exact⟨none,0,by rw[HE.out.1,HE.out.2];simp,by rw[HE.out.1];exact SpAt.nil _ _,(fun b off e=>by cases e),HS.out.2.2.1,by rw[HE.out.1];simp⟩
 rw[h0];by_cases h1:InAr bs.length (piL T x n)
 ·obtain⟨e3,e4⟩:=jc h0 h1;have HV:=hid (And.intro e3 e4);rw[if_pos h1] at HA1;clear h0 h1 e3 e4;generalize piL T x n=L at *;go_wp2_with fail;refine HA1.out.mono ?_;rintro e w2 ⟨rfl,f3⟩;have HE:Hid (SpAt w2 ad L∧Fr (fun _=>False) w w2):=⟨HS.out.1.fr f3,HS.out.2.2.1.trans f3⟩;clear HA1 f3;go_wp2;go_ret2;exact⟨ad,cap,by rw[HV.out.1,HV.out.2];simp,by rw[HV.out.1];exact HE.out.1,by rw[HV.out.1];exact HS.out.2.1,HE.out.2,by rw[HV.out.1];exact HS.out.2.2.2⟩
 ·obtain⟨e3,e4⟩:=mQ (T:=T) (N:=bs.length) (x:=x) (n:=n) fun h=>h1 h.2
  have HV:=hid (And.intro e3 e4);rw[if_neg h1] at HA1;clear h0 h1 e3 e4;generalize piL T x n=L at *;go_wp2_with fail;refine HA1.out.mono ?_;rintro e w2 ⟨rfl,f3⟩;have HE:Hid (Fr (fun _=>False) w w2):=HS.out.2.2.1.trans f3;clear HA1 f3 HS;go_wp2;go_ret2;exact⟨none,0,by rw[HV.out.1,HV.out.2];simp,by rw[HV.out.1];exact SpAt.nil _ _,(fun b off e=>by cases e),HE.out,by rw[HV.out.1];simp⟩
end
theorem ik{ss:List Sp}{p m:Int}(hm:1≤m)(b:Bool):aT ss p m b=ss++[(p,m,b)]:=if_pos (by omega)
theorem spbx(w:World)(p m:Int)(b:Bool):(w.alloc (.cells #[.int .i64 p,.int .i64 m,.bool b] 132)).cell? ⟨w.heap.size,0,none⟩=some (.int .i64 p)∧(w.alloc (.cells #[.int .i64 p,.int .i64 m,.bool b] 132)).cell? ⟨w.heap.size,1,none⟩=some (.int .i64 m):=⟨by simp,by simp⟩
section
variable{W w w0:World}{a t B j:Nat}{Z Y:Nat→Prop}{bs:List UInt8}{ss:List Sp}{T:Tb}{ts:List (World→(Nat→Prop)→Prop)}
theorem z_one(h:aa W w (Am 111 a bs ss::ts))(hB:(Am 111 a bs ss::ts)[j]? =some (Blk B (abx a))){p m:Int}(b:Bool)(hp:0≤p∧1≤m∧p+m≤bs.length)(hk:ss.length≤1000000):Calls Tryz.prog 125 #[.agg #[.int .i64 p,.int .i64 m,.bool b],.pointer (some ⟨B,0,none⟩)] w fun e w'=>e=.returned (.int .i64 0)∧aa W w' (Am 111 a (over bs p.toNat (List.replicate m.toNat 0)) (ss++[(p,m,true)])::ts):=by
 have H1:Hid (∀w1,Fr (fun _=>False) w w1→Calls Tryz.prog 126 #[.pointer (some ⟨a,0,none⟩),.int .i64 p,.int .i64 m] w1 fun e w'=>e=.returned (.int .i64 0)∧aa W w' (Am 111 a (over bs p.toNat (List.replicate m.toNat 0)) (ss++[(p,m,true)])::ts)):=fun w1 f=>(h.kept f).lift 0 rfl (Am.good _ _ _ _) fun U hU=>by
  have:=oh hU p.toNat m.toNat (by omega) hk;rw[show((p.toNat:Nat):Int)=p by omega,show((m.toNat:Nat):Int)=m by omega,ik hp.2.1] at this;exact this
 have hF:Fr (fun _=>False) w (w.alloc (.cells #[.int .i64 p,.int .i64 m,.bool b] 132)):=(Fr.refl _ _).alloc _;have c0:=abxc ((h.kept hF).cells j hB);obtain⟨c1,c2⟩:=spbx w p m b;have HF:=hid hF;clear h hB hF hp;generalize hwa:w.alloc (.cells #[.int .i64 p,.int .i64 m,.bool b] 132)=wa at *;go_enter Tryz.func125,Tryz.ntmps125;go_wp2_with fail;refine(H1.out _ HF.out).mono ?_;rintro e w1 ⟨rfl,h1⟩;have T1:=hid h1;clear h1 H1 c0 c1 c2;go_wp2;go_ret;exact⟨by simp,T1.out⟩
theorem z_all{O:World→(Nat→Prop)→Prop}{ad:Option Addr}{cap:Nat}{L:List Sq}(h:aa W w [Am 111 a bs ss,O,Blk B (abx a),Sv ad L])(hap:Apt bs.length L)(hk:ss.length+L.length≤1000000)(hc:L.length≤cap):Calls Tryz.prog 71 #[.slice ad L.length cap,.func (.func 125) #[] #[.pointer (some ⟨B,0,none⟩)]] w fun e w'=>e=.returned (.int .i64 0)∧aa W w' [Am 111 a (zrB bs L) (ss++tch L true),O,Blk B (abx a),Sv ad L]:=by
 refine(gf (F:=125) (fun k w'=>aa W w' [Am 111 a (zrB bs (L.take k)) (ss++tch (L.take k) true),O,Blk B (abx a),Sv ad L]) (fun _ _=>False) (fun k w' hi=>hi.sps 3 rfl) hc (enters_of Tryz.func125 (by kernel_rfl) rfl) (fun k w' hk2 hi=> ?_) (by simpa [zrB,tch] using h)).mono ?_
 ·have hl:=jb (hap.take k);obtain⟨p1,p2,p3,p4⟩:=hap.at hk2;refine(z_one (ts:=[O,Blk B (abx a),Sv ad L]) (j:=2) hi rfl (p:=L[k].1) (m:=L[k].2.1) L[k].2.2 (by rw[hl];omega) (by simp only[List.length_append,dt,List.length_take];omega)).mono ?_;rintro e w2 ⟨rfl,h2⟩;rw[←vt hk2,List.append_assoc,←jK hk2] at h2;exact⟨0,rfl,fun _=>h2,fun e=>(e rfl).elim⟩
 ·rintro e w' ⟨j,rfl,h1,h2⟩;by_cases hj:j=0
  ·subst hj;have:=h1 rfl;rw[List.take_length] at this;exact⟨rfl,this⟩
  ·exact(h2 hj).elim
theorem dE{w':World}(h:Am 111 a bs ss w Z)(f:Fr (fun _=>False) w w'):∃Z',Am 111 a bs ss w' Z'∧Gw w w' Z Z':=⟨Z,h.kept f,Gw.same h.lt (f.mono fun _ _ e=>e.elim)⟩
theorem rX(h:Am 111 a bs ss w Z){w':World}{ad:Option Addr}{L:List Sq}(hs:SpAt w' ad L)(hb:∀b off,ad=some ⟨b,off,none⟩→0<L.length→(w.alloc (abx a)).heap.size≤b)(f:Fr (fun _=>False) (w.alloc (abx a)) w'):aa (Bare w) w' [Am 111 a bs ss,Old w Z,Blk w.heap.size (abx a),Sv ad L]:=
 ((aa.begin (Am.good _ _ _ _) h h.lt).blk (abx a)).lP hs hb f
theorem v_zero(h:Am 111 a bs ss w Z)(k:Tm t T w Y)(_hd:∀i,Z i→¬Y i)(ok:TbOk T){x n:Int}(hx:I64 x)(hn:I64 n)(hb:n≤16384)(hk:ss.length≤900000):Calls Tryz.prog 83 #[.pointer (some ⟨a,0,none⟩),.pointer (some ⟨t,0,none⟩),.int .i64 x,.int .i64 n] w fun e w'=>e=.returned (.int .i64 (vwE T bs.length x n))∧∃Z',Am 111 a (vzB T bs x n) (vwT T bs.length ss x n) w' Z'∧Gw w w' Z Z':=by
 have hF:Fr (fun _=>False) w (w.alloc (abx a)):=(Fr.refl _ _).alloc _;have H1:=hid (ov (h.kept hF) (k.kept hF) ok hx hn);have HA:=hid h;have HF:=hid hF;obtain⟨v1,v2,_⟩:=gH (N:=bs.length) (x:=x) ok hb;have HV:=hid (And.intro v1 v2);have c0:=abxc (heap_alloc_new w (abx a));clear h k ok hx hn hF v1 v2 hb;by_cases hv:VwOk T bs.length x n
 ·obtain⟨e1,e2⟩:=jc hv.1 hv.2;have E:Hid (vwE T bs.length x n=0∧vzB T bs x n=zrB bs (piL T x n)∧vwT T bs.length ss x n=ss++tch (piL T x n) true):=⟨e2,if_pos hv,if_pos hv⟩;rw[e1] at HV;rw[e1,e2] at H1;clear hv e1 e2;rw[E.out.1,E.out.2.1,E.out.2.2];clear E;generalize piL T x n=L at *;go_enter Tryz.func83,Tryz.ntmps83;go_wp2_with fail;refine H1.out.mono ?_;rintro e w1 ⟨ad,cap,rfl,hs,hb,f1,hc⟩;have H2:=hid (z_all (rX HA.out hs hb f1) HV.out.1 (by have:=HV.out.2;omega) hc);clear hs hb f1 hc H1;go_wp2_with fail;refine H2.out.mono ?_;rintro e w2 ⟨rfl,h2⟩;have T2:=hid (h2.finish HA.out.lt);clear h2 H2;go_wp2;go_ret;exact⟨by simp,T2.out⟩
 ·obtain⟨e1,e2⟩:=mQ hv;have E:Hid (vwE T bs.length x n=4∧vzB T bs x n=bs∧vwT T bs.length ss x n=ss):=⟨e2,if_neg hv,if_neg hv⟩;rw[e1,e2] at H1;clear hv e1 e2 HV;rw[E.out.1,E.out.2.1,E.out.2.2];clear E;go_enter Tryz.func83,Tryz.ntmps83;go_wp2_with fail;refine H1.out.mono ?_;rintro e w1 ⟨ad,cap,rfl,hs,hb,f1,hc⟩;have T2:=hid (dE HA.out (HF.out.trans f1));clear hs hb f1 hc H1;go_wp2;go_ret;exact⟨by simp,T2.out⟩
end
def dbx(s:ByteArray):Obj:=.cells #[.string s] 9 (0,0)
theorem dbxc{w:World}{B:Nat}{s:ByteArray}(h:w.heap[B]? =some (dbx s)):w.cell? ⟨B,0,none⟩=some (.string s)∧w.frozen? ⟨B,0,none⟩=false:=by unfold dbx at h;simp[World.cell?,World.frozen?,h]
section
variable{W w w0:World}{a t B D:Nat}{Z Y:Nat→Prop}{bs:List UInt8}{ss:List Sp}{T:Tb}{O:World→(Nat→Prop)→Prop}{ts:List (World→(Nat→Prop)→Prop)}
theorem w_one{s:ByteArray}(h:aa W w (Am 111 a bs ss::O::Blk B (abx a)::Blk D (dbx s)::ts)){p m:Nat}(b:Bool)(hp:1≤m∧p+m≤bs.length)(hm:m≤s.size)(hk:ss.length≤1000000):Calls Tryz.prog 79 #[.agg #[.int .i64 p,.int .i64 m,.bool b],.pointer (some ⟨D,0,none⟩),.pointer (some ⟨B,0,none⟩)] w fun e w'=>e=.returned (.int .i64 0)∧aa W w' (Am 111 a (over bs p (s.data.toList.take m)) (ss++[((p:Int),(m:Int),true)])::O::Blk B (abx a)::Blk D (dbx (s.extract m s.size))::ts):=by
 have hF:Fr (fun _=>False) w (w.alloc (.cells #[.int .i64 p,.int .i64 m,.bool b] 132)):=(Fr.refl _ _).alloc _;have T0:=hid (h.kept hF);have c0:=abxc (T0.out.cells 2 rfl);obtain⟨d0,d1⟩:=dbxc (T0.out.cells 3 rfl);obtain⟨c1,c2⟩:=spbx w p m b;have hD:D≠w.heap.size:=fun e=>by have:=(Array.getElem?_eq_some_iff.1 (h.cells 3 rfl)).1;omega
 have T1:Hid (aa W ((w.alloc (.cells #[.int .i64 p,.int .i64 m,.bool b] 132)).setCell ⟨D,0,none⟩ (.string (s.extract m s.size))) (Am 111 a bs ss::O::Blk B (abx a)::Blk D (dbx (s.extract m s.size))::ts)):=T0.out.setAt 3 rfl 0 _;have e0:=abxc (T1.out.cells 2 rfl);have e1:=(World.cell?_of_block (((Fr.refl (fun i=>i=D) (w.alloc (.cells #[.int .i64 p,.int .i64 m,.bool b] 132))).setCell (p:=⟨D,0,none⟩) rfl (.string (s.extract m s.size))).block w.heap.size (by simp) fun e=>hD e.symm)).trans c1;have HC:Hid (∀w1,aa W w1 (Am 111 a bs ss::O::Blk B (abx a)::Blk D (dbx (s.extract m s.size))::ts)→Calls Tryz.prog 80 #[.pointer (some ⟨a,0,none⟩),.int .i64 p,.string (s.extract 0 m)] w1 fun e w'=>e=.returned (.int .i64 0)∧aa W w' (Am 111 a (over bs p (s.data.toList.take m)) (ss++[((p:Int),(m:Int),true)])::O::Blk B (abx a)::Blk D (dbx (s.extract m s.size))::ts)):=fun w1 h1=>h1.lift 0 rfl (Am.good _ _ _ _) fun U hU=>by
  have hsz:(s.extract 0 m).size=m:=by simp;omega
  have:=yx hU p (s.extract 0 m) (by rw[hsz];exact hp.2) hk;rw[hsz,ik (by omega),show(s.extract 0 m).data.toList=s.data.toList.take m by simp] at this;exact this
 clear h hF hD T0 hp hk;generalize hwa:w.alloc (.cells #[.int .i64 p,.int .i64 m,.bool b] 132)=wa at *;go_enter Tryz.func79,Tryz.ntmps79;go_wp2_with fail;refine(HC.out _ T1.out).mono ?_;rintro e w2 ⟨rfl,h2⟩;have T2:=hid h2;clear h2 HC T1 c0 c1 c2 d0 d1 e0 e1;go_wp2;go_ret;exact⟨by simp,T2.out⟩
theorem iz{L:List Sq}{k:Nat}(hk:k<L.length):lenL (L.take (k+1))=lenL (L.take k)+L[k].2.1.toNat:=by
 rw[List.take_succ_eq_append_getElem hk,dP];simp[lenL]
theorem tS(L:List Sq)(k:Nat):lenL (L.take k)≤lenL L:=by
 have:=dP (L.take k) (L.drop k);rw[List.take_append_drop] at this;omega
theorem w_all{ad:Option Addr}{cap:Nat}{L:List Sq}{s:ByteArray}(h:aa W w [Am 111 a bs ss,O,Blk B (abx a),Blk D (dbx s),Sv ad L])(hap:Apt bs.length L)(hs:lenL L=s.size)(hk:ss.length+L.length≤1000000)(hc:L.length≤cap):Calls Tryz.prog 71 #[.slice ad L.length cap,.func (.func 79) #[] #[.pointer (some ⟨D,0,none⟩),.pointer (some ⟨B,0,none⟩)]] w fun e w'=>e=.returned (.int .i64 0)∧∃X,aa W w' (Am 111 a (wrB bs L s.data.toList) (ss++tch L true)::O::X):=by
 refine(gf (F:=79) (fun k w'=>∃s':ByteArray,s'.data.toList=s.data.toList.drop (lenL (L.take k))∧aa W w' [Am 111 a (wrB bs (L.take k) s.data.toList) (ss++tch (L.take k) true),O,Blk B (abx a),Blk D (dbx s'),Sv ad L]) (fun _ _=>False) (fun k w' ⟨s',_,hi⟩=>hi.sps 4 rfl) hc (enters_of Tryz.func79 (by kernel_rfl) rfl) (fun k w' hk2 ⟨s',e1,hi⟩=> ?_) ⟨s,by simp[lenL],by simpa [wrB,tch] using h⟩).mono ?_
 ·have hl:=fg (ds:=s.data.toList) (hap.take k);obtain⟨p1,p2,p3,p4⟩:=hap.at hk2;have hle:=tS L (k+1);rw[iz hk2] at hle;have hs1:s'.size=s.size - lenL (L.take k):=by
   have:=congrArg List.length e1;rw[List.length_drop] at this;exact this
  have H:=w_one (ts:=[Sv ad L]) hi (p:=L[k].1.toNat) (m:=L[k].2.1.toNat) L[k].2.2 (by rw[hl];omega) (by omega) (by simp only[List.length_append,dt,List.length_take];omega);rw[p2,p3] at H;refine H.mono ?_;rintro e w2 ⟨rfl,h2⟩;rw[e1,←vD hk2,List.append_assoc,←jK hk2] at h2;refine⟨0,rfl,fun _=>⟨_,?_,h2⟩,fun e=>(e rfl).elim⟩;rw[iz hk2,←List.drop_drop,←e1];simp only[ByteArray.data_extract,Array.toList_extract,List.extract_eq_take_drop];exact List.take_of_length_le (by rw[List.length_drop];exact Nat.le_refl _)
 ·rintro e w' ⟨j,rfl,h1,h2⟩;by_cases hj:j=0
  ·subst hj;obtain⟨s',_,this⟩:=h1 rfl;rw[List.take_length] at this;exact⟨rfl,_,this⟩
  ·exact(h2 hj).elim
theorem zU(h:Am 111 a bs ss w Z)(s:ByteArray){w':World}{ad:Option Addr}{L:List Sq}(hs:SpAt w' ad L)(hb:∀b off,ad=some ⟨b,off,none⟩→0<L.length→((w.alloc (abx a)).alloc (dbx s)).heap.size≤b)(f:Fr (fun _=>False) ((w.alloc (abx a)).alloc (dbx s)) w'):aa (Bare w) w' [Am 111 a bs ss,Old w Z,Blk w.heap.size (abx a),Blk (w.heap.size+1) (dbx s),Sv ad L]:=by
 have H:=(((aa.begin (Am.good _ _ _ _) h h.lt).blk (abx a)).blk (dbx s)).lP hs hb f;rw[World.size_alloc] at H;exact H
theorem kS(h:Am 111 a bs ss w Z)(k:Tm t T w Y)(_hd:∀i,Z i→¬Y i)(ok:TbOk T){x:Int}(hx:I64 x)(s:ByteArray)(hb:s.size≤16384)(hk:ss.length≤990000):Calls Tryz.prog 43 #[.pointer (some ⟨a,0,none⟩),.pointer (some ⟨t,0,none⟩),.int .i64 x,.string s] w fun e w'=>e=.returned (.int .i64 (vwE T bs.length x s.size))∧∃Z',Am 111 a (vwB T bs x s.data.toList) (vwT T bs.length ss x s.size) w' Z'∧Gw w w' Z Z':=by
 have hF:Fr (fun _=>False) w ((w.alloc (abx a)).alloc (dbx s)):=((Fr.refl _ _).alloc _).alloc _;have H1:=hid (ov (h.kept hF) (k.kept hF) ok hx (n:=s.size) (by constructor<;>omega));have HA:=hid h;have HF:=hid hF;obtain⟨v1,v2,_⟩:=gH (N:=bs.length) (x:=x) (n:=s.size) ok (by omega);have HV:=hid (And.intro v1 v2);have TT:=(((aa.begin (Am.good _ _ _ _) h h.lt).blk (abx a)).blk (dbx s));have c0:=abxc (TT.cells 2 rfl);have c1:=(dbxc (TT.cells 3 rfl)).1;rw[World.size_alloc] at c1;have hsz:s.data.toList.length=s.size:=rfl;have HOK:=hid ok;clear h k ok hx hF v1 v2 TT;by_cases hv:VwOk T bs.length x s.size
 ·obtain⟨e1,e2⟩:=jc hv.1 hv.2;have HL:Hid (lenL (piL T x s.size)=s.size):=(hv.apt HOK.out).2.1;have E:Hid (vwE T bs.length x s.size=0∧vwB T bs x s.data.toList=wrB bs (piL T x s.size) s.data.toList∧vwT T bs.length ss x s.size=ss++tch (piL T x s.size) true):=⟨e2,if_pos hv,if_pos hv⟩;rw[e1] at HV;rw[e1,e2] at H1;clear hv e1 e2 HOK hsz;rw[E.out.1,E.out.2.1,E.out.2.2];clear E;generalize piL T x s.size=L at *;go_enter Tryz.func43,Tryz.ntmps43;go_wp2_with fail;refine H1.out.mono ?_;rintro e w1 ⟨ad,cap,rfl,hs,hb,f1,hc⟩;have H2:=hid (w_all (zU HA.out s hs hb f1) HV.out.1 HL.out (by have:=HV.out.2;omega) hc);clear hs hb f1 hc H1;go_wp2_with fail;refine H2.out.mono ?_;rintro e w2 ⟨rfl,X,h2⟩;have T2:=hid (h2.finish HA.out.lt);clear h2 H2;go_wp2;go_ret;exact⟨by simp,T2.out⟩
 ·obtain⟨e1,e2⟩:=mQ hv;have E:Hid (vwE T bs.length x s.size=4∧vwB T bs x s.data.toList=bs∧vwT T bs.length ss x s.size=ss):=⟨e2,if_neg hv,if_neg hv⟩;rw[e1,e2] at H1;clear hv e1 e2 HV HOK hsz;rw[E.out.1,E.out.2.1,E.out.2.2];clear E;go_enter Tryz.func43,Tryz.ntmps43;go_wp2_with fail;refine H1.out.mono ?_;rintro e w1 ⟨ad,cap,rfl,hs,hb,f1,hc⟩;have T2:=hid (dE HA.out (HF.out.trans f1));clear hs hb f1 hc H1;go_wp2;go_ret;exact⟨by simp,T2.out⟩
theorem zV(h:Am 111 a bs ss w Z)(k:Tm t T w Y)(hd:∀i,Z i→¬Y i)(ok:TbOk T){x:Int}(hx:I64 x)(s:ByteArray)(hb:s.size≤16384)(hk:ss.length≤900000):Calls Tryz.prog 43 #[.pointer (some ⟨a,0,none⟩),.pointer (some ⟨t,0,none⟩),.int .i64 x,.string s] w fun e w'=>e=.returned (.int .i64 (vwE T bs.length x s.size))∧∃Z',Am 111 a (vwB T bs x s.data.toList) (vwT T bs.length ss x s.size) w' Z'∧Gw w w' Z Z':=kS h k hd ok hx s hb (by omega)
end
end Go.Proofs.YtndhbnhobhkmaaaGreatDoor
