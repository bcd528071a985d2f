/-
  What the calls of package chain do: New, Push, Pop, Empty, Take, Move; the nil ones.
-/
import Derived.Test.YtndhbnhobhkmaaaGreatDoorViIn
set_option maxRecDepth 20000
set_option maxHeartbeats 1000000
namespace Go.Proofs.YtndhbnhobhkmaaaGreatDoor
open Go.RowKit
open An
def Chm(w:World)(c a:Nat)(k:Ck):Prop:=w.heap[c]? =some (.cells #[.pointer (some ⟨a,0,none⟩),.int .i64 k.base,.int .i64 k.unit,.int .i64 k.per,.int .u64 k.hd] 257 (0,0))
theorem Chm.chain:qq Chm:=⟨fun{w w' c a k S} h f hn=>by unfold Chm at h ⊢;rw[f.block c (Array.getElem?_eq_some_iff.1 h).1 hn];exact h,fun h=>(Array.getElem?_eq_some_iff.1 h).1⟩
section
variable{w w':World}{c a:Nat}{k:Ck}
theorem Chm.c0(h:Chm w c a k):w.cell? ⟨c,0,none⟩=some (.pointer (some ⟨a,0,none⟩)):=by unfold Chm at h;simp[World.cell?,h]
theorem Chm.c1(h:Chm w c a k):w.cell? ⟨c,1,none⟩=some (.int .i64 k.base):=by unfold Chm at h;simp[World.cell?,h]
theorem Chm.c2(h:Chm w c a k):w.cell? ⟨c,2,none⟩=some (.int .i64 k.unit):=by unfold Chm at h;simp[World.cell?,h]
theorem Chm.c3(h:Chm w c a k):w.cell? ⟨c,3,none⟩=some (.int .i64 k.per):=by unfold Chm at h;simp[World.cell?,h]
theorem Chm.c4(h:Chm w c a k):w.cell? ⟨c,4,none⟩=some (.int .u64 k.hd):=by unfold Chm at h;simp[World.cell?,h]
theorem Chm.fz(h:Chm w c a k)(j:Nat):w.frozen? ⟨c,j,none⟩=false:=by unfold Chm at h;simp[World.frozen?,h]
theorem Chm.head(h:Chm w c a k){v:Nat}{x:Int}(hx:x=(v:Int)):Chm (w.setCell ⟨c,4,none⟩ (.int .u64 x)) c a (k.to v):=by unfold Chm at h ⊢;subst hx;simp[World.setCell,Array.getElem?_modify,h,Ck.to]
theorem Chm.base(h:Chm w c a k)(x:Nat):Chm (w.setCell ⟨c,1,none⟩ (.int .i64 x)) c a ⟨x,k.unit,k.per,k.hd⟩:=by unfold Chm at h ⊢;simp[World.setCell,Array.getElem?_modify,h]
end
section
variable{w:World}{a c:Nat}{Z:Nat→Prop}{bs:List UInt8}{ss:List Sp}{k:Ck}
theorem zd(q:Chm w c a k)(g:Am 111 a bs ss w Z)(hu:k.unit≤512)(hp:k.per≤64)(x:Int)(hx:x≤9223372036854775807):Calls Tryz.prog 207 #[.pointer (some ⟨c,0,none⟩),.int .i64 x] w fun e w'=>e=.returned (.int .i64 (moE k bs.length x))∧Chm w' c a (moS k bs.length x)∧Fr (fun i=>i=c) w w':=by
 unfold moE moS;have HC:=hid q;have c0:=q.c0;have c1:=q.c1;have c2:=q.c2;have c3:=q.c3;have f1:=q.fz;have H1:Hid (∀w0,Fr (fun _=>False) w w0→Calls Tryz.prog 114 #[.pointer (some ⟨a,0,none⟩)] w0 fun e w'=>e=.returned (.int .i64 bs.length)∧w'=w0):=fun w0 f=>kP (g.kept f)
 have hl:=g.le;have hup:k.unit * k.per≤512 * 64:=Nat.mul_le_mul hu hp;have hm:IntKind.i64.wrap ((k.unit:Int) * (k.per:Int))=((k.unit * k.per:Nat):Int):=by rw[IntKind.wrap_i64,←Int.natCast_mul];omega
 clear q g hu hp;unfold Ck.Lies;generalize k.unit * k.per=m at *;generalize bs.length=n at *;by_cases h0:x<0
 ·have hn:¬(0≤x∧x+(m:Int)≤n):=by omega
  rw[if_neg hn,if_neg hn];clear hn;go_enter Tryz.func207,Tryz.ntmps207;go_wp2_with fail;go_quiet (fail);go_wp2;go_ret;exact⟨by simp,Chm.chain.carry HC.out ((Fr.refl (fun _=>False) _).drewN _) id,(Fr.refl _ _).drewN _⟩
 obtain⟨x,rfl⟩:=Int.eq_ofNat_of_zero_le (show 0≤x by omega);have hw:IntKind.i64.wrap ((n:Int) - x)=n - x:=by rw[IntKind.wrap_i64];omega
 by_cases h2:(m:Int)≤n - x
 ·have hn:(0≤(x:Int)∧(x:Int)+(m:Int)≤n):=by omega
  rw[if_pos hn,if_pos hn];clear hn;go_enter Tryz.func207,Tryz.ntmps207;go_wp2_with fail;go_region_held3 (fun w'=>w'.cell? ⟨c,0,none⟩=some (.pointer (some ⟨a,0,none⟩))∧w'.cell? ⟨c,2,none⟩=some (.int .i64 k.unit)∧w'.cell? ⟨c,3,none⟩=some (.int .i64 k.per)) (first|go_keep|exact⟨by assumption,by assumption,by assumption⟩) (first|(go_at_call 114;refine(H1.out _ (Fr.refl _ _).drew).mono ?_;rintro e w1 ⟨rfl,rfl⟩));go_wp2;go_ret;exact⟨by simp,(Chm.chain.carry HC.out (Fr.refl (fun _=>False) _).drew id).base x,Fr.setCell (S:=fun i=>i=c) (p:=⟨c,1,none⟩) (Fr.refl _ _).drew rfl _⟩
 ·have hn:¬(0≤(x:Int)∧(x:Int)+(m:Int)≤n):=by omega
  rw[if_neg hn,if_neg hn];clear hn;go_enter Tryz.func207,Tryz.ntmps207;go_wp2_with fail;go_region_held3 (fun w'=>w'.cell? ⟨c,0,none⟩=some (.pointer (some ⟨a,0,none⟩))∧w'.cell? ⟨c,2,none⟩=some (.int .i64 k.unit)∧w'.cell? ⟨c,3,none⟩=some (.int .i64 k.per)) (first|go_keep|exact⟨by assumption,by assumption,by assumption⟩) (first|(go_at_call 114;refine(H1.out _ (Fr.refl _ _).drew).mono ?_;rintro e w1 ⟨rfl,rfl⟩));go_wp2;go_ret;exact⟨by simp,Chm.chain.carry HC.out (Fr.refl (fun _=>False) _).drew id,(Fr.refl _ _).drew⟩
theorem yV(q:Chm w c a k)(g:Am 111 a bs ss w Z)(ok:k.Ok bs.length)(x:Int)(hx:x≤9223372036854775807):Calls Tryz.prog 207 #[.pointer (some ⟨c,0,none⟩),.int .i64 x] w fun e w'=>e=.returned (.int .i64 (moE k bs.length x))∧Chm w' c a (moS k bs.length x)∧Fr (fun i=>i=c) w w':=zd q g ok.u1 ok.p1 x hx
theorem wN{c0:Nat}(w:World)(a u p:Nat)(h:c0=w.heap.size):Chm (w.alloc (.cells #[.pointer (some ⟨a,0,none⟩),.int .i64 0,.int .i64 u,.int .i64 p,.int .u64 0] 257)) c0 a ⟨0,u,p,0⟩:=by
 subst h;unfold Chm;rw[heap_alloc_new];simp
theorem wU(h:Am 111 a bs ss w Z)(u p:Nat)(hu:u≤512)(hp:p≤64)(x:Int)(hx:x≤9223372036854775807):Calls Tryz.prog 207 #[.pointer (some ⟨w.heap.size,0,none⟩),.int .i64 x] (w.alloc (.cells #[.pointer (some ⟨a,0,none⟩),.int .i64 0,.int .i64 u,.int .i64 p,.int .u64 0] 257)) fun e w'=>e=.returned (.int .i64 (moE ⟨0,u,p,0⟩ bs.length x))∧Chm w' w.heap.size a (moS ⟨0,u,p,0⟩ bs.length x)∧Fr (fun _=>False) w w':=
 (zd (wN w a u p rfl) (h.kept ((Fr.refl _ _).alloc _)) hu hp x hx).mono fun e w' ⟨he,h1,f⟩=>⟨he,h1,Fr.trans' ((Fr.refl _ _).alloc _) f fun i hi e=>by omega⟩
theorem p_new(h:Am 111 a bs ss w Z){x u p:Int}(hn:NewOk bs.length x u p):Calls Tryz.prog 249 #[.pointer (some ⟨a,0,none⟩),.int .i64 x,.int .i64 u,.int .i64 p] w fun e w'=>∃c,e=.returned (.tuple #[.pointer (some ⟨c,0,none⟩),.int .i64 0])∧w.heap.size≤c∧Chm w' c a ⟨x.toNat,u.toNat,p.toNat,0⟩∧Fr (fun _=>False) w w':=by
 have hl:=h.le;obtain⟨⟨h1,h2⟩,⟨h3,h4⟩,h5,h6⟩:=hn;obtain⟨x,rfl⟩:=Int.eq_ofNat_of_zero_le h5;obtain⟨u,rfl⟩:=Int.eq_ofNat_of_zero_le (show 0≤u by omega);obtain⟨p,rfl⟩:=Int.eq_ofNat_of_zero_le (show 0≤p by omega);have hup:0≤(u:Int) * (p:Int):=Int.mul_nonneg (by omega) (by omega);have H1:=hid (wU h u p (by omega) (by omega) x (by omega));have hlies:(Ck.mk 0 u p 0).Lies bs.length x:=⟨h5,by show(x:Int)+((u * p:Nat):Int)≤_;rw[Int.natCast_mul];exact h6⟩;unfold moE moS at H1;rw[if_pos hlies,if_pos hlies] at H1;clear h h6 h5 hlies hup hl;have g1:¬(u:Int)<8:=by omega
 have g2:¬512<(u:Int):=by omega
 have g3:¬(p:Int)<1:=by omega
 have g4:¬64<(p:Int):=by omega
 clear h1 h2 h3 h4;go_enter Tryz.func249,Tryz.ntmps249;go_wp2_with fail;refine H1.out.mono ?_;rintro e w1 ⟨rfl,hq,f⟩;have HQ:=hid hq;have HF:=hid f;clear hq f;go_wp2;go_ret2;exact⟨_,rfl,Nat.le_refl _,HQ.out,HF.out⟩
theorem p_at(q:Chm w c a k){n:Nat}(ok:k.Ok n)(hn:n≤2097152){x:Nat}(hx:x<k.per):Calls Tryz.prog 246 #[.pointer (some ⟨c,0,none⟩),.int .i64 x] w fun e w'=>e=.returned (.int .i64 (k.pos x))∧Fr (fun _=>False) w w':=by
 have c1:=q.c1;have c2:=q.c2;obtain⟨r1,r2⟩:=ok.reck hn hx;clear q ok hn hx;generalize k.pos x=ps at *;generalize x * k.unit=m at *;go_enter Tryz.func246,Tryz.ntmps246;go_wp2_with fail;go_region_held3 (fun w'=>w'.cell? ⟨c,1,none⟩=some (.int .i64 k.base)∧w'.cell? ⟨c,2,none⟩=some (.int .i64 k.unit)) (first|go_keep|exact⟨by assumption,by assumption⟩) (fail);go_wp2;go_ret;exact⟨by simp,(Fr.refl _ _).drew⟩
theorem tn(q:Chm w c a k)(g:Am 111 a bs ss w Z)(ok:k.Ok bs.length)(nz:¬Z c)(hk:ss.length≤1000000){x:Nat}(hx:x<k.per):Calls Tryz.prog 227 #[.pointer (some ⟨c,0,none⟩),.int .i64 x] w fun e w'=>e=.returned (.int .i64 0)∧∃Z',Left 111 Chm w c a Z (over bs (k.pos x) (leb k.hd 8)) (ss++[((k.pos x:Int),(8:Int),true)]) (k.to (x+1)) Z' w':=by
 have c0:=q.c0;have c3:=q.c3;have c4:=q.c4;have hh:=ok.hd;have hp:=ok.p1;have r3:=qv (x:Int) (by omega) (by omega);have r4:=qv ((x:Int)+1) (by omega) (by omega);have HT:Hid (∀w0,Fr (fun _=>False) w w0→Calls Tryz.prog 246 #[.pointer (some ⟨c,0,none⟩),.int .i64 x] w0 fun e w'=>e=.returned (.int .i64 (k.pos x))∧Chm w' c a k∧Fr (fun _=>False) w w'):=fun w0 f=>(p_at (Chm.chain.carry q f id) ok g.le hx).mono fun e w' ⟨he,f2⟩=>⟨he,Chm.chain.carry q (f.trans f2) id,f.trans f2⟩
 have HS:Hid (∀w0,Fr (fun _=>False) w w0→Calls Tryz.prog 245 #[.pointer (some ⟨a,0,none⟩),.int .i64 (k.pos x),.int .u64 k.hd] w0 fun e w'=>e=.returned (.int .i64 0)∧∃Z',Left 111 Chm w c a Z (over bs (k.pos x) (leb k.hd 8)) (ss++[((k.pos x:Int),(8:Int),true)]) k Z' w'):=
  fun w0 f=>(qp (g.kept f) (k.pos x) k.hd (by omega) (ok.at hx) hk).mono fun e w' ⟨he,Z',h1,h2⟩=>⟨he,Z',(Left.vq Chm.chain (Chm.chain.carry q f id) nz h1 h2).ahead f⟩
 have hx':(x:Int)<k.per:=by omega
 clear q g ok nz hk hx hh hp;generalize k.pos x=ps at *;go_enter Tryz.func227,Tryz.ntmps227;go_wp2_with fail;go_region_held3 (fun w'=>w'.cell? ⟨c,0,none⟩=some (.pointer (some ⟨a,0,none⟩))∧w'.cell? ⟨c,4,none⟩=some (.int .u64 k.hd)) (first|go_keep|exact⟨by assumption,by assumption⟩) (first|(go_at_call 246;refine(HT.out _ (Fr.refl _ _).drew).mono ?_;rintro e w9 ⟨rfl,hq9,hf9⟩;have F9:=hid hf9;have b0:=hq9.c0;have b3:=hq9.c3;have b4:=hq9.c4;clear hq9 hf9)|(go_at_call 245;refine(HS.out _ F9.out).mono ?_;rintro e w1 ⟨rfl,Z',hL⟩;have HL:=hid hL;have d0:=hL.q.c0;have d4:=hL.q.c4;have fz:=hL.q.fz;clear hL));clear HS HT c0 c3 c4;go_wp2;go_ret;exact⟨by simp,Z',HL.out.set (HL.out.q.head (by omega))⟩
theorem uN(q:Chm w c a k)(g:Am 111 a bs ss w Z)(ok:k.Ok bs.length)(nz:¬Z c)(hk:ss.length≤1000000){x v:Nat}(hv:v=x+1)(hx:x<k.per)(hw:¬wd bs (k.pos x)≤k.per):Calls Tryz.prog 251 #[.pointer (some ⟨c,0,none⟩),.int .u64 v] w fun e w'=>e=.returned (.tuple #[.int .i64 0,.int .u64 0,.int .i64 14])∧∃Z',Left 111 Chm w c a Z bs (ss++[((k.pos x:Int),(8:Int),false)]) k Z' w'∧Gw w w' Z Z':=by
 have c0:=q.c0;have c3:=q.c3;have hp:=ok.p1;have hlt:=wd_lt bs (k.pos x);have r4:=qv (k.per:Int) (by omega) (by omega);have r5:IntKind.u64.wrap ((v:Int) - 1)=x:=by rw[qv _ (by omega) (by omega)];omega
 have r6:=jy (x:Int) (by omega) (by omega);have r7:(v:Int)≤k.per:=by omega
 have HT:Hid (∀w0,Fr (fun _=>False) w w0→Calls Tryz.prog 246 #[.pointer (some ⟨c,0,none⟩),.int .i64 x] w0 fun e w'=>e=.returned (.int .i64 (k.pos x))∧Chm w' c a k∧Fr (fun _=>False) w w'):=fun w0 f=>(p_at (Chm.chain.carry q f id) ok g.le hx).mono fun e w' ⟨he,f2⟩=>⟨he,Chm.chain.carry q (f.trans f2) id,f.trans f2⟩
 have HL:Hid (∀w0,Fr (fun _=>False) w w0→Calls Tryz.prog 252 #[.pointer (some ⟨a,0,none⟩),.int .i64 (k.pos x)] w0 fun e w'=>e=.returned (.tuple #[.int .u64 (wd bs (k.pos x)),.int .i64 0])∧∃Z',Left 111 Chm w c a Z bs (ss++[((k.pos x:Int),(8:Int),false)]) k Z' w'∧Gw w w' Z Z'):=
  fun w0 f=>(vt (g.kept f) (k.pos x) (ok.at hx) hk).mono fun e w' ⟨he,Z',h1,h2⟩=>⟨he,Z',(Left.vq Chm.chain (Chm.chain.carry q f id) nz h1 h2).ahead f,Gw.ahead f h2⟩
 have hw':(k.per:Int)<wd bs (k.pos x):=by omega
 clear q g ok nz hk hx hp hw hv;generalize k.pos x=ps at *;generalize wd bs ps=v2 at *;go_enter Tryz.func251,Tryz.ntmps251;go_wp2_with fail;go_region_held3 (fun w'=>w'.cell? ⟨c,0,none⟩=some (.pointer (some ⟨a,0,none⟩))) (first|go_keep|exact(by assumption)) (first|(go_at_call 246;refine(HT.out _ (Fr.refl _ _).drew).mono ?_;rintro e w9 ⟨rfl,hq9,hf9⟩;have F9:=hid hf9;have b0:=hq9.c0;have b3:=hq9.c3;have b4:=hq9.c4;clear hq9 hf9)|(go_at_call 252;refine(HL.out _ F9.out).mono ?_;rintro e w1 ⟨rfl,Z',hL,hG⟩;have HA:=hid hL;have HG:=hid hG;have d0:=hL.q.c0;have d3:=hL.q.c3;clear hL hG));clear HL HT c0 c3;go_wp2;go_ret3;exact⟨by simp,Z',HA.out,HG.out⟩
theorem uM(q:Chm w c a k)(g:Am 111 a bs ss w Z)(ok:k.Ok bs.length)(nz:¬Z c)(hk:ss.length≤1000000){x v:Nat}(hv:v=x+1)(hx:x<k.per)(hw:wd bs (k.pos x)≤k.per):Calls Tryz.prog 251 #[.pointer (some ⟨c,0,none⟩),.int .u64 v] w fun e w'=>e=.returned (.tuple #[.int .i64 x,.int .u64 (wd bs (k.pos x)),.int .i64 0])∧∃Z',Left 111 Chm w c a Z bs (ss++[((k.pos x:Int),(8:Int),false)]) k Z' w'∧Gw w w' Z Z':=by
 have c0:=q.c0;have c3:=q.c3;have hp:=ok.p1;have hlt:=wd_lt bs (k.pos x);have r4:=qv (k.per:Int) (by omega) (by omega);have r5:IntKind.u64.wrap ((v:Int) - 1)=x:=by rw[qv _ (by omega) (by omega)];omega
 have r6:=jy (x:Int) (by omega) (by omega);have r7:(v:Int)≤k.per:=by omega
 have HT:Hid (∀w0,Fr (fun _=>False) w w0→Calls Tryz.prog 246 #[.pointer (some ⟨c,0,none⟩),.int .i64 x] w0 fun e w'=>e=.returned (.int .i64 (k.pos x))∧Chm w' c a k∧Fr (fun _=>False) w w'):=fun w0 f=>(p_at (Chm.chain.carry q f id) ok g.le hx).mono fun e w' ⟨he,f2⟩=>⟨he,Chm.chain.carry q (f.trans f2) id,f.trans f2⟩
 have HL:Hid (∀w0,Fr (fun _=>False) w w0→Calls Tryz.prog 252 #[.pointer (some ⟨a,0,none⟩),.int .i64 (k.pos x)] w0 fun e w'=>e=.returned (.tuple #[.int .u64 (wd bs (k.pos x)),.int .i64 0])∧∃Z',Left 111 Chm w c a Z bs (ss++[((k.pos x:Int),(8:Int),false)]) k Z' w'∧Gw w w' Z Z'):=
  fun w0 f=>(vt (g.kept f) (k.pos x) (ok.at hx) hk).mono fun e w' ⟨he,Z',h1,h2⟩=>⟨he,Z',(Left.vq Chm.chain (Chm.chain.carry q f id) nz h1 h2).ahead f,Gw.ahead f h2⟩
 have hw':(wd bs (k.pos x):Int)≤k.per:=by omega
 clear q g ok nz hk hx hp hw hv;generalize k.pos x=ps at *;generalize wd bs ps=v2 at *;go_enter Tryz.func251,Tryz.ntmps251;go_wp2_with fail;go_region_held3 (fun w'=>w'.cell? ⟨c,0,none⟩=some (.pointer (some ⟨a,0,none⟩))) (first|go_keep|exact(by assumption)) (first|(go_at_call 246;refine(HT.out _ (Fr.refl _ _).drew).mono ?_;rintro e w9 ⟨rfl,hq9,hf9⟩;have F9:=hid hf9;have b0:=hq9.c0;have b3:=hq9.c3;have b4:=hq9.c4;clear hq9 hf9)|(go_at_call 252;refine(HL.out _ F9.out).mono ?_;rintro e w1 ⟨rfl,Z',hL,hG⟩;have HA:=hid hL;have HG:=hid hG;have d0:=hL.q.c0;have d3:=hL.q.c3;clear hL hG));clear HL HT c0 c3;go_wp2;go_ret3;exact⟨by simp,Z',HA.out,HG.out⟩
theorem p_pop_form(q:Chm w c a k)(g:Am 111 a bs ss w Z)(ok:k.Ok bs.length)(nz:¬Z c)(hk:ss.length≤1000000){x:Nat}(h0:k.hd=x+1)(hw:¬wd bs (k.pos x)≤k.per):Calls Tryz.prog 248 #[.pointer (some ⟨c,0,none⟩)] w fun e w'=>e=.returned (.tuple #[.int .i64 0,.int .i64 14])∧∃Z',Left 111 Chm w c a Z bs (ss++[((k.pos x:Int),(8:Int),false)]) k Z' w':=by
 have c4:=q.c4;have HF:=hid (uN q g ok nz hk h0 (by have:=ok.hd;omega) hw);have hne:(k.hd:Int)≠0:=by omega
 clear q g ok nz hk hw h0;generalize k.hd=v at c4 HF hne;go_enter Tryz.func248,Tryz.ntmps248;go_wp2_with fail;refine HF.out.mono ?_;rintro e w1 ⟨rfl,Z',hL,_⟩;have HA:=hid hL;clear hL;go_wp2;go_ret2;exact⟨by simp,Z',HA.out⟩
theorem wF(q:Chm w c a k)(g:Am 111 a bs ss w Z)(ok:k.Ok bs.length)(nz:¬Z c)(hk:ss.length<1000000){x:Nat}(h0:k.hd=x+1)(hw:wd bs (k.pos x)≤k.per):Calls Tryz.prog 248 #[.pointer (some ⟨c,0,none⟩)] w fun e w'=>e=.returned (.tuple #[.int .i64 x,.int .i64 0])∧∃Z',Left 111 Chm w c a Z (over bs (k.pos x) (leb 0 8)) (ss++[((k.pos x:Int),(8:Int),false)]++[((k.pos x:Int),(8:Int),true)]) (k.to (wd bs (k.pos x))) Z' w':=by
 have hx:x<k.per:=by have:=ok.hd;omega
 have c4:=q.c4;have HF:=hid (uM q g ok nz (by omega) h0 hx hw);have HT:Hid (∀w0 w2 Z1,Left 111 Chm w c a Z bs (ss++[((k.pos x:Int),(8:Int),false)]) k Z1 w2→Fr (fun _=>False) w2 w0→Calls Tryz.prog 246 #[.pointer (some ⟨c,0,none⟩),.int .i64 x] w0 fun e w'=>e=.returned (.int .i64 (k.pos x))∧Chm w' c a k∧Fr (fun _=>False) w2 w'):=fun w0 w2 Z1 hL f=>(p_at (Chm.chain.carry hL.q f id) ok g.le hx).mono fun e w' ⟨he,f2⟩=>⟨he,Chm.chain.carry hL.q (f.trans f2) id,f.trans f2⟩
 have HS:Hid (∀w0 w2 Z1,Left 111 Chm w c a Z bs (ss++[((k.pos x:Int),(8:Int),false)]) k Z1 w2→Fr (fun _=>False) w2 w0→Calls Tryz.prog 245 #[.pointer (some ⟨a,0,none⟩),.int .i64 (k.pos x),.int .u64 0] w0 fun e w'=>e=.returned (.int .i64 0)∧∃Z',Left 111 Chm w c a Z (over bs (k.pos x) (leb 0 8)) (ss++[((k.pos x:Int),(8:Int),false)]++[((k.pos x:Int),(8:Int),true)]) k Z' w'):=
  fun w0 w2 Z1 hL f=>(qp (hL.am.kept f) (k.pos x) 0 (by omega) (ok.at hx) (by simp;omega)).mono fun e w' ⟨he,Z',h1,h2⟩=>⟨he,Z',(hL.kept Chm.chain f).arena2 Chm.chain h1 h2⟩
 have hne:(k.hd:Int)≠0:=by omega
 have HV:Hid (wd bs (k.pos x)=wd bs (k.pos x)):=rfl;clear q g ok nz hk hx h0 hw;generalize k.pos x=ps at *;generalize wd bs ps=v2 at *;generalize k.hd=v at c4 HF hne;go_enter Tryz.func248,Tryz.ntmps248;go_wp2_with fail;refine HF.out.mono ?_;rintro e w1 ⟨rfl,Z',hL,_⟩;have HA:=hid hL;have d0:=hL.q.c0;clear hL c4 HF;go_wp2_with fail;go_region_held3 (fun w'=>w'.cell? ⟨c,0,none⟩=some (.pointer (some ⟨a,0,none⟩))) (first|go_keep|exact(by assumption)) (first|(go_at_call 246;refine(HT.out _ _ _ HA.out (Fr.refl _ _).drew).mono ?_;rintro e w9 ⟨rfl,hq9,hf9⟩;have F9:=hid hf9;have b0:=hq9.c0;have b3:=hq9.c3;have b4:=hq9.c4;clear hq9 hf9)|(go_at_call 245;refine(HS.out _ _ _ HA.out F9.out).mono ?_;rintro e w3 ⟨rfl,Z3,hL⟩;have HB:=hid hL;have e0:=hL.q.c0;have fz:=hL.q.fz;have e4:=hL.q.c4;clear hL));clear HS HT HA d0;go_wp2;go_ret2;exact⟨by simp,Z3,HB.out.set (HB.out.q.head rfl)⟩
theorem fq(q:Chm w c a k):Calls Tryz.prog 239 #[.pointer (some ⟨c,0,none⟩)] w fun e w'=>e=.returned (.bool (decide (k.hd=0)))∧Fr (fun _=>False) w w':=by
 have c4:=q.c4;clear q;generalize k.hd=v at *;by_cases h0:v=0
 ·subst h0;go_enter Tryz.func239,Tryz.ntmps239;go_wp2;go_ret;exact⟨by simp,Fr.refl _ _⟩
 ·have h1:(v:Int)≠0:=by omega
  rw[decide_eq_false h0];clear h0;go_enter Tryz.func239,Tryz.ntmps239;go_wp2;go_ret;exact⟨by simp;omega,Fr.refl _ _⟩
theorem tm(q:Chm w c a k){d:Nat}{k2:Ck}(q2:Chm w d a k2)(hne:c≠d)(h0:k.hd=0):Calls Tryz.prog 241 #[.pointer (some ⟨c,0,none⟩),.pointer (some ⟨d,0,none⟩)] w fun e w'=>e=.returned (.int .i64 0)∧Chm w' c a (k.to k2.hd)∧Chm w' d a (k2.to 0)∧Fr (fun i=>i=c∨i=d) w w':=by
 have HC:=hid q;have c4:=q.c4;have d4:=q2.c4;have f1:=q.fz;have HF:Hid (Fr (fun i=>i=c) w (w.setCell ⟨c,4,none⟩ (.int .u64 (k2.hd:Int)))):=Fr.setCell (S:=fun i=>i=c) (p:=⟨c,4,none⟩) (Fr.refl _ _) rfl _;have HD2:=hid (Chm.chain.carry q2 HF.out (fun e=>hne e.symm));have d5:=HD2.out.c4;have f2:=HD2.out.fz;rw[h0] at c4;clear q q2;go_enter Tryz.func241,Tryz.ntmps241;go_wp2;go_ret;refine⟨by simp,?_,HD2.out.head (by omega),Fr.trans' (HF.out.mono fun _ _ e=>.inl e) (Fr.setCell (S:=fun i=>i=d) (p:=⟨d,4,none⟩) (Fr.refl _ _) rfl _) fun _ _ e=>.inr e⟩;exact Chm.chain.carry (HC.out.head rfl) (Fr.setCell (S:=fun i=>i=d) (p:=⟨d,4,none⟩) (Fr.refl _ _) rfl _) hne
end
end Go.Proofs.YtndhbnhobhkmaaaGreatDoor
