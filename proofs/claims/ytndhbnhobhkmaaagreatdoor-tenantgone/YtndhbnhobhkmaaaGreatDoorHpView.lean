/-
  What the calls of package tenant do: Calloc, Quota, Resize, Drop.
  A tenant's blocks seen through the table: mathematics. What is written into a block that is had leaves the heap right.
-/
import Derived.Test.YtndhbnhobhkmaaaGreatDoorTnPages
import Derived.Test.YtndhbnhobhkmaaaGreatDoorObjs3
set_option maxRecDepth 20000
set_option maxHeartbeats 2000000
namespace Go.Proofs.YtndhbnhobhkmaaaGreatDoor
open Go.RowKit
open An
section
variable{W w:World}{ts:List (World→(Nat→Prop)→Prop)}{a m k h t:Nat}{M:Ms}{H:Hp}{ad:Option Addr}{Wn:List Int}
theorem yT(q:aa W w ts)(gr:G17 W)(j i:Nat)(hj:ts[j]? =some (Hs a m h t k M H))(hi:ts[i]? =some (Lv ad Wn))(hne:j≠i)(c:Hc k M H)(hW:Wn.length≤100000)(cap:Nat):Calls Tryz.prog 62 #[.pointer (some ⟨h,0,none⟩),.slice ad Wn.length cap] w fun e w'=>e=.returned (.int .i64 (hMo k M H Wn).2.2)∧aa W w' ((ts.set i Non).set j (Hs a m h t k (hMo k M H Wn).1 (hMo k M H Wn).2.1)):=by
 have hjl:=(List.getElem?_eq_some_iff.1 hj).1;have h1:=q.merge j i hj hi hne;have hg:((ts.set j (Both (Hs a m h t k M H) (Lv ad Wn))).set i Non)[j]? =some (Both (Hs a m h t k M H) (Lv ad Wn)):=by rw[List.getElem?_set_ne (fun e=>hne e.symm),List.getElem?_set_self hjl]
 obtain⟨U,u1,u2,u3⟩:=h1.turn j hg;refine(y_move u1 (gr.fr q.nw.fr) (gx gr fun i hi=>(u2 i hi).1) c hW).mono ?_;rintro e w' ⟨he,U',g1,g2⟩;have h5:=u3 (Hs a m h t k (hMo k M H Wn).1 (hMo k M H Wn).2.1) w' U' (Hs.good ..) g1 g2;have e2:((ts.set j (Both (Hs a m h t k M H) (Lv ad Wn))).set i Non).set j (Hs a m h t k (hMo k M H Wn).1 (hMo k M H Wn).2.1)=(ts.set i Non).set j (Hs a m h t k (hMo k M H Wn).1 (hMo k M H Wn).2.1):=by
  rw[List.set_comm _ _ hne,List.set_set]
 rw[e2] at h5;exact⟨he,h5⟩
theorem q_drop(q:aa W w ts)(gr:G17 W)(j:Nat)(hj:ts[j]? =some (Hs a m h t k M H))(c:Hc k M H):Calls Tryz.prog 66 #[.pointer (some ⟨h,0,none⟩)] w fun e w'=>e=.returned (.tuple #[])∧aa W w' (ts.set j (Hs a m h t k (hDr M H).1 (hDr M H).2)):=
 q.AW gr j hj (Hs.good ..) fun _ p u=>y_drop p (gr.fr q.nw.fr) u c
end
section
variable{W w:World}{x:Tp}{S:TnS}{ts:List (World→(Nat→Prop)→Prop)}{ad:Option Addr}{l:List Int}
theorem nL(g:aa W w (tnl x S ts)){p n:Int}(hp:I64 p)(hn:I64 n)(h:p<1∨n<1∨8192<p * n):Calls Tryz.prog 33 #[.pointer (some ⟨x.T,0,none⟩),.int .i64 p,.int .i64 n] w fun e w'=>e=.returned (ans 2 0 0 0 ⟨#[]⟩ S.s.cb)∧aa W w' (tnl x S ts):=by
 have G:Hid (aa W (w.alloc (.cells #[.int .i64 0,.int .u64 0,.int .i64 0,.int .i64 0,.string ⟨#[]⟩,.int .i64 0] 43)) (tnl x S (ts++[Blk w.heap.size (.cells #[.int .i64 0,.int .u64 0,.int .i64 0,.int .i64 0,.string ⟨#[]⟩,.int .i64 0] 43 (0,0))]))):=g.blk (.cells #[.int .i64 0,.int .u64 0,.int .i64 0,.int .i64 0,.string ⟨#[]⟩,.int .i64 0] 43 (0,0));have HS:=hid fun(w:World) (ts:List (World→(Nat→Prop)→Prop)) (E:Int) (g:aa W w (tnl x S ts))=>bW g E
 generalize S.s.cb=cb at *;clear g;by_cases h1:p<1
 ·clear h hp hn;go_enter Tryz.func33,Tryz.ntmps33;go_wp2_with fail;refine(HS.out _ _ _ G.out).mono ?_;rintro e w6 ⟨rfl,g6⟩;have G6:=hid g6;clear g6 G HS;have z1:=fun i=>an (af G6.out) i
  have b0:=ae (af G6.out) 0 rfl;have b1:=ae (af G6.out) 1 rfl;have b2:=ae (af G6.out) 2 rfl;have b3:=ae (af G6.out) 3 rfl;have b4:=ae (af G6.out) 4 rfl;have b5:=ae (af G6.out) 5 rfl;go_wp2;clear z1 b0 b1 b2 b3 b4 b5;obtain⟨HF,hk⟩:=ay (af G6.out) (2) (0) (0) (0) ⟨#[]⟩ (cb);have TZ:=aa.aJ (ts:=tnl x S ts) G6.out HF;have k0:=hk 0 _ rfl;have k1:=hk 1 _ rfl;have k2:=hk 2 _ rfl;have k3:=hk 3 _ rfl;have k4:=hk 4 _ rfl;have k5:=hk 5 _ rfl;clear HF hk;generalize (((((w6.setCell ⟨w.heap.size,0,none⟩ (.int .i64 (2))).setCell ⟨w.heap.size,1,none⟩ (.int .u64 (0))).setCell ⟨w.heap.size,2,none⟩ (.int .i64 (0))).setCell ⟨w.heap.size,3,none⟩ (.int .i64 (0))).setCell ⟨w.heap.size,4,none⟩ (.string ⟨#[]⟩)).setCell ⟨w.heap.size,5,none⟩ (.int .i64 (cb))=wz at *;exact bodyPost_ret (v:=ans (2) (0) (0) (0) ⟨#[]⟩ (cb)) (by simp[results,Tryz.results33,go_sem,k0,k1,k2,k3,k4,k5]) rfl ⟨rfl,TZ⟩
 ·by_cases h2:n<1
  ·clear h hp hn;go_enter Tryz.func33,Tryz.ntmps33;go_wp2_with fail;refine(HS.out _ _ _ G.out).mono ?_;rintro e w6 ⟨rfl,g6⟩;have G6:=hid g6;clear g6 G HS;have z1:=fun i=>an (af G6.out) i
   have b0:=ae (af G6.out) 0 rfl;have b1:=ae (af G6.out) 1 rfl;have b2:=ae (af G6.out) 2 rfl;have b3:=ae (af G6.out) 3 rfl;have b4:=ae (af G6.out) 4 rfl;have b5:=ae (af G6.out) 5 rfl;go_wp2;clear z1 b0 b1 b2 b3 b4 b5;obtain⟨HF,hk⟩:=ay (af G6.out) (2) (0) (0) (0) ⟨#[]⟩ (cb);have TZ:=aa.aJ (ts:=tnl x S ts) G6.out HF;have k0:=hk 0 _ rfl;have k1:=hk 1 _ rfl;have k2:=hk 2 _ rfl;have k3:=hk 3 _ rfl;have k4:=hk 4 _ rfl;have k5:=hk 5 _ rfl;clear HF hk;generalize (((((w6.setCell ⟨w.heap.size,0,none⟩ (.int .i64 (2))).setCell ⟨w.heap.size,1,none⟩ (.int .u64 (0))).setCell ⟨w.heap.size,2,none⟩ (.int .i64 (0))).setCell ⟨w.heap.size,3,none⟩ (.int .i64 (0))).setCell ⟨w.heap.size,4,none⟩ (.string ⟨#[]⟩)).setCell ⟨w.heap.size,5,none⟩ (.int .i64 (cb))=wz at *;exact bodyPost_ret (v:=ans (2) (0) (0) (0) ⟨#[]⟩ (cb)) (by simp[results,Tryz.results33,go_sem,k0,k1,k2,k3,k4,k5]) rfl ⟨rfl,TZ⟩
  ·have h3:8192 / n<p:=Int.ediv_lt_of_lt_mul (by omega) (by omega);have hd:0≤8192 / n:=Int.ediv_nonneg (by omega) (by omega);have hd2:8192 / n≤8192:=Int.ediv_le_self _ (by omega);have hw:IntKind.i64.wrap (8192 / n)=8192 / n:=by rw[IntKind.wrap_i64];omega
   have hn0:n≠0:=by omega
   have h4:¬p≤8192 / n:=by omega
   clear h hp hn;go_enter Tryz.func33,Tryz.ntmps33;go_wp2_with fail;refine(HS.out _ _ _ G.out).mono ?_;rintro e w6 ⟨rfl,g6⟩;have G6:=hid g6;clear g6 G HS;have z1:=fun i=>an (af G6.out) i
   have b0:=ae (af G6.out) 0 rfl;have b1:=ae (af G6.out) 1 rfl;have b2:=ae (af G6.out) 2 rfl;have b3:=ae (af G6.out) 3 rfl;have b4:=ae (af G6.out) 4 rfl;have b5:=ae (af G6.out) 5 rfl;go_wp2;clear z1 b0 b1 b2 b3 b4 b5;obtain⟨HF,hk⟩:=ay (af G6.out) (2) (0) (0) (0) ⟨#[]⟩ (cb);have TZ:=aa.aJ (ts:=tnl x S ts) G6.out HF;have k0:=hk 0 _ rfl;have k1:=hk 1 _ rfl;have k2:=hk 2 _ rfl;have k3:=hk 3 _ rfl;have k4:=hk 4 _ rfl;have k5:=hk 5 _ rfl;clear HF hk;generalize (((((w6.setCell ⟨w.heap.size,0,none⟩ (.int .i64 (2))).setCell ⟨w.heap.size,1,none⟩ (.int .u64 (0))).setCell ⟨w.heap.size,2,none⟩ (.int .i64 (0))).setCell ⟨w.heap.size,3,none⟩ (.int .i64 (0))).setCell ⟨w.heap.size,4,none⟩ (.string ⟨#[]⟩)).setCell ⟨w.heap.size,5,none⟩ (.int .i64 (cb))=wz at *;exact bodyPost_ret (v:=ans (2) (0) (0) (0) ⟨#[]⟩ (cb)) (by simp[results,Tryz.results33,go_sem,k0,k1,k2,k3,k4,k5]) rfl ⟨rfl,TZ⟩
theorem lP(g:aa W w (tnl x S ts)){S1:TnS}{p n E hd av cg:Int}(h1:1≤p)(h2:1≤n)(h3:p * n≤8192)
  (hm:∀(w:World) (ts:List (World→(Nat→Prop)→Prop)),aa W w (tnl x S ts)→Calls Tryz.prog 26 #[.pointer (some ⟨x.T,0,none⟩),.int .i64 (p * n)] w fun e w'=>e=.returned (ans E hd av 0 ⟨#[]⟩ cg)∧aa W w' (tnl x S1 ts)):Calls Tryz.prog 33 #[.pointer (some ⟨x.T,0,none⟩),.int .i64 p,.int .i64 n] w fun e w'=>e=.returned (ans E hd av 0 ⟨#[]⟩ cg)∧aa W w' (tnl x S1 ts):=by
 have G:Hid (aa W (w.alloc (.cells #[.int .i64 0,.int .u64 0,.int .i64 0,.int .i64 0,.string ⟨#[]⟩,.int .i64 0] 43)) (tnl x S (ts++[Blk w.heap.size (.cells #[.int .i64 0,.int .u64 0,.int .i64 0,.int .i64 0,.string ⟨#[]⟩,.int .i64 0] 43 (0,0))]))):=g.blk (.cells #[.int .i64 0,.int .u64 0,.int .i64 0,.int .i64 0,.string ⟨#[]⟩,.int .i64 0] 43 (0,0));have HM:=hid hm;have hle:p≤8192 / n:=(Int.le_ediv_iff_mul_le (by omega)).2 h3;have hd0:0≤8192 / n:=Int.ediv_nonneg (by omega) (by omega);have hd2:8192 / n≤8192:=Int.ediv_le_self _ (by omega);have hw:IntKind.i64.wrap (8192 / n)=8192 / n:=by rw[IntKind.wrap_i64];omega
 have hpn:0≤p * n:=Int.mul_nonneg (by omega) (by omega);have hw2:IntKind.i64.wrap (p * n)=p * n:=by rw[IntKind.wrap_i64];omega
 have hn0:n≠0:=by omega
 clear g hm h3 hpn;go_enter Tryz.func33,Tryz.ntmps33;go_wp2_with fail;refine(HM.out _ _ G.out).mono ?_;rintro e w6 ⟨rfl,g6⟩;have G6:=hid g6;clear g6 G HM;have z1:=fun i=>an (af G6.out) i
 have b0:=ae (af G6.out) 0 rfl;have b1:=ae (af G6.out) 1 rfl;have b2:=ae (af G6.out) 2 rfl;have b3:=ae (af G6.out) 3 rfl;have b4:=ae (af G6.out) 4 rfl;have b5:=ae (af G6.out) 5 rfl;go_wp2;clear z1 b0 b1 b2 b3 b4 b5;obtain⟨HF,hk⟩:=ay (af G6.out) (E) (hd) (av) (0) ⟨#[]⟩ (cg);have TZ:=aa.aJ (ts:=tnl x S1 ts) G6.out HF;have k0:=hk 0 _ rfl;have k1:=hk 1 _ rfl;have k2:=hk 2 _ rfl;have k3:=hk 3 _ rfl;have k4:=hk 4 _ rfl;have k5:=hk 5 _ rfl;clear HF hk;generalize (((((w6.setCell ⟨w.heap.size,0,none⟩ (.int .i64 (E))).setCell ⟨w.heap.size,1,none⟩ (.int .u64 (hd))).setCell ⟨w.heap.size,2,none⟩ (.int .i64 (av))).setCell ⟨w.heap.size,3,none⟩ (.int .i64 (0))).setCell ⟨w.heap.size,4,none⟩ (.string ⟨#[]⟩)).setCell ⟨w.heap.size,5,none⟩ (.int .i64 (cg))=wz at *;exact bodyPost_ret (v:=ans (E) (hd) (av) (0) ⟨#[]⟩ (cg)) (by simp[results,Tryz.results33,go_sem,k0,k1,k2,k3,k4,k5]) rfl ⟨rfl,TZ⟩
def Tp.peak(x:Tp)(p:Int):Tp:={ x with pk:=p }
def rzS(k:Nat)(S:TnS)(q:Int)(l:List Int):TnS:={ S with M:=(hMo k S.M S.H l).1,H:=(hMo k S.M S.H l).2.1,s:=Qt.rszS S.s (okA q 0) (okB q 0) }
theorem tc{p:Int}(g:aa W w (tnl x S ts)):aa W (w.setCell ⟨x.T,6,none⟩ (.int .i64 p)) (tnl (x.peak p) S ts):=g.setAt 4 rfl 6 _
theorem lH(g:aa W w (tnl x S ts))(gr:G17 W){q pg:Int}{v:Value}
  (hp:Calls Tryz.prog 59 #[.pointer (some ⟨x.m,0,none⟩),v] w fun e w'=>e=.returned (.int .i64 pg)∧aa W w' (tnl x S ts))(hE:fitE S.s.cb x.pk q pg≠0):Calls Tryz.prog 34 #[.pointer (some ⟨x.T,0,none⟩),.int .i64 q,v] w fun e w'=>e=.returned (.int .i64 (fitE S.s.cb x.pk q pg))∧aa W w' (tnl x S ts):=by
 have c2:=ak g 2 rfl;have HP:=hid hp;have HF:=hid fun(w:World) (g:aa W w (tnl x S ts))=>lN g gr q pg
 generalize fitE S.s.cb x.pk q pg=E at *;clear g gr hp;go_enter Tryz.func34,Tryz.ntmps34;go_wp2_with fail;refine HP.out.mono ?_;rintro e w1 ⟨rfl,g1⟩;have G1:=hid g1;clear g1 HP c2;go_wp2_with fail;refine(HF.out _ G1.out).mono ?_;rintro e w2 ⟨rfl,g2⟩;have G2:=hid g2;clear g2 G1 HF;go_wp2;go_ret;exact⟨by simp,G2.out⟩
theorem nJ(g:aa W w (tnl x S (Lv ad l::ts)))(gr:G17 W)(hc:Hc x.k S.M S.H){q pg:Int}{cap:Nat}(hl:l.length≤100000)
  (hp:Calls Tryz.prog 59 #[.pointer (some ⟨x.m,0,none⟩),.slice ad l.length cap] w fun e w'=>e=.returned (.int .i64 pg)∧aa W w' (tnl x S (Lv ad l::ts)))(hE:fitE S.s.cb x.pk q pg=0)(hmo:(hMo x.k S.M S.H l).2.2=0):Calls Tryz.prog 34 #[.pointer (some ⟨x.T,0,none⟩),.int .i64 q,.slice ad l.length cap] w fun e w'=>e=.returned (.int .i64 (Qt.rszE S.s (okA q 0) (okB q 0)))∧aa W w' (tnl (x.peak (npI S.s.cb x.pk q)) (rzS x.k S q l) (Non::ts)):=by
 have c2:=ak g 2 rfl;have HP:=hid hp;have HF:Hid (∀(w:World),aa W w (tnl x S (Lv ad l::ts))→Calls Tryz.prog 36 #[.pointer (some ⟨x.T,0,none⟩),.int .i64 q,.int .i64 pg] w fun e w'=>e=.returned (.int .i64 0)∧aa W w' (tnl x S (Lv ad l::ts))):=fun w g=>by
  have h:=lN g gr q pg;rw[hE] at h;exact h
 have HM:Hid (∀(w:World),aa W w (tnl x S (Lv ad l::ts))→w.cell? ⟨x.T,3,none⟩=some (.pointer (some ⟨x.h,0,none⟩))∧Calls Tryz.prog 62 #[.pointer (some ⟨x.h,0,none⟩),.slice ad l.length cap] w fun e w'=>e=.returned (.int .i64 (hMo x.k S.M S.H l).2.2)∧aa W w' (tnl x { S with M:=(hMo x.k S.M S.H l).1,H:=(hMo x.k S.M S.H l).2.1 } (Non::ts))):=fun w g=>⟨ak g 3 rfl,yT g gr 0 5 rfl rfl (by decide) hc hl cap⟩
 have HN:Hid (∀(w:World) S1 (ts:List (World→(Nat→Prop)→Prop)),S1.s=S.s→aa W w (tnl x S1 ts)→Calls Tryz.prog 63 #[.pointer (some ⟨x.T,0,none⟩),.int .i64 q] w fun e w'=>e=.returned (.int .i64 (npI S.s.cb x.pk q))∧aa W w' (tnl x S1 ts)):=fun w S1 ts hs g=>by
  have h:=fx g q;rw[hs] at h;exact h
 have HB:=hid fun(w:World)=>kf q w
 have HQ:Hid (∀(w:World) (x1:Tp) S1 (ts:List (World→(Nat→Prop)→Prop)),x1.q=x.q→S1.s=S.s→aa W w (tnl x1 S1 ts)→Calls Tryz.prog 64 #[.pointer (some ⟨x.q,0,none⟩),.complex .f64 (fb (okA q 0)) (fb (okB q 0))] w fun e w'=>e=.returned (.int .i64 (Qt.rszE S.s (okA q 0) (okB q 0)))∧aa W w' (tnl x1 { S1 with s:=Qt.rszS S.s (okA q 0) (okB q 0) } ts)):=fun w x1 S1 ts hq hs g=>by
  rw[←hq,←hs];have r:Rt (okA q 0) (okB q 0):=by
   unfold okA okB;split
   ·assumption
   ·unfold Rt;omega
  exact g.lift 2 rfl (Qq.good ..) fun _ ⟨k,z,hl⟩=>(Qt.q_rsz k r).mono fun _ _ ⟨he,k',f⟩=>⟨he,fo z hl k' f⟩
 rw[hmo] at HM;have hrz:rzS x.k S q l={ { S with M:=(hMo x.k S.M S.H l).1,H:=(hMo x.k S.M S.H l).2.1 } with s:=Qt.rszS S.s (okA q 0) (okB q 0) }:=rfl;rw[hrz];have hs1:({ S with M:=(hMo x.k S.M S.H l).1,H:=(hMo x.k S.M S.H l).2.1 }:TnS).s=S.s:=rfl;generalize ({ S with M:=(hMo x.k S.M S.H l).1,H:=(hMo x.k S.M S.H l).2.1 }:TnS)=S1 at *;clear g hp hE hc hl hmo gr hrz;generalize l.length=ll at *;generalize npI S.s.cb x.pk q=np at *;generalize Qt.rszE S.s (okA q 0) (okB q 0)=ez at *;generalize Qt.rszS S.s (okA q 0) (okB q 0)=sz at *;generalize fb (okA q 0)=fa at *;generalize fb (okB q 0)=fb2 at *;go_enter Tryz.func34,Tryz.ntmps34;go_wp2_with fail;refine HP.out.mono ?_;rintro e w1 ⟨rfl,g1⟩;have G1:=hid g1;clear g1 HP c2;go_wp2_with fail;refine(HF.out _ G1.out).mono ?_;rintro e w2 ⟨rfl,g2⟩;obtain⟨c3,hM⟩:=HM.out _ g2;have HM2:=hid hM;clear g2 G1 HF HM hM;go_wp2_with fail;refine HM2.out.mono ?_;rintro e w3 ⟨rfl,g3⟩;have G3:=hid g3;clear g3 HM2 c3;go_wp2_with fail;refine(HN.out _ _ _ hs1 G3.out).mono ?_;rintro e w4 ⟨rfl,g4⟩;have G4:=hid g4;have c6:=ak g4 6 rfl;have f6:=an (g4.cells 4 rfl) 6;clear g4 G3 HN;go_wp2_with fail;have GP:=hid (tc (p:=np) G4.out);have GD:=hid (GP.out.kept (Fr.refl _ _).drew);have H5:Hid (∀(w:World) S2 (ts:List (World→(Nat→Prop)→Prop)),aa W w (tnl (x.peak np) S2 ts)→w.cell? ⟨x.T,5,none⟩=some (.pointer (some ⟨x.q,0,none⟩))):=fun w S2 ts g=>ak g 5 rfl
 have d5:=H5.out _ _ _ GD.out;clear G4 c6 f6 GP;generalize w4.setCell ⟨x.T,6,none⟩ (.int .i64 np)=v4 at *;go_region_held3 (fun w'=>w'.cell? ⟨x.T,5,none⟩=some (.pointer (some ⟨x.q,0,none⟩))) (first|(with_reducible assumption)|go_keep) (first|(go_at_call 65;refine(HB.out _).mono ?_;rintro e w5 ⟨rfl,f5⟩;have G5:=hid (GD.out.kept f5);have e5:=H5.out _ _ _ G5.out;clear f5)|(go_at_call 64;refine(HQ.out _ (x.peak np) _ _ rfl hs1 G5.out).mono ?_;rintro e w6 ⟨rfl,g6⟩;have G6:=hid g6;have e6:=H5.out _ _ _ g6;clear g6))
 all_goals
  clear d5 e5 e6 GD G5 HB HQ H5;go_wp2;go_ret;exact⟨by simp,G6.out⟩
theorem ke(g:aa W w (tnl x S (Lv ad l::ts)))(gr:G17 W)(hc:Hc x.k S.M S.H){q pg:Int}{cap:Nat}(hl:l.length≤100000)
  (hp:Calls Tryz.prog 59 #[.pointer (some ⟨x.m,0,none⟩),.slice ad l.length cap] w fun e w'=>e=.returned (.int .i64 pg)∧aa W w' (tnl x S (Lv ad l::ts)))(hE:fitE S.s.cb x.pk q pg=0)(hmo:(hMo x.k S.M S.H l).2.2≠0):Calls Tryz.prog 34 #[.pointer (some ⟨x.T,0,none⟩),.int .i64 q,.slice ad l.length cap] w fun e w'=>e=.returned (.int .i64 (hMo x.k S.M S.H l).2.2)∧aa W w' (tnl x { S with M:=(hMo x.k S.M S.H l).1,H:=(hMo x.k S.M S.H l).2.1 } (Non::ts)):=by
 have c2:=ak g 2 rfl;have HP:=hid hp;have HF:Hid (∀(w:World),aa W w (tnl x S (Lv ad l::ts))→Calls Tryz.prog 36 #[.pointer (some ⟨x.T,0,none⟩),.int .i64 q,.int .i64 pg] w fun e w'=>e=.returned (.int .i64 0)∧aa W w' (tnl x S (Lv ad l::ts))):=fun w g=>by
  have h:=lN g gr q pg;rw[hE] at h;exact h
 have HM:Hid (∀(w:World),aa W w (tnl x S (Lv ad l::ts))→w.cell? ⟨x.T,3,none⟩=some (.pointer (some ⟨x.h,0,none⟩))∧Calls Tryz.prog 62 #[.pointer (some ⟨x.h,0,none⟩),.slice ad l.length cap] w fun e w'=>e=.returned (.int .i64 (hMo x.k S.M S.H l).2.2)∧aa W w' (tnl x { S with M:=(hMo x.k S.M S.H l).1,H:=(hMo x.k S.M S.H l).2.1 } (Non::ts))):=fun w g=>⟨ak g 3 rfl,yT g gr 0 5 rfl rfl (by decide) hc hl cap⟩
 have HN:Hid (∀(w:World) S1 (ts:List (World→(Nat→Prop)→Prop)),S1.s=S.s→aa W w (tnl x S1 ts)→Calls Tryz.prog 63 #[.pointer (some ⟨x.T,0,none⟩),.int .i64 q] w fun e w'=>e=.returned (.int .i64 (npI S.s.cb x.pk q))∧aa W w' (tnl x S1 ts)):=fun w S1 ts hs g=>by
  have h:=fx g q;rw[hs] at h;exact h
 have HB:=hid fun(w:World)=>kf q w
 have HQ:Hid (∀(w:World) (x1:Tp) S1 (ts:List (World→(Nat→Prop)→Prop)),x1.q=x.q→S1.s=S.s→aa W w (tnl x1 S1 ts)→Calls Tryz.prog 64 #[.pointer (some ⟨x.q,0,none⟩),.complex .f64 (fb (okA q 0)) (fb (okB q 0))] w fun e w'=>e=.returned (.int .i64 (Qt.rszE S.s (okA q 0) (okB q 0)))∧aa W w' (tnl x1 { S1 with s:=Qt.rszS S.s (okA q 0) (okB q 0) } ts)):=fun w x1 S1 ts hq hs g=>by
  rw[←hq,←hs];have r:Rt (okA q 0) (okB q 0):=by
   unfold okA okB;split
   ·assumption
   ·unfold Rt;omega
  exact g.lift 2 rfl (Qq.good ..) fun _ ⟨k,z,hl⟩=>(Qt.q_rsz k r).mono fun _ _ ⟨he,k',f⟩=>⟨he,fo z hl k' f⟩
 generalize (hMo x.k S.M S.H l).2.2=E at *;generalize ({ S with M:=(hMo x.k S.M S.H l).1,H:=(hMo x.k S.M S.H l).2.1 }:TnS)=S1 at *;clear g hp hE hc hl gr HN HB HQ;generalize l.length=ll at *;go_enter Tryz.func34,Tryz.ntmps34;go_wp2_with fail;refine HP.out.mono ?_;rintro e w1 ⟨rfl,g1⟩;have G1:=hid g1;clear g1 HP c2;go_wp2_with fail;refine(HF.out _ G1.out).mono ?_;rintro e w2 ⟨rfl,g2⟩;obtain⟨c3,hM⟩:=HM.out _ g2;have HM2:=hid hM;clear g2 G1 HF HM hM;go_wp2_with fail;refine HM2.out.mono ?_;rintro e w3 ⟨rfl,g3⟩;have G3:=hid g3;clear g3 HM2 c3;go_wp2;go_ret;exact⟨by simp,G3.out⟩
def drS(S:TnS)(id:Int):TnS:=⟨(hDr S.M S.H).1,(hDr S.M S.H).2,⟨id,S.c.nx,[]⟩,Qt.refS S.s S.s.cb S.s.cp,fun _=>none,0⟩
def Tp.dropped(x:Tp)(c B:Nat):Tp:={ x with c:=c,B:=B }
theorem n_drop(g:aa W w (tnl x S ts))(gr:G17 W)(hc:Hc x.k S.M S.H)(hid7:0≤x.id∧x.id≤7):Calls Tryz.prog 35 #[.pointer (some ⟨x.T,0,none⟩)] w fun e w'=>e=.returned (.tuple #[])∧∃c B,aa W w' (tnl (x.dropped c B) (drS S x.id) ts):=by
 have c3:=ak g 3 rfl;have G:=hid g;have okq:=qq_ok g 2 rfl;have okc:=xi g 1 rfl;have H1:Hid (∀(w:World),aa W w (tnl x S ts)→Calls Tryz.prog 66 #[.pointer (some ⟨x.h,0,none⟩)] w fun e w'=>e=.returned (.tuple #[])∧aa W w' (tnl x { S with M:=(hDr S.M S.H).1,H:=(hDr S.M S.H).2 } ts)):=fun w g=>q_drop g gr 0 rfl hc
 have H2:Hid (∀(w:World),aa W w (tnl x { S with M:=(hDr S.M S.H).1,H:=(hDr S.M S.H).2 } ts)→w.cell? ⟨x.T,5,none⟩=some (.pointer (some ⟨x.q,0,none⟩))∧Calls Tryz.prog 27 #[.pointer (some ⟨x.q,0,none⟩)] w fun e w'=>e=.returned (.complex .f64 (fb S.s.cb) (fb S.s.cp))∧aa W w' (tnl x { S with M:=(hDr S.M S.H).1,H:=(hDr S.M S.H).2 } ts)):=fun w g=>⟨ak g 5 rfl,zj g 2 rfl⟩
 have H3:Hid (∀(w:World),aa W w (tnl x { S with M:=(hDr S.M S.H).1,H:=(hDr S.M S.H).2 } ts)→Calls Tryz.prog 67 #[.pointer (some ⟨x.q,0,none⟩),.complex .f64 (fb S.s.cb) (fb S.s.cp)] w fun e w'=>(∃v,e=.returned v)∧aa W w' (tnl x { S with M:=(hDr S.M S.H).1,H:=(hDr S.M S.H).2,s:=Qt.refS S.s S.s.cb S.s.cp } ts)):=fun w g=>(zh g 2 rfl okq.char).mono fun e w' ⟨he,h⟩=>⟨⟨_,he⟩,h⟩
 have H4:Hid (∀(w:World),aa W w (tnl x { S with M:=(hDr S.M S.H).1,H:=(hDr S.M S.H).2,s:=Qt.refS S.s S.s.cb S.s.cp } ts)→w.cell? ⟨x.T,4,none⟩=some (.pointer (some ⟨x.c,0,none⟩))∧w.cell? ⟨x.T,0,none⟩=some (.int .i64 x.id)∧Calls Tryz.prog 68 #[.pointer (some ⟨x.c,0,none⟩)] w fun e w'=>e=.returned (.int .i64 S.c.nx)∧aa W w' (tnl x { S with M:=(hDr S.M S.H).1,H:=(hDr S.M S.H).2,s:=Qt.refS S.s S.s.cb S.s.cp } ts)):=fun w g=>⟨ak g 4 rfl,ak g 0 rfl,mh g 1 rfl⟩
 have H5:Hid (∀(w:World),aa W w (tnl x { S with M:=(hDr S.M S.H).1,H:=(hDr S.M S.H).2,s:=Qt.refS S.s S.s.cb S.s.cp } ts)→Calls Tryz.prog 57 #[.int .i64 x.id,.int .i64 S.c.nx] w fun e w'=>∃c,e=.returned (.tuple #[.pointer (some ⟨c,0,none⟩),.int .i64 0])∧aa W w' (tnl x { S with M:=(hDr S.M S.H).1,H:=(hDr S.M S.H).2,s:=Qt.refS S.s S.s.cb S.s.cp } ts++[Kc c ⟨x.id,S.c.nx,[]⟩])):=fun w g=>zi g gr ⟨hid7,okc.nx⟩
 have H6:Hid (∀(w:World) c,aa W w (tnl x { S with M:=(hDr S.M S.H).1,H:=(hDr S.M S.H).2,s:=Qt.refS S.s S.s.cb S.s.cp } ts++[Kc c ⟨x.id,S.c.nx,[]⟩])→aa W (w.setCell ⟨x.T,4,none⟩ (.pointer (some ⟨c,0,none⟩))) (tnl { x with c:=c } { S with M:=(hDr S.M S.H).1,H:=(hDr S.M S.H).2,s:=Qt.refS S.s S.s.cb S.s.cp,c:=⟨x.id,S.c.nx,[]⟩ } ts)):=fun w c g=>by
  have h:=(aa.oP g 1).setAt 4 rfl 4 (.pointer (some ⟨c,0,none⟩));exact h
 have H7:Hid (∀(w:World) c,aa W w (tnl { x with c:=c } { S with M:=(hDr S.M S.H).1,H:=(hDr S.M S.H).2,s:=Qt.refS S.s S.s.cb S.s.cp,c:=⟨x.id,S.c.nx,[]⟩ } ts)→aa W ((w.alloc (.map #[] 0)).setCell ⟨x.T,7,none⟩ (.map (some w.heap.size))) (tnl (x.dropped c w.heap.size) (drS S x.id) ts)):=fun w c g=>by
  have h:=(aa.oP g.objs 3).setAt 4 rfl 7 (.map (some w.heap.size));exact h
 have H6z:Hid (∀(w:World) (c:Nat),aa W w (tnl x { S with M:=(hDr S.M S.H).1,H:=(hDr S.M S.H).2,s:=Qt.refS S.s S.s.cb S.s.cp } ts++[Kc c ⟨x.id,S.c.nx,[]⟩])→w.cell? ⟨x.T,4,none⟩=some (.pointer (some ⟨x.c,0,none⟩))∧w.frozen? ⟨x.T,4,none⟩=false):=fun w c g=>⟨ae (g.cells 4 rfl) 4 rfl,an (g.cells 4 rfl) 4⟩
 clear hc okq okc hid7 gr;generalize ({ S with M:=(hDr S.M S.H).1,H:=(hDr S.M S.H).2 }:TnS)=S1 at *;generalize ({ S with M:=(hDr S.M S.H).1,H:=(hDr S.M S.H).2,s:=Qt.refS S.s S.s.cb S.s.cp }:TnS)=S2 at *;generalize ({ S with M:=(hDr S.M S.H).1,H:=(hDr S.M S.H).2,s:=Qt.refS S.s S.s.cb S.s.cp,c:=⟨x.id,S.c.nx,[]⟩ }:TnS)=S3 at *;generalize drS S x.id=S4 at *;generalize fb S.s.cb=fa at *;generalize fb S.s.cp=fb2 at *;generalize S.c.nx=nx at *;generalize x.id=xid at *;go_enter Tryz.func35,Tryz.ntmps35;go_wp2_with fail;refine(H1.out _ G.out).mono ?_;rintro e w1 ⟨rfl,g1⟩;have GD:=hid (g1.kept (Fr.refl _ _).drew);obtain⟨d5,hC⟩:=H2.out _ GD.out;have HC:=hid hC;have G1:=hid g1;clear g1 G H1 hC g c3;go_wp2_with fail;go_region_held3 (fun w'=>w'.cell? ⟨x.T,5,none⟩=some (.pointer (some ⟨x.q,0,none⟩))) (first|(with_reducible assumption)|go_keep) (first|(go_at_call 27;refine HC.out.mono ?_;rintro e w2 ⟨rfl,g2⟩;have G2:=hid g2;have e5:=(H2.out _ g2).1;clear g2)|(go_at_call 67;refine(H3.out _ G2.out).mono ?_;rintro e w3 ⟨⟨v,rfl⟩,g3⟩;have G3:=hid g3;have e6:w3.cell? ⟨x.T,5,none⟩=some (.pointer (some ⟨x.q,0,none⟩)):=ak g3 5 rfl;clear g3))
 all_goals
  clear d5 e5 e6 HC G1 GD G2 H2 H3;go_wp2_with fail;have GE:=hid (G3.out.kept (Fr.refl _ _).drew);obtain⟨s4,s0,hS⟩:=H4.out _ GE.out;have HS:=hid hS;clear hS G3;go_region_with (first|(go_at_call 68;refine HS.out.mono ?_;rintro e w4 ⟨rfl,g4⟩;have G4:=hid g4;obtain⟨t4,t0,_⟩:=H4.out _ g4;clear g4)|(go_at_call 57;refine(H5.out _ G4.out).mono ?_;rintro e w5 ⟨c,rfl,g5⟩;have G5:=hid g5;obtain⟨u4,f4⟩:=H6z.out _ _ g5;clear g5))
  all_goals
   have G6:=hid (H6.out _ c G5.out);clear s4 s0 t4 t0 u4 f4 HS G4 G5 GE H4 H5 H6 H6z;generalize w5.setCell ⟨x.T,4,none⟩ (.pointer (some ⟨c,0,none⟩))=v6 at *;have hmm:= @run_makeMap Tryz.prog;have m7:(v6.alloc (.map #[] 0)).cell? ⟨x.T,7,none⟩=some (.map (some x.B)):=ae (G6.out.objs.cells 4 rfl) 7 rfl;have mf:=an (G6.out.objs.cells 4 rfl) 7;have G7:=hid (H7.out _ _ G6.out);clear G6 H7;go_wp2;go_end0;exact⟨rfl,c,_,G7.out⟩
end
def phys(T:Tb)(a:Int):Int:=tbF T (a / 512) * 512+a % 512
def lb(T:Tb)(bs:List UInt8)(a:Int):UInt8:=bs[(phys T a).toNat]?.getD 0
section
variable{T:Tb}{a:Int}{bs bs' ds:List UInt8}
theorem tf:∀k:Nat,(∀i:Nat,i<k→¬tbF T ((a+i) / 512)<0)→∃L,pcs T a k=some L
 |0,_=>⟨[],rfl⟩
 |k+1,h=>by
  obtain⟨L,hL⟩:=tf k fun i hi=>h i (by omega)
  by_cases e:k=0∨(a+k) % 512=0
  ·exact⟨_,ia hL (h k (by omega)) e⟩
  ·exact⟨_,ed hL (h k (by omega)) e⟩
theorem cL(bs:List UInt8)(s:Sq):∀L:List Sq,rdB bs (L++[s])=rdB bs L++(bs.drop s.1.toNat).take s.2.1.toNat
 |[]=>by simp[rdB]
 |t::r=>by simp only[List.cons_append,rdB,cL bs s r,List.append_assoc]
theorem fZ:∀(k:Nat) (L:List Sq),pcs T a k=some L→(∀q:Int,(∃s∈L,s.1≤q∧q<s.1+s.2.1)↔∃i:Nat,i<k∧q=phys T (a+i))∧((k=0∧L=[])∨∃L0 s,L=L0++[s]∧s.1+s.2.1=phys T (a+((k - 1:Nat):Int))+1∧0≤s.1∧1≤s.2.1∧0<k)
 |0,L,h=>by
  unfold pcs at h;simp only[Option.some.injEq] at h;subst h;refine⟨fun q=>⟨fun⟨s,hs,_⟩=>(by cases hs),fun⟨i,hi,_⟩=>by omega⟩,.inl ⟨rfl,rfl⟩⟩
 |k+1,L,h=>by
  cases hp:pcs T a k with
  |none=>rw[ga hp (by omega)] at h;cases h
  |some M=>
   obtain⟨ih,il⟩:=fZ k M hp;by_cases hf:tbF T ((a+k) / 512)<0
   ·rw[fY hf (by omega)] at h;cases h
   have hadd:∀(L':List Sq),(∀q:Int,(∃s∈L',s.1≤q∧q<s.1+s.2.1)↔(∃s∈M,s.1≤q∧q<s.1+s.2.1)∨q=phys T (a+k))→∀q:Int,(∃s∈L',s.1≤q∧q<s.1+s.2.1)↔∃i:Nat,i<k+1∧q=phys T (a+i):=fun L' hL q=>by
    rw[hL q,ih q];constructor
    ·rintro(⟨i,hi,e⟩|e)
     ·exact⟨i,by omega,e⟩
     ·exact⟨k,by omega,e⟩
    ·rintro⟨i,hi,e⟩;by_cases e2:i=k
     ·subst e2;exact .inr e
     ·exact .inl ⟨i,by omega,e⟩
   by_cases hk:k=0∨(a+k) % 512=0
   ·rw[ia hp hf hk] at h;simp only[Option.some.injEq] at h;subst h;refine⟨hadd _ fun q=> ?_,.inr ⟨M,_,rfl,?_,?_,by show(1:Int)≤1;omega,by omega⟩⟩
    ·constructor
     ·rintro⟨s,hs,h1,h2⟩;rcases List.mem_append.1 hs with e|e
      ·exact .inl ⟨s,e,h1,h2⟩
      ·simp only[List.mem_singleton] at e;subst e;have h1:phys T (a+k)≤q:=h1;have h2:q<phys T (a+k)+1:=h2;exact .inr (by omega)
     ·rintro(⟨s,hs,h1⟩|e)
      ·exact⟨s,List.mem_append_left _ hs,h1⟩
      ·exact⟨_,List.mem_append_right _ (List.mem_singleton.2 rfl),by show phys T (a+k)≤q∧q<phys T (a+k)+1;omega⟩
    ·rw[Nat.add_sub_cancel];rfl
    ·show 0≤tbF T ((a+k) / 512) * 512+(a+k) % 512
     generalize tbF T ((a+k) / 512)=z at *;omega
   ·rw[ed hp hf hk] at h;simp only[Option.some.injEq] at h;subst h;rcases il with⟨e,_⟩|⟨L0,s,rfl,e1,e2,e3,e4⟩
    ·exact(hk (.inl e)).elim
    rw[dn];have hnext:phys T (a+((k - 1:Nat):Int))+1=phys T (a+k):=by
     unfold phys;have hd:(a+((k - 1:Nat):Int)) / 512=(a+k) / 512:=by omega
     rw[hd];generalize tbF T ((a+k) / 512)=z at *;omega
    refine⟨hadd _ fun q=> ?_,.inr ⟨L0,_,rfl,?_,e2,by show 1≤s.2.1+1;omega,by omega⟩⟩
    ·constructor
     ·rintro⟨t,ht,h1,h2⟩;rcases List.mem_append.1 ht with e|e
      ·exact .inl ⟨t,List.mem_append_left _ e,h1,h2⟩
      ·simp only[List.mem_singleton] at e;subst e;have h1:s.1≤q:=h1;have h2:q<s.1+(s.2.1+1):=h2;by_cases e5:q<s.1+s.2.1
       ·exact .inl ⟨s,List.mem_append_right _ (List.mem_singleton.2 rfl),h1,e5⟩
       ·exact .inr (by omega)
     ·rintro(⟨t,ht,h1,h2⟩|e)
      ·rcases List.mem_append.1 ht with e|e
       ·exact⟨t,List.mem_append_left _ e,h1,h2⟩
       ·simp only[List.mem_singleton] at e;subst e;exact⟨_,List.mem_append_right _ (List.mem_singleton.2 rfl),by show t.1≤q∧q<t.1+(t.2.1+1);omega⟩
      ·exact⟨_,List.mem_append_right _ (List.mem_singleton.2 rfl),by show s.1≤q∧q<s.1+(s.2.1+1);omega⟩
    ·show s.1+(s.2.1+1)=_
     rw[Nat.add_sub_cancel];omega
theorem jT:∀(k:Nat) (L:List Sq),pcs T a k=some L→(∀i:Nat,i<k→phys T (a+i)<bs.length)→rdB bs L=(List.range k).map fun i:Nat=>lb T bs (a+i)
 |0,L,h,_=>by
  unfold pcs at h;simp only[Option.some.injEq] at h;subst h;rfl
 |k+1,L,h,hb=>by
  cases hp:pcs T a k with
  |none=>rw[ga hp (by omega)] at h;cases h
  |some M=>
   have ih:=jT k M hp fun i hi=>hb i (by omega)
   have il:=(fZ k M hp).2;have hbk:=hb k (by omega);by_cases hf:tbF T ((a+k) / 512)<0
   ·rw[fY hf (by omega)] at h;cases h
   have h0:0≤phys T (a+k):=by
    unfold phys;generalize tbF T ((a+k) / 512)=z at *;omega
   have hlb:bs[(phys T (a+k)).toNat]? =some (lb T bs (a+k)):=by
    unfold lb;rw[List.getElem?_eq_getElem (by omega)];rfl
   rw[List.range_succ,List.map_append];by_cases hk:k=0∨(a+k) % 512=0
   ·rw[ia hp hf hk] at h;simp only[Option.some.injEq] at h;subst h;rw[cL,ih];congr 1;show(bs.drop (phys T (a+k)).toNat).take 1=[lb T bs (a+k)];apply List.ext_getElem?;intro i;by_cases e:i<1
    ·obtain rfl:i=0:=by omega
     rw[List.getElem?_take_of_lt (by omega),List.getElem?_drop,Nat.add_zero,hlb];rfl
    ·rw[List.getElem?_eq_none (by simp;omega),List.getElem?_eq_none (by simp;omega)]
   ·rw[ed hp hf hk] at h;simp only[Option.some.injEq] at h;subst h;rcases il with⟨e,_⟩|⟨L0,s,rfl,e1,e2,e3,e4⟩
    ·exact(hk (.inl e)).elim
    have hnext:phys T (a+((k - 1:Nat):Int))+1=phys T (a+k):=by
     unfold phys;have hd:(a+((k - 1:Nat):Int)) / 512=(a+k) / 512:=by omega
     rw[hd];generalize tbF T ((a+k) / 512)=z at *;omega
    rw[dn,cL,←ih,cL,List.append_assoc];congr 1;show(bs.drop s.1.toNat).take (s.2.1+1).toNat=(bs.drop s.1.toNat).take s.2.1.toNat++[lb T bs (a+k)];rw[show(s.2.1+1).toNat=s.2.1.toNat+1 by omega,List.take_add_one,List.getElem?_drop,show s.1.toNat+s.2.1.toNat=(phys T (a+k)).toNat by omega,hlb];rfl
end
structure aT(T:Tb)(N:Nat)(a:Int)(n:Nat):Prop where
 ok:VwOk T N a n
 pc:pcs T a n=some (piL T a n)
 at_:∀i:Nat,i<n→¬tbF T ((a+i) / 512)<0∧0≤phys T (a+i)∧phys T (a+i)<N
section
variable{T:Tb}{a:Int}{n N:Nat}{bs ds:List UInt8}
theorem sJ(hw:InWt a n)(hp:∀i:Nat,i<n→¬tbF T ((a+i) / 512)<0∧phys T (a+i)<N):aT T N a n:=by
 obtain⟨L,hL⟩:=tf (T:=T) (a:=a) n fun i hi=>(hp i hi).1
 have hL':pcs T a (n:Int).toNat=some L:=hL;obtain⟨e1,e2⟩:=yU hw hL';have hph:=(fZ n L hL).1;have h0:∀i:Nat,i<n→0≤phys T (a+i):=fun i hi=>by
  have:=(hp i hi).1;unfold phys;generalize tbF T ((a+i) / 512)=z at *;omega
 refine⟨⟨e2,fun s hs=> ?_⟩,by rw[e1];exact hL,fun i hi=>⟨(hp i hi).1,h0 i hi,(hp i hi).2⟩⟩;rw[e1] at hs;have pk:=lD (T:=T) (a:=a) (by have:=hw.2.1;omega) n L hL;obtain⟨j,hj,rfl⟩:=List.getElem_of_mem hs;obtain⟨_,a2,_⟩:=pk.all j hj;obtain⟨i,hi,e⟩:=(hph (L[j].1+L[j].2.1 - 1)).1 ⟨_,hs,by omega,by omega⟩;have:=(hp i hi).2;omega
theorem aT.read(h:aT T bs.length a n):vrV T bs a n=(List.range n).map fun i:Nat=>lb T bs (a+i):=by
 unfold vrV;rw[if_pos h.ok];exact jT n _ h.pc fun i hi=>(h.at_ i hi).2.2
theorem aT.apt(h:aT T N a n)(ok:TbOk T):Apt N (piL T a n)∧lenL (piL T a n)=n:=by
 obtain⟨h1,h2,_⟩:=h.ok.apt ok;exact⟨h1,by rw[h2];rfl⟩
theorem aT.wr(h:aT T bs.length a n)(hd:ds.length=n):vwB T bs a ds=wrB bs (piL T a n) ds:=by
 unfold vwB;rw[hd,if_pos h.ok]
theorem aT.wlen(h:aT T bs.length a n)(ok:TbOk T)(hd:ds.length=n):(vwB T bs a ds).length=bs.length:=by rw[h.wr hd];exact eZ (h.apt ok).1
theorem aT.far(h:aT T bs.length a n)(ok:TbOk T)(hd:ds.length=n)(q:Nat)(hq:∀i:Nat,i<n→(q:Int)≠phys T (a+i)):(vwB T bs a ds)[q]? =bs[q]? :=by
 rw[h.wr hd];refine mU (h.apt ok).1 q fun s hs=> ?_
 by_cases e:(q:Int)<s.1∨s.1+s.2.1≤q
 ·exact e
 ·obtain⟨i,hi,e2⟩:=((fZ n _ h.pc).1 q).1 ⟨s,hs,by omega,by omega⟩;exact(hq i hi e2).elim
theorem aT.same(h:aT T bs.length a n)(ok:TbOk T)(hd:ds.length=n):(List.range n).map (fun i:Nat=>lb T (vwB T bs a ds) (a+i))=ds:=by
 have h2:aT T (vwB T bs a ds).length a n:=by rw[h.wlen ok hd];exact h
 rw[←jT n _ h2.pc fun i hi=>(h2.at_ i hi).2.2,h.wr hd];exact rd_wr (h.apt ok).1 (by rw[(h.apt ok).2];exact hd)
theorem wv(ok:TbOk T){b:Int}(ha:¬tbF T (a / 512)<0)(hb:¬tbF T (b / 512)<0)(e:phys T a=phys T b):a=b:=by
 unfold phys at e;have h1:=ok.aQ ha;have h2:=ok.aQ hb;have e2:tbF T (a / 512)=tbF T (b / 512):=by omega
 have h3:=aW ok h1;rw[e2,aW ok h2] at h3;omega
theorem zP{bs bs':List UInt8}{b:Nat}(h:∀i,i<512→bs'[b+i]? =bs[b+i]?):win bs' b=win bs b:=by
 apply List.ext_getElem?;intro i;by_cases hi:i<512
 ·rw[aZ _ _ _ hi,aZ _ _ _ hi];exact h i hi
 ·unfold win;rw[List.getElem?_eq_none (by simp;omega),List.getElem?_eq_none (by simp;omega)]
theorem nr{k:Ck}{bs bs':List UInt8}:∀{L:List Nat},(∀x∈L,∀i,i<8→bs'[k.pos x+i]? =bs[k.pos x+i]?)→Rep k bs L→Rep k bs' L
 |[],_,_=>trivial
 |x::L,h,⟨h1,h2⟩=>by
  refine⟨?_,nr (fun y hy=>h y (List.mem_cons_of_mem _ hy)) h2⟩;rw[←h1];unfold wd;congr 1;apply List.ext_getElem?;intro i;by_cases hi:i<8
  ·rw[List.getElem?_take_of_lt hi,List.getElem?_take_of_lt hi,List.getElem?_drop,List.getElem?_drop];exact h x (List.mem_cons_self ..) i hi
  ·rw[List.getElem?_eq_none (by simp;omega),List.getElem?_eq_none (by simp;omega)]
theorem Pg.Ok.uC{g:Pg}{bs bs':List UInt8}(h:g.Ok bs)(hc:g.Clean bs){j:Nat}(hj:j<pp g.kind)(hh:g.Had j)(hl:bs'.length=bs.length)(hf:∀i,g.base≤i→i<g.base+512→(i<g.pos j∨g.pos j+pu g.kind≤i)→bs'[i]? =bs[i]?):g.Ok bs'∧g.Clean bs':=by
 obtain⟨⟨u1,_⟩,_⟩:=ai g.kind h.kind;have hch:∀x,x<pp g.kind→x≠j→∀i,i<8→bs'[g.pos x+i]? =bs[g.pos x+i]? :=fun x hx hne i hi=>by
  have h1:=h.block hx;have h2:=Pg.apart (g:=g) hne;exact hf _ (by omega) (by omega) (by omega)
 refine⟨⟨h.kind,h.mod,by rw[hl];exact h.fit,nr (fun x hx i hi=>hch x (h.lr x hx) (fun e=>hh.2.1 (e▸hx)) i hi) h.r,nr (fun x hx i hi=>hch x (h.ld x hx) (fun e=>hh.2.2 (e▸hx)) i hi) h.d,h.nd,h.lt,h.fr⟩,fun i h1 h2 hne=> ?_⟩;by_cases e:i<g.pos j∨g.pos j+pu g.kind≤i
 ·rw[hf i h1 h2 e] at hne;exact hc i h1 h2 hne
 ·exact⟨j,hj,.inl ⟨hh,by omega,by omega⟩⟩
end
section
variable{C:Nat→Prop}{M:Ms}{H:Hp}{x:Hd}{j:Nat}{ds:List UInt8}
theorem qn(hc:x.kind≤23)(hs:x.slot<sn x.kind)(hj:j<(nuI x.kind).toNat){i:Nat}(hi:i<(ah x.kind).toNat):∃t:Nat,t<pn x.kind∧(adI x.kind x.slot j+i) / 512=lo x.kind x.slot+t:=by
 obtain⟨p1,p2,p3,p4,p5,_⟩:=aj hc;obtain⟨f1,f2,f3,f4,_⟩:=bf (c:=x.kind) (by omega) (by omega);have pt:PlT x.kind x.slot j:=⟨by omega,by rw[p5];omega,by omega,by omega⟩;have l:=pt.lies;have hsb:sbI x.kind=(pn x.kind:Int) * 512:=by unfold sbI;rw[p4]
 have had:adI x.kind x.slot j=lo x.kind x.slot * 512+j * ah x.kind:=by
  rw[qU hc];unfold adI;rw[hsb,show(x.slot:Int) * ((pn x.kind:Int) * 512)=((x.slot * pn x.kind:Nat):Int) * 512 by rw[Int.natCast_mul,Int.mul_assoc]];omega
 rw[had];rw[hsb] at l;generalize (j:Int) * ah x.kind=z at *;exact⟨((z+i) / 512).toNat,by omega,by omega⟩
theorem kJ(h:HpOk C M H)(ok:MsOk M)(hx:x∈H.L)(hj:j<(nuI x.kind).toNat):aT H.T M.bs.length (adI x.kind x.slot j) (ah x.kind).toNat:=by
 obtain⟨c1,c2⟩:=h.at_ x hx;obtain⟨p1,p2,p3,p4,p5,_⟩:=aj c1;obtain⟨f1,f2,f3,f4,_⟩:=bf (c:=x.kind) (by omega) (by omega);have pt:PlT x.kind x.slot j:=⟨by omega,by rw[p5];omega,by omega,by omega⟩;have hin:=pt.inside;refine sJ ⟨by omega,by omega,by omega,by omega⟩ fun i hi=> ?_
 obtain⟨t,ht,e⟩:=qn c1 c2 hj hi;have hv:=h.cov x hx t ht;refine⟨by rw[e];exact hv,?_⟩;unfold phys;rw[e];have hm:=h.tp.tb.aQ hv;have hk:=(h.tp.tk _ hm).2.1;have hl:=ok.len;simp only at hk;generalize tbF H.T (lo x.kind x.slot+t)=z at *;omega
theorem qD(h:HpOk C M H)(hx:x∈H.L)(h7:x.kind≤7)(hj:j<pp x.kind){i:Nat}(hi:i<pu x.kind):phys H.T (adI x.kind x.slot j+i)=((x.pg.pos j+i:Nat):Int):=by
 have hs:=h.sm x hx h7;obtain⟨q,e1,m1⟩:=hs.page h.tp.tb;obtain⟨c1,c2⟩:=h.at_ x hx;have p1:=((aj c1).2.2.2.2.2 h7).1;obtain⟨k1,k2,k3,k4,k5⟩:=ai x.kind h7;have hq:tbF H.T (lo x.kind x.slot)=(q:Int):=aO h.tp.tb m1;have hgp:x.pg.pos j=q * 512+j * pu x.kind:=by unfold Pg.pos;rw[e1,hs.kd]
 have had:adI x.kind x.slot j=lo x.kind x.slot * 512+((j * pu x.kind:Nat):Int):=by
  unfold lo adI;rw[k4,Int.natCast_mul];have:((x.kind:Int)+1) * 131072+(x.slot:Int) * sbI x.kind=(((x.kind:Int)+1) * 131072+(x.slot:Int) * sbI x.kind+0 * (pu x.kind:Int)) / 512 * 512:=by
   have hsb:sbI x.kind=512:=by unfold sbI;rw[(aj c1).2.2.2.1,p1];rfl
   rw[hsb];omega
  rw[←this]
 have hjl:j * pu x.kind+pu x.kind≤512:=by
  have h3:(j+1) * pu x.kind≤pp x.kind * pu x.kind:=Nat.mul_le_mul_right _ hj;rw[Nat.add_mul,Nat.one_mul,Nat.mul_comm (pp x.kind)] at h3;omega
 unfold phys;rw[had,hgp];generalize j * pu x.kind=z at *;have e5:(lo x.kind x.slot * 512+(z:Int)+i) / 512=lo x.kind x.slot:=by omega
 rw[e5,hq];omega
theorem HpOk.write(h:HpOk C M H)(ok:MsOk M)(hx:x∈H.L)(hj:j<(nuI x.kind).toNat)(hh:x.kind≤7→x.pg.Had j)(hd:ds.length=(ah x.kind).toNat){ss':List Sp}:eX C M H ⟨M.has,vwB H.T M.bs (adI x.kind x.slot j) ds,ss'⟩ H:=by
 have sn:=kJ h ok hx hj;obtain⟨c1,c2⟩:=h.at_ x hx;have hl:=sn.wlen h.tp.tb hd;have hfar:=fun q hq=>sn.far (ds:=ds) h.tp.tb hd q hq
 have hpage:∀i:Nat,i<(ah x.kind).toNat→∃t:Nat,t<pn x.kind∧phys H.T (adI x.kind x.slot j+i) / 512=tbF H.T (lo x.kind x.slot+t):=fun i hi=>by
  obtain⟨t,ht,e⟩:=qn c1 c2 hj hi;refine⟨t,ht,?_⟩;unfold phys;rw[e];generalize tbF H.T (lo x.kind x.slot+t)=z;omega
 generalize vwB H.T M.bs (adI x.kind x.slot j) ds=bs' at *;have hwin:∀q:Nat,(∀t:Nat,t<pn x.kind→(q:Int)≠tbF H.T (lo x.kind x.slot+t))→win bs' (q * 512)=win M.bs (q * 512):=fun q hq=>zP fun i hi=>hfar _ fun i' hi' e=>by
  obtain⟨t,ht,e2⟩:=hpage i' hi';exact hq t ht (by omega)
 have hmem:∀t:Nat,t<pn x.kind→(lo x.kind x.slot+t,tbF H.T (lo x.kind x.slot+t))∈H.T:=fun t ht=>h.tp.tb.aQ (h.cov x hx t ht)
 have hout:∀q:Nat,¬Pgs H.T q→win bs' (q * 512)=win M.bs (q * 512):=fun q hq=>hwin q fun t ht e=>hq ⟨_,by rw[e];exact hmem t ht⟩
 refine⟨⟨h.tp,h.nd,h.at_,h.dom,h.cov,fun y hy h7=> ?_,h.ln⟩,⟨by rw[←ok.len];exact hl,ok.cap,fun q hq hf=> ?_⟩,⟨rfl,hl,fun q hq q1 _=>⟨rfl,hout q q1⟩,fun q q1 q2=>(q2 q1).elim,fun q q1 q2=>(q2 q1).elim⟩,id⟩
 ·have hs:=h.sm y hy h7;obtain⟨q,e1,m1⟩:=hs.page h.tp.tb;by_cases e:y.kind=x.kind∧y.slot=x.slot
  ·obtain rfl:=cH h.nd hy hx e.1 e.2;have p1:=((aj c1).2.2.2.2.2 h7).1;obtain⟨k1,k2,k3,k4,k5⟩:=ai y.kind h7;have hnu:(nuI y.kind).toNat=pp y.kind:=by unfold nuI;rw[k5,if_neg (by omega)];simp
   have hun:(ah y.kind).toNat=pu y.kind:=rfl;have hq:tbF H.T (lo y.kind y.slot)=(q:Int):=aO h.tp.tb m1;have hkd:=hs.kd;have hgp:y.pg.pos j=q * 512+j * pu y.kind:=by unfold Pg.pos;rw[e1,hkd]
   have hph:∀i:Nat,i<pu y.kind→phys H.T (adI y.kind y.slot j+i)=((y.pg.pos j+i:Nat):Int):=fun i hi=>by
    have had:adI y.kind y.slot j=lo y.kind y.slot * 512+((j * pu y.kind:Nat):Int):=by
     unfold lo adI;rw[k4,Int.natCast_mul];have:((y.kind:Int)+1) * 131072+(y.slot:Int) * sbI y.kind=(((y.kind:Int)+1) * 131072+(y.slot:Int) * sbI y.kind+0 * (pu y.kind:Int)) / 512 * 512:=by
      have hsb:sbI y.kind=512:=by unfold sbI;rw[(aj c1).2.2.2.1,p1];rfl
      rw[hsb];omega
     rw[←this]
    have hjl:j * pu y.kind+pu y.kind≤512:=by
     have h3:(j+1) * pu y.kind≤pp y.kind * pu y.kind:=Nat.mul_le_mul_right _ (by rw[hnu] at hj;exact hj);rw[Nat.add_mul,Nat.one_mul,Nat.mul_comm (pp y.kind)] at h3;omega
    unfold phys;rw[had,hgp];generalize j * pu y.kind=z at *;have e5:(lo y.kind y.slot * 512+(z:Int)+i) / 512=lo y.kind y.slot:=by omega
    rw[e5,hq];omega
   have hw:=hs.ok.uC hs.cl (j:=j) (by rw[hkd,←hnu];exact hj) (hh h7) hl fun i i1 i2 i3=>hfar i fun i' hi' e5=>by
    rw[hph i' hi'] at e5;rw[hkd] at i3;rw[hun] at hi';omega
   exact⟨hw.1,hw.2,hs.kd,hs.at_⟩
  ·refine hs.ext hl ?_ rfl;rw[e1];refine hwin q fun t ht e5=>e ?_
   have e6:=aW h.tp.tb m1;rw[e5,aW h.tp.tb (hmem t ht)] at e6;obtain⟨b1,b2⟩:=h.at_ y hy;have p2:=(aj b1).1.1;have:=cE b1 b2 c1 c2 (i:=0) (i':=t) (by omega) ht (by rw[e6];simp);exact⟨this.1,this.2.1⟩
 ·show win bs' (q * 512)=nz 512
  rw[hout q (h.tp.free hf)];exact ok.cl q hq hf
end
end Go.Proofs.YtndhbnhobhkmaaaGreatDoor
