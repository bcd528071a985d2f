/-
  The laws' own 'call' and the handles; what is dead answers ErrBadHandle and does nothing.
  A handle of an object that was freed, or moved, or of a tenant that was dropped, is never good again: the walk of the law TenantGone.
  From the row's condition, what both tables (class.units, math/bits) read as when the call begins, to what the walks ask of them.
-/
import Derived.Test.YtndhbnhobhkmaaaGreatDoorTnGoneM
import Derived.Test.YtndhbnhobhkmaaaGreatDoorTnCallV
import Derived.Deep.DeepCutAuto
import Derived.Deep.CutBlock
import Derived.ProofKit
import Derived.OpenShut
import Derived.LaidMore
import Derived.Stop.Joined
import Derived.Lib.LaidTab
set_option maxRecDepth 20000
set_option maxHeartbeats 4000000
namespace Go.Proofs.YtndhbnhobhkmaaaGreatDoor
open Go.RowKit
open An
theorem bQ:U64 0:=by unfold U64;omega
section
variable{W w:World}{x:Tp}{S:TnS}{ts:List (World→(Nat→Prop)→Prop)}{b:Nat}{hh k n:Int}
def GoneR(x:Tp)(S:TnS)(b:Nat)(kd hh:Int)(x':Tp)(S':TnS)(E hd _av _nn:Int)(_d:ByteArray)(_cg:Int):Prop:=TnOk x' S' (b+1536)∧x'.T=x.T∧U64 hd∧Ka.Gn S.c S'.c kd hh E hd
theorem vb(g:aa W w (tnl x S ts))(gr:G17 W)(h:TnOk x S b)(hb:b≤700000)(h0:U64 hh){o:O18}(hR:mQ W o)(hlW:o.W.length≤100000)(h8:o.kd≠8):Calls Tryz.prog 14 #[.pointer (some ⟨x.T,0,none⟩),.agg o.cs,.int .u64 hh] w (aK W ts (GoneR x S b o.kd hh)):=by
 have ok:=xi g 1 rfl;have hu:∀n,U64 (mlH x.k S n):=fun n=>by
  unfold mlH;split
  ·exact BG ..
  ·exact bQ
 refine yd g hR hlW (fun e w ts g=> ?_) (fun e w ts g=> ?_) (fun e w ts g=> ?_) (fun e w ts g=> ?_) (fun e w ts g=> ?_) (fun e w ts g=> ?_) (fun e w ts g=> ?_) (fun e=>(h8 e).elim) (fun e w ad' cap' ts g=> ?_) (fun e w ts g=> ?_) (fun e w ts g=> ?_)
 ·exact(lu g gr h hR.n).mono fun e' w' ⟨he,g'⟩=>⟨x,_,_,_,_,_,_,_,⟨(h.mall (by omega) _).less (by omega),rfl,hu _,uH h ok (by omega) (by omega) (by omega)⟩,he,g'⟩
 ·refine(ng g gr h (by omega) hR.n hR.m).mono fun e' w' ⟨S',E,hd,ad,hw,hk,u,he,g'⟩=>⟨x,S',E,hd,_,_,_,_,⟨hk.less (by omega),rfl,u,?_⟩,he,g'⟩
  rcases hw with⟨_,rfl,rfl,rfl⟩|⟨_,rfl,rfl,rfl⟩
  ·exact .same _ (by omega) (by omega) (by omega)
  ·exact uH h ok (by omega) (by omega) (by omega)
 ·exact(sv g gr h (by omega) h0).mono fun e' w' ⟨S',E,hw,hk,he,g'⟩=>⟨x,S',E,_,_,_,_,_,⟨hk.less (by omega),rfl,bQ,by rw[e];exact BJ ok hw⟩,he,g'⟩
 ·exact(lq g gr h hb h0 hR.n).mono fun e' w' ⟨S',E,hd,ad,hw,hk,u,he,g'⟩=>⟨x,S',E,hd,_,_,_,_,⟨hk.less (by omega),rfl,u,by rw[e];exact gn_re ok hw⟩,he,g'⟩
 ·exact(su g h h0).mono fun e' w' ⟨⟨_,he⟩,g'⟩=>⟨x,S,_,_,_,_,_,_,⟨h.less (by omega),rfl,bQ,.same _ (by omega) (by omega) (by omega)⟩,he,g'⟩
 ·obtain⟨av,er,hre,hz⟩:=oT (W:=W) h h0 (r:=1) (by omega) hR.n o.m;by_cases he:er=0
  ·subst he;obtain⟨c,s,j,f,y,hd,ea,ef,k1,k2,k3,k4,k5⟩:=hz rfl;refine(lJ g h.hc hre k5 hR.m (by omega)).mono fun e' w' ⟨he,g'⟩=>⟨x,{ S with M:=⟨S.M.has,S.M.bs,vrT S.H.T S.M.bs.length S.M.ss av o.m⟩ },_,_,_,_,_,_,⟨?_,rfl,bQ,.same _ (by omega) (by omega) (by omega)⟩,he,g'⟩
   have hl:=(mz h.hc.ok.tp.tb S.M.bs.length S.M.ss av (n:=o.m) (by omega)).1;have hss:=h.ss;exact h.mem (h.hc.notes (by omega)) (by show(vrT S.H.T S.M.bs.length S.M.ss av o.m).length≤_;omega) rfl
  ·exact(lK g hre he).mono fun e' w' ⟨he,g'⟩=>⟨x,S,_,_,_,_,_,_,⟨h.less (by omega),rfl,bQ,.same _ (by omega) (by omega) (by omega)⟩,he,g'⟩
 ·obtain⟨av,er,hre,hz⟩:=oT (W:=W) h h0 (r:=2) (by omega) hR.n o.d.size;by_cases he:er=0
  ·subst he;obtain⟨c,s,j,f,y,hd,ea,ef,k1,k2,k3,k4,k5⟩:=hz rfl;have hdl:o.d.data.toList.length=o.d.size:=by rw[Array.length_toList];rfl
   refine(je g h.hc hre k5 (by omega)).mono fun e' w' ⟨he,g'⟩=>⟨x,{ S with M:=⟨S.M.has,vwB S.H.T S.M.bs av o.d.data.toList,vwT S.H.T S.M.bs.length S.M.ss av o.d.size⟩ },_,_,_,_,_,_,⟨?_,rfl,bQ,.same _ (by omega) (by omega) (by omega)⟩,he,g'⟩
   have hl:=(mz h.hc.ok.tp.tb S.M.bs.length S.M.ss av (n:=o.d.size) (by omega)).2;have hss:=h.ss;have hw:=h.hc.wrote hd (f:=f) (ds:=o.d.data.toList) (by omega) (ss':=vwT S.H.T S.M.bs.length S.M.ss av o.d.size) (by omega);rw[←ea] at hw;exact h.mem hw (by show(vwT S.H.T S.M.bs.length S.M.ss av o.d.size).length≤_;omega) rfl
  ·exact(jf g hre he).mono fun e' w' ⟨he,g'⟩=>⟨x,S,_,_,_,_,_,_,⟨h.less (by omega),rfl,bQ,.same _ (by omega) (by omega) (by omega)⟩,he,g'⟩
 ·refine(nf g gr h (by omega) hlW o.n).mono fun e' w' ⟨x',S',E,hw,a1,a2,he,g'⟩=>⟨x',S',E,⟨a1.less (by omega),a2,bQ,?_⟩,he,g'⟩
  have ec:S'.c=S.c:=by rcases hw with⟨_,_,rfl,_⟩|⟨_,_,_,rfl,_⟩|⟨_,_,_,rfl,_⟩<;>rfl
  rw[ec];exact .same _ (by omega) (by omega) (by omega)
 ·refine(sw g gr h (by omega)).mono fun e' w' ⟨x',S',⟨hw,_⟩,a1,a2,he,g'⟩=>⟨x',S',⟨a1.less (by omega),a2,bQ,?_⟩,he,g'⟩
  rw[e,hw];exact BK h
 ·exact(lN g gr o.n o.m).mono fun e' w' ⟨he,g'⟩=>⟨x,S,_,⟨h.less (by omega),rfl,bQ,.same _ (e 3 (by omega) (by omega)) (e 4 (by omega) (by omega)) (e 10 (by omega) (by omega))⟩,he,g'⟩
theorem uT(g:aa W w (tnl x S ts))(h0:U64 k)(hl:Ka.look S.c k=none):Calls Tryz.prog 17 #[.pointer (some ⟨x.T,0,none⟩),.int .u64 k,.int .i64 0,.int .i64 0] w fun e w'=>e=.returned (ans 5 0 0 0 ⟨#[]⟩ S.s.cb)∧aa W w' (tnl x S ts):=
 lK g (fun w ts g=>by
  have h:=ft g h0.1 h0.2 (r:=1) (by omega) 0 0 (by rw[Ka.cD hl];decide);rw[Ka.cD hl] at h;exact h) (by decide)
theorem rl(g:aa W w (tnl x S ts))(h0:U64 k)(hl:Ka.look S.c k=none)(d:ByteArray):Calls Tryz.prog 19 #[.pointer (some ⟨x.T,0,none⟩),.int .u64 k,.int .i64 0,.string d] w fun e w'=>e=.returned (ans 5 0 0 0 ⟨#[]⟩ S.s.cb)∧aa W w' (tnl x S ts):=
 jf g (fun w ts g=>by
  have h:=ft g h0.1 h0.2 (r:=2) (by omega) 0 d.size (by rw[Ka.cD hl];decide);rw[Ka.cD hl] at h;exact h) (by decide)
theorem uU(g:aa W w (tnl x S ts))(h0:U64 k)(hl:Ka.look S.c k=none):Calls Tryz.prog 20 #[.pointer (some ⟨x.T,0,none⟩),.int .u64 k] w fun e w'=>e=.returned (ans 5 0 0 0 ⟨#[]⟩ S.s.cb)∧aa W w' (tnl x S ts):=by
 have h:=lM g h0.1 h0.2 (by rw[Ka.cD hl];decide);rw[Ka.cD hl] at h;exact h
theorem mI(g:aa W w (tnl x S ts))(h0:U64 k)(hl:Ka.look S.c k=none)(n:Int):Calls Tryz.prog 21 #[.pointer (some ⟨x.T,0,none⟩),.int .u64 k,.int .i64 n] w fun e w'=>e=.returned (ans 5 0 0 0 ⟨#[]⟩ S.s.cb)∧aa W w' (tnl x S ts):=by
 have h:=fK (n:=n) g h0.1 h0.2 (by rw[Ka.cD hl];decide);rw[Ka.cD hl] at h;exact h
theorem oh(g:aa W w (tnl x S ts))(h0:U64 k)(hl:Ka.look S.c k=none):Calls Tryz.prog 13 #[.pointer (some ⟨x.T,0,none⟩),.int .u64 k] w fun e w'=>e=.returned (ans 5 0 0 0 ⟨#[]⟩ S.s.cb)∧aa W w' (tnl x S ts):=by
 have h:=ig g h0.1 h0.2 (by rw[Ka.cD hl];decide);rw[Ka.cD hl] at h;exact h
theorem kF(g:aa W w (tnl x S ts))(h0:U64 k)(hl:Ka.look S.c k=none)(gr:G17 W)(r:Int):Calls Tryz.prog 22 #[.pointer (some ⟨x.T,0,none⟩),.int .u64 k,.int .i64 r] w fun e w'=>e=.returned (ans 5 0 0 0 ⟨#[]⟩ S.s.cb)∧aa W w' (tnl x S ts):=by
 have h:=qL g gr h0.1 h0.2 r;obtain⟨e1,e2,e3⟩:=Ka.Ao (r:=r) hl;rw[e1,e2,e3] at h;exact h
end
section
variable{W w:World}{x:Tp}{S:TnS}{ts:List (World→(Nat→Prop)→Prop)}
theorem sg(g:aa W w (tnl x S ts)):aa W w (tnl x S (Ru W.heap.size (.slice none 0 0) []::ts)):=aa.rot [Hs x.a x.m x.h x.t x.k S.M S.H,Kc x.c S.c,Qq x.q S.s,Ot x.B S.f S.n,Blk x.T (tob x)] ts (g.more (Z:=fun _=>False) (Ru.good ..) (Ru.empty _ _) (Fr.refl _ _) fun _ e=>e.elim)
theorem vP(g:aa W w (tnl x S ts)):aa W (w.alloc (.map #[] 0)) (tnl x S (Dd.Md w.heap.size 0 []::ts)):=aa.rot [Hs x.a x.m x.h x.t x.k S.M S.H,Kc x.c S.c,Qq x.q S.s,Ot x.B S.f S.n,Blk x.T (tob x)] ts (Dd.mdNew g)
end
theorem rk(cg:Int)(w:World):(Instr.field 43 (ans 5 0 0 0 ⟨#[]⟩ cg) 0).run Tryz.prog w=.ok (.int .i64 5) w:=by kernel_rfl
theorem uF{w:World}(gr:G17 w){P K q id se:Int}{ad0:Option Addr}{cap0:Nat}{W0:List Int}(hc:CfgT w ⟨P,K,q,id,se,ad0,cap0,W0⟩){ad:Option Addr}{cap:Nat}{l:List O18}(ho:OpsT w ad l)(hl:l.length≤maxLen)(n:Int):Calls Tryz.prog 5 #[.agg #[.int .i64 P,.int .i64 K,.int .i64 q,.int .i64 id,.int .i64 se,.slice ad0 W0.length cap0],.slice ad l.length cap,.int .i64 n] w fun e w'=>e=.returned (.bool true)∧Nw w w':=by
 have HA:Hid (∀w1 ts,aa w w1 ts→Calls Tryz.prog 8 #[] w1 fun e w'=>e=.returned (.bool true)∧aa w w' ts):=fun w1 ts h=>(vo (Nw.start w1) (gr.fr h.nw.fr)).mono fun e w' ⟨he,f⟩=>⟨he,h.kept f.fr⟩
 have G0:Hid (aa w (w.alloc (.cells #[.int .i64 P,.int .i64 K,.int .i64 q,.int .i64 id,.int .i64 1,.slice ad0 W0.length cap0] 26)) [Blk w.heap.size (.cells #[.int .i64 P,.int .i64 K,.int .i64 q,.int .i64 id,.int .i64 1,.slice ad0 W0.length cap0] 26 (0,0))]):=(aa.start (Nw.start w)).blk (.cells #[.int .i64 P,.int .i64 K,.int .i64 q,.int .i64 id,.int .i64 1,.slice ad0 W0.length cap0] 26);have hc1:CfgT w ⟨P,K,q,id,1,ad0,cap0,W0⟩:=⟨hc.p,hc.k,hc.q,hc.id,by show I64 1;decide,hc.W,hc.lW⟩;have HM:Hid (∀w1 ts,aa w w1 ts→Calls Tryz.prog 7 #[.agg #[.int .i64 P,.int .i64 K,.int .i64 q,.int .i64 id,.int .i64 1,.slice ad0 W0.length cap0]] w1 fun e w'=>ox w ts ⟨P,K,q,id,1,ad0,cap0,W0⟩ e w'):=fun w1 ts h=>wV h gr hc1
 have HLO:Hid (∀w1 ts,aa w w1 ts→Calls Tryz.prog 9 #[.agg #[.int .i64 P,.int .i64 K,.int .i64 q,.int .i64 id,.int .i64 1,.slice ad0 W0.length cap0],.slice ad l.length cap] w1 fun e w'=>LongR ⟨P,K,q,id,1,ad0,cap0,W0⟩ l e∧aa w w' ts):=fun w1 ts h=>(wX (ho.fr h.nw.fr) (hc1.fr h.nw.fr) hl).mono fun e w' ⟨he,f⟩=>⟨he,h.kept f⟩
 have GR:=hid gr;have HO:=hid ho;have hlW:W0.length≤17592186044416:=hc.lW;have hid1:I64 id:=hc.id;clear hc gr hc1 ho;have hmm:= @run_makeMap Tryz.prog;go_enter Tryz.func5,Tryz.ntmps5;go_wp2_with fail;refine(HM.out _ _ G0.out).mono ?_;rintro e w1 (⟨v1,v2,v3,E,hE,rfl,g1⟩|⟨nP,kk,x,a,m,adx,B,ob,cf,eP,eK,ek,eid,epk,hfit,hi,rfl,g1⟩)
 ·have G1:=hid g1;clear g1 G0 HM;go_wp2_with fail;refine(HA.out _ _ G1.out).mono ?_;rintro e w2 ⟨rfl,g2⟩;have G2:=hid g2;clear g2 G1;go_wp2_with fail;refine(HA.out _ _ G2.out).mono ?_;rintro e w3 ⟨rfl,g3⟩;have G3:=hid g3;clear g3 G2 HA;go_wp2;go_ret;exact⟨by simp,G3.out.nw⟩
 ·have G1:=hid g1;simp only at eP eK eid epk hfit hi;subst eP eK;clear g1 G0 HM;go_wp2_with fail;refine(HA.out _ _ G1.out).mono ?_;rintro e w2 ⟨rfl,g2⟩;have G2:=hid g2;have c0:w2.cell? ⟨w.heap.size,0,none⟩=some (.int .i64 (nP:Int)):=ae (g2.cells 7 rfl) 0 rfl;have c1:w2.cell? ⟨w.heap.size,1,none⟩=some (.int .i64 (kk:Int)):=ae (g2.cells 7 rfl) 1 rfl;have c2:w2.cell? ⟨w.heap.size,2,none⟩=some (.int .i64 q):=ae (g2.cells 7 rfl) 2 rfl;have c3:w2.cell? ⟨w.heap.size,3,none⟩=some (.int .i64 id):=ae (g2.cells 7 rfl) 3 rfl;have c4:w2.cell? ⟨w.heap.size,4,none⟩=some (.int .i64 1):=ae (g2.cells 7 rfl) 4 rfl;have c5:w2.cell? ⟨w.heap.size,5,none⟩=some (.slice ad0 W0.length cap0):=ae (g2.cells 7 rfl) 5 rfl;clear g2 G1;have HL2:=hid (HLO.out _ _ G2.out);clear HLO;generalize hnW:W0.length=nW at HL2 c5;generalize hnl:l.length=nl at *;go_wp2_with fail;refine HL2.out.mono ?_;rintro e w3 ⟨⟨lb,rfl,hsh⟩,g3⟩;have G3:=hid g3;clear g3 G2 HL2 c0 c1 c2 c3 c4 c5;cases lb with
  |true=>
   clear hsh;go_wp2_with fail;refine(HA.out _ _ G3.out).mono ?_;rintro e w4 ⟨rfl,g4⟩;have G4:=hid g4;clear g4 G3 HA;go_wp2;go_ret;exact⟨by simp,G4.out.nw⟩
  |false=>
   have HS:=hid (hsh rfl);have hT:TnOk x (newT (mN nP) W0 id 1 q) 0:=by
    refine tn_new (by rw[ek];exact cf) hlW (by have h5:=hfit;exact h5) (by rw[eid];exact hi.1) eid (by have h5:=HS.out.P;simp only at h5;omega)
   have g4:=vP (sg G3.out);have HSO:Hid (∀i (hi:i<l.length),l[i].W.length≤100000):=fun i hi=>by have:=(HS.out.ops i hi).1;omega
   have hl150:l.length≤150:=HS.out.len;generalize hts:(Lv adx W0::Blk B ob::_)=ts at g4;have G4:=hid g4;have HT:=hid hT;clear hsh HA g4 G3 hts hT HS eid epk hfit hi cf ek hlW hid1;go_wp2;generalize w3.heap.size=Bd at *;generalize w3.alloc (.map #[] 0)=w4 at *;go_loopw [11,44] (fun y iv wr=>∃(i m:Nat) (x':Tp) (S':TnS) (gl dl:List Int),i≤l.length∧iv=.int .i64 i∧gl.length≤i∧m≤200 * i∧x'.T=x.T∧Hid (Wd gl∧Wd dl∧TnOk x' S' (1536 * i)∧Ka.Iv18 S'.c gl dl)∧Hid (aa w wr (tnl x' S' (Dd.Md Bd m dl::Ru w.heap.size y gl::ts)))) (fun _ iv _=>l.length - (intOf iv).toNat)
   case atStart=>exact⟨0,0,x,_,[],[],by omega,rfl,by simp,by omega,rfl,⟨fun _ h=>(by cases h),fun _ h=>(by cases h),HT.out,.start _⟩,G4⟩
   case round=>
    obtain⟨i,m,x',S',gl,dl,hi,rfl,hgl,hm,hxT,HI,HG⟩:=hrel;clear HT G4 hmm;by_cases hlt:i<l.length
    ·have hR:mQ w l[i]:=by
      obtain⟨_,_,_,_,_,_,_,_,_,_,_,h⟩:=HO.out i hlt;exact h
     obtain⟨bb,off,rfl,hbb,hc1,hc2,hc3,hc4,hc5,hc6,hc7,_⟩:=HO.out.fr HG.out.nw.fr i hlt;have hoW:=HSO.out i hlt;generalize l[i]=o at hc1 hc2 hc3 hc4 hc5 hc6 hc7 hR hoW;obtain⟨kd,on,mm,pk,tu,ds,oad,ocap,oW⟩:=o;simp only at hc1 hc2 hc3 hc4 hc5 hc6 hc7 hoW;by_cases h8:kd=8
     ·subst h8;have HG2:=hid (HG.out.kept ((Fr.refl _ _).alloc (.cells #[.int .i64 8,.int .i64 on,.int .i64 mm,.int .i64 pk,.int .u64 tu,.string ds,.slice oad oW.length ocap] 39)));clear HO HSO hR hoW HG;go_wp2;go_roundw
      case rel=>exact⟨i+1,m,x',S',gl,dl,by omega,by go_num,by omega,by omega,hxT,⟨HI.out.1,HI.out.2.1,HI.out.2.2.1.less (by omega),HI.out.2.2.2⟩,HG2.out⟩
      case measure=>simp only[intOf];omega
     ·have htu:U64 tu:=hR.tu;have h8':(kd==8)=false:=by simp[h8]
      have h8'':decide (kd=8)=false:=by simp[h8]
      have HOF:Hid (∀w1 S1 x1 ts1 y,aa w w1 (tnl x1 S1 (Blk wr.heap.size (.cells #[.int .i64 kd,.int .i64 on,.int .i64 mm,.int .i64 pk,.int .u64 tu,.string ds,.slice oad oW.length ocap] 39)::Dd.Md Bd m dl::Ru w.heap.size y gl::ts1))→Calls Tryz.prog 10 #[y,.agg #[.int .i64 kd,.int .i64 on,.int .i64 mm,.int .i64 pk,.int .u64 tu,.string ds,.slice oad oW.length ocap]] w1 fun e w'=>(∃hh,U64 hh∧e=.returned (.int .u64 hh))∧aa w w' (tnl x1 S1 (Blk wr.heap.size (.cells #[.int .i64 kd,.int .i64 on,.int .i64 mm,.int .i64 pk,.int .u64 tu,.string ds,.slice oad oW.length ocap] 39)::Dd.Md Bd m dl::Ru w.heap.size y gl::ts1))):=fun w1 S1 x1 ts1 y g=>(wI (o:=⟨kd,on,mm,pk,tu,ds,oad,ocap,oW⟩) (g.sW 7 rfl).1 HI.out.1 (by omega) htu).mono fun e w' ⟨he,f⟩=>⟨he,g.kept f⟩
      have HCA:Hid (∀w1 ts hh,U64 hh→aa w w1 (tnl x' S' ts)→Calls Tryz.prog 14 #[.pointer (some ⟨x'.T,0,none⟩),.agg #[.int .i64 kd,.int .i64 on,.int .i64 mm,.int .i64 pk,.int .u64 tu,.string ds,.slice oad oW.length ocap],.int .u64 hh] w1 (aK w ts (GoneR x' S' (1536 * i) kd hh))):=fun w1 ts hh h0 g=>vb (o:=⟨kd,on,mm,pk,tu,ds,oad,ocap,oW⟩) g GR.out HI.out.2.2.1 (by omega) h0 hR hoW h8
      have OK1:Hid S'.c.Ok:=xi HG.out 1 rfl;have HG2:=hid (bL HG.out (.cells #[.int .i64 kd,.int .i64 on,.int .i64 mm,.int .i64 pk,.int .u64 tu,.string ds,.slice oad oW.length ocap] 39));have HB7:Hid (∀w1 x1 S1 ts,aa w w1 (tnl x1 S1 (Blk wr.heap.size (.cells #[.int .i64 kd,.int .i64 on,.int .i64 mm,.int .i64 pk,.int .u64 tu,.string ds,.slice oad oW.length ocap] 39)::ts))→w1.cell? ⟨wr.heap.size,0,none⟩=some (.int .i64 kd)∧w1.cell? ⟨wr.heap.size,1,none⟩=some (.int .i64 on)∧w1.cell? ⟨wr.heap.size,2,none⟩=some (.int .i64 mm)∧w1.cell? ⟨wr.heap.size,3,none⟩=some (.int .i64 pk)∧w1.cell? ⟨wr.heap.size,4,none⟩=some (.int .u64 tu)∧w1.cell? ⟨wr.heap.size,5,none⟩=some (.string ds)∧w1.cell? ⟨wr.heap.size,6,none⟩=some (.slice oad oW.length ocap)):=fun w1 x1 S1 ts g=>⟨ae (g.cells 5 rfl) 0 rfl,ae (g.cells 5 rfl) 1 rfl,ae (g.cells 5 rfl) 2 rfl,ae (g.cells 5 rfl) 3 rfl,ae (g.cells 5 rfl) 4 rfl,ae (g.cells 5 rfl) 5 rfl,ae (g.cells 5 rfl) 6 rfl⟩
      obtain⟨k0,k1,k2,k3,k4,k5,k6⟩:=HB7.out _ _ _ _ HG2.out;have HXT:=hid hxT;rw[hxT] at HCA;clear HO HSO hR hoW htu hxT HG;go_wp2_with fail;generalize wr.alloc (.cells #[.int .i64 kd,.int .i64 on,.int .i64 mm,.int .i64 pk,.int .u64 tu,.string ds,.slice oad oW.length ocap] 39)=w4 at *;refine(HOF.out _ _ _ _ _ HG2.out).mono ?_;rintro e w5 ⟨⟨hh,hhu,rfl⟩,g5⟩;have G5:=hid g5;clear k0 k1 k2 k3 k4 k5 k6 g5 HG2 HOF;obtain⟨k0,k1,k2,k3,k4,k5,k6⟩:=HB7.out _ _ _ _ G5.out;go_wp2_with fail;refine(HCA.out _ _ _ hhu G5.out).mono ?_;rintro e w7 ⟨x2,S2,E,hd,av,nn,dd,cg,⟨b1,b2,b3,b4⟩,rfl,g7⟩;have OK2:Hid S2.c.Ok:=xi g7 1 rfl;have B7:=hid (bL g7 (.cells #[.int .i64 E,.int .u64 hd,.int .i64 av,.int .i64 nn,.string dd,.int .i64 cg] 43));clear G5 g7 HCA k0 k1 k2 k3 k4 k5 k6 HB7;have HK:=hid (And.intro b1 (And.intro (b2.trans HXT.out) (And.intro b3 b4)));have HC4:Hid (∀w1 m dl y gl,aa w w1 (tnl x2 S2 (Blk w7.heap.size (.cells #[.int .i64 E,.int .u64 hd,.int .i64 av,.int .i64 nn,.string dd,.int .i64 cg] 43)::Blk wr.heap.size (.cells #[.int .i64 kd,.int .i64 on,.int .i64 mm,.int .i64 pk,.int .u64 tu,.string ds,.slice oad oW.length ocap] 39)::Dd.Md Bd m dl::Ru w.heap.size y gl::ts))→(w1.cell? ⟨w7.heap.size,0,none⟩=some (.int .i64 E)∧w1.cell? ⟨w7.heap.size,1,none⟩=some (.int .u64 hd)∧w1.cell? ⟨wr.heap.size,0,none⟩=some (.int .i64 kd))):=fun w1 m dl y gl g=>⟨ae (g.cells 5 rfl) 0 rfl,ae (g.cells 5 rfl) 1 rfl,ae (g.cells 6 rfl) 0 rfl⟩
      clear b1 b2 b3 b4 HXT;go_upto_region 13 with fail;generalize w7.alloc (.cells #[.int .i64 E,.int .u64 hd,.int .i64 av,.int .i64 nn,.string dd,.int .i64 cg] 43)=w8 at *;generalize (Obj.cells #[.int .i64 E,.int .u64 hd,.int .i64 av,.int .i64 nn,.string dd,.int .i64 cg] 43)=oA at *;generalize (Obj.cells #[.int .i64 kd,.int .i64 on,.int .i64 mm,.int .i64 pk,.int .u64 tu,.string ds,.slice oad oW.length ocap] 39)=oO at *;generalize w7.heap.size=Ba at *;generalize wr.heap.size=Bo at *;go_cut [76] (fun bv wx=>∃b:Bool,bv=.bool b∧Hid (b=true→(kd=3∨kd=4∧hd≠hh)∧E=0)∧Hid (aa w wx (tnl x2 S2 (Blk Ba (oA)::Blk Bo (oO)::Dd.Md Bd m dl::Ru w.heap.size u11 gl::ts))))
      case first=>
       obtain⟨p0,p1,p2⟩:=HC4.out _ _ _ _ _ B7.out;have hcase:E≠0∨(E=0∧kd=3)∨(E=0∧kd=4∧hd≠hh)∨(E=0∧kd=4∧hd=hh)∨(E=0∧kd≠3∧kd≠4):=by omega
       rcases hcase with e1|⟨e1,e2⟩|⟨e1,e2,e3⟩|⟨e1,e2,e3⟩|⟨e1,e2,e3⟩
       ·have x1:(E==0)=false:=by simp[e1]
        have x2:decide (E=0)=false:=by simp[e1]
        clear e1;go_wp2_with fail;go_meet;exact⟨false,rfl,fun e=>(by cases e),B7⟩
       ·subst e1 e2;go_wp2_with fail;go_meet;exact⟨true,rfl,fun _=>(by simp),B7⟩
       ·subst e1 e2;have x1:(hd !=hh)=true:=by simp[e3]
        have x2:(hd==hh)=false:=by simp[e3]
        have x3:decide (hd=hh)=false:=by simp[e3]
        have E3:=hid e3;clear e3;go_wp2_with fail;go_meet;exact⟨true,rfl,fun _=>(by have:=E3.out;simp[this]),B7⟩
       ·subst e1 e2 e3;go_wp2_with fail;go_meet;exact⟨false,rfl,fun e=>(by cases e),B7⟩
       ·subst e1;have x1:(kd==3)=false:=by simp[e2]
        have x2:decide (kd=3)=false:=by simp[e2]
        have x3:(kd==4)=false:=by simp[e3]
        have x4:decide (kd=4)=false:=by simp[e3]
        clear e2 e3;go_wp2_with fail;go_meet;exact⟨false,rfl,fun e=>(by cases e),B7⟩
      case rest=>
      clear B7;obtain⟨b,rfl,HR,G9⟩:=hcut;go_upto_if 76 with fail;go_cut [] (fun wx=>∃(m1:Nat) (d1:List Int),m1≤m+1∧Hid (Wd d1∧∀k∈d1,k∈dl∨(k=hh∧(kd=3∨kd=4∧hd≠hh)∧E=0))∧Hid (aa w wx (tnl x2 S2 (Blk Ba (oA)::Blk Bo (oO)::Dd.Md Bd m1 d1::Ru w.heap.size u11 gl::ts))))
      case first=>
       cases b with
       |false=>
        have HW:Hid (Wd dl∧∀k∈dl,k∈dl∨(k=hh∧(kd=3∨kd=4∧hd≠hh)∧E=0)):=⟨HI.out.2.1,fun k hk=>.inl hk⟩;go_wp2_with fail;go_meet;exact⟨m,dl,by omega,HW,G9⟩
       |true=>
        obtain⟨w10,hst,g10⟩:=Dd.tK G9.out 7 rfl (by unfold maxLen;omega) hhu;have G10:Hid (aa w w10 (tnl x2 S2 (Blk Ba (oA)::Blk Bo (oO)::Dd.Md Bd (m+1) (hh::dl)::Ru w.heap.size u11 gl::ts))):=g10;have HW:Hid (Wd (hh::dl)∧∀k∈hh::dl,k∈dl∨(k=hh∧(kd=3∨kd=4∧hd≠hh)∧E=0)):=⟨fun k hk=>by
         rcases List.mem_cons.1 hk with rfl|e
         ·exact hhu
         ·exact HI.out.2.1 k e,fun k hk=>by
         rcases List.mem_cons.1 hk with rfl|e
         ·exact .inr ⟨rfl,HR.out rfl⟩
         ·exact .inl e⟩
        clear g10 G9 HR;go_wp2_with fail;go_meet;exact⟨m+1,hh::dl,by omega,HW,G10⟩
      case rest=>
      clear G9 HR;obtain⟨m1,d1,hm1,HW1,G10⟩:=hcut;obtain⟨q0,q1,q2⟩:=HC4.out _ _ _ _ _ G10.out;go_upto_if 81 with fail;clear q0 q1 q2;go_cut [] (fun wx=>∃(m2:Nat) (d2:List Int),m2≤m1+gl.length∧Hid (Wd d2∧∀k∈d2,k∈d1∨(k∈gl∧kd=10))∧Hid (aa w wx (tnl x2 S2 (Blk Ba (oA)::Blk Bo (oO)::Dd.Md Bd m2 d2::Ru w.heap.size u11 gl::ts))))
      case first=>
       by_cases h10:kd=10
       ·have x1:(kd==10)=true:=by simp[h10]
        have HE10:=hid h10;obtain⟨gad,gcap,hu,-⟩:=nm (G10.out.sW 8 rfl).1;subst hu;have HGC:Hid (∀w1 m d,aa w w1 (tnl x2 S2 (Blk Ba (oA)::Blk Bo (oO)::Dd.Md Bd m d::Ru w.heap.size (.slice gad gl.length gcap) gl::ts))→∀z,z<gl.length→∃g kz,gad=some ⟨g,0,none⟩∧w1.cell? ⟨g,z,none⟩=some (.int .u64 kz)∧kz∈gl∧U64 kz):=fun w1 m d g z hz=>by
         obtain⟨ad',cap',e,h⟩:=nm (g.sW 8 rfl).1;cases e;obtain⟨g9,h1,h2⟩:=h z hz;exact⟨g9,_,h1,h2,List.getElem_mem hz,HI.out.1 _ (List.getElem_mem hz)⟩
        have HGL:Hid (gl.length≤150):=by show gl.length≤150;omega
        clear h10;generalize hgn:gl.length=gn at *;go_wp2;go_loopw [84] (fun iv wx=>∃(z m3:Nat) (d3:List Int),z≤gn∧iv=.int .i64 z∧m3≤m1+z∧Hid (Wd d3∧∀k∈d3,k∈d1∨(k∈gl∧kd=10))∧Hid (aa w wx (tnl x2 S2 (Blk Ba (oA)::Blk Bo (oO)::Dd.Md Bd m3 d3::Ru w.heap.size (.slice gad gn gcap) gl::ts)))) (fun iv _=>gn - (intOf iv).toNat)
        case atStart=>exact⟨0,m1,d1,by omega,rfl,by omega,⟨HW1.out.1,fun k hk=>.inl hk⟩,G10⟩
        case round=>
         obtain⟨z,m3,d3,hz,rfl,hm3,HD3,T3⟩:=hrel;clear G10;by_cases hlt2:z<gn
         ·obtain⟨g9,kz,hg9,hc9,hm9,hu9⟩:=HGC.out _ _ _ T3.out z hlt2;subst hg9;obtain⟨w10,hst,g10⟩:=Dd.tK T3.out 7 rfl (by unfold maxLen;omega) hu9;have G13:=hid g10;have HD4:Hid (Wd (kz::d3)∧∀k∈kz::d3,k∈d1∨(k∈gl∧kd=10)):=⟨fun k hk=>by
           rcases List.mem_cons.1 hk with rfl|e
           ·exact hu9
           ·exact HD3.out.1 k e,fun k hk=>by
           rcases List.mem_cons.1 hk with rfl|e
           ·exact .inr ⟨hm9,HE10.out⟩
           ·exact HD3.out.2 k e⟩
          clear g10 hm9 hu9 HGC T3;go_wp2;go_roundw
          case rel=>exact⟨z+1,m3+1,kz::d3,by omega,by go_num,by omega,HD4,G13⟩
          case measure=>simp only[intOf];omega
         ·have x4:decide ((z:Int)<(gn:Int))=false:=by simp;omega
          clear HGC;go_wp2_with fail;go_meet;exact⟨m3,d3,by omega,HD3,T3⟩
       ·have x1:(kd==10)=false:=by simp[h10]
        have x2:decide (kd=10)=false:=by simp[h10]
        have HW:Hid (Wd d1∧∀k∈d1,k∈d1∨(k∈gl∧kd=10)):=⟨HW1.out.1,fun k hk=>.inl hk⟩;clear h10;go_wp2_with fail;go_meet;exact⟨m1,d1,by omega,HW,G10⟩
      case rest=>
      clear G10;obtain⟨m2,d2,hm2,HW2,G11⟩:=hcut;have HIV:Hid (Wd d2∧Ka.Iv18 S2.c gl d2∧(hd≠0→hd∉d2)):=by
       obtain⟨v1,v2⟩:=HI.out.2.2.2.step (dl':=d2) HK.out.2.2.2 OK1.out OK2.out fun k hk=>by
        rcases HW2.out.2 k hk with e|e
        ·rcases HW1.out.2 k e with e|e
         ·exact .inl e
         ·exact .inr (.inl e)
        ·exact .inr (.inr e)
       exact⟨HW2.out.1,v1,v2⟩
      clear HW1 HW2;obtain⟨q0,q1,q2⟩:=HC4.out _ _ _ _ _ G11.out;go_upto_if 93 with fail;clear q0 q1 q2;go_cut [11] (fun y2 wx=>∃(g2:List Int),g2.length≤gl.length+1∧Hid (Wd g2∧Ka.Iv18 S2.c g2 d2)∧Hid (aa w wx (tnl x2 S2 (Blk Ba (oA)::Blk Bo (oO)::Dd.Md Bd m2 d2::Ru w.heap.size y2 g2::ts))))
      case first=>
       by_cases hz0:hd=0
       ·subst hz0;have HG:Hid (Wd gl∧Ka.Iv18 S2.c gl d2):=⟨HI.out.1,HIV.out.2.1⟩;go_wp2_with fail;go_meet;exact⟨gl,by omega,HG,G11⟩
       ·have y1:(hd==0)=false:=by simp[hz0]
        have y2:decide (hd=0)=false:=by simp[hz0]
        have hlk:=(Dd.om G11.out 7 rfl).look HK.out.2.2.1;rw[decide_eq_false (HIV.out.2.2 hz0)] at hlk;obtain⟨q0,q1,q2⟩:=HC4.out _ _ _ _ _ G11.out;have HG:Hid (Wd (gl++[hd])∧Ka.Iv18 S2.c (gl++[hd]) d2):=⟨fun z hz=>by
         rcases List.mem_append.1 hz with e|e
         ·exact HI.out.1 z e
         ·rw[List.mem_singleton.1 e];exact HK.out.2.2.1,HIV.out.2.1.push (HK.out.2.2.2.lt hz0)⟩
        have HR1:=hid (G11.out.sW 8 rfl).1;have hwz:w.heap.size≤wc.heap.size:=G11.out.nw.fr.size;clear hz0;go_wp2_with (first|(at_builtin;refine push1u rfl (.tmp 98) (.tmp 101) rfl w.heap.size _ _ hd rfl (HR1.out.alloc _) wc.heap.size rfl (by simp) (by omega) (by simp;omega) ?_;intro g cap6 w12 hown hg hw12;have T6:=hid ((G11.out.sW 8 rfl).2 ((Fr.refl _ _).alloc _) hown rfl hg (hw12.imp (fun e=>e) fun e=>by rw[e];simp));clear hown hg hw12 HR1)|fail);go_meet;exact⟨gl++[hd],by simp,HG,T6⟩
      case rest=>
      clear G11;obtain⟨g2,hg2,HG2,G12⟩:=hcut;have HDD:Hid (∀k,k∈d2→U64 k∧Ka.look S2.c k=none):=fun k hk=>⟨HIV.out.1 k hk,(HG2.out.2.dl k hk).1⟩
      have HRead:Hid (∀w1 ts k,k∈d2→aa w w1 (tnl x2 S2 ts)→Calls Tryz.prog 17 #[.pointer (some ⟨x.T,0,none⟩),.int .u64 k,.int .i64 0,.int .i64 0] w1 fun e w'=>e=.returned (ans 5 0 0 0 ⟨#[]⟩ S2.s.cb)∧aa w w' (tnl x2 S2 ts)):=fun w1 ts k hk g=>by rw[←HK.out.2.1];exact uT g (HDD.out k hk).1 (HDD.out k hk).2
      have HWrite:Hid (∀w1 ts k,k∈d2→aa w w1 (tnl x2 S2 ts)→Calls Tryz.prog 19 #[.pointer (some ⟨x.T,0,none⟩),.int .u64 k,.int .i64 0,.string ⟨#[]⟩] w1 fun e w'=>e=.returned (ans 5 0 0 0 ⟨#[]⟩ S2.s.cb)∧aa w w' (tnl x2 S2 ts)):=fun w1 ts k hk g=>by rw[←HK.out.2.1];exact rl g (HDD.out k hk).1 (HDD.out k hk).2 _
      have HFree:Hid (∀w1 ts k,k∈d2→aa w w1 (tnl x2 S2 ts)→Calls Tryz.prog 20 #[.pointer (some ⟨x.T,0,none⟩),.int .u64 k] w1 fun e w'=>e=.returned (ans 5 0 0 0 ⟨#[]⟩ S2.s.cb)∧aa w w' (tnl x2 S2 ts)):=fun w1 ts k hk g=>by rw[←HK.out.2.1];exact uU g (HDD.out k hk).1 (HDD.out k hk).2
      have HRealloc:Hid (∀w1 ts k,k∈d2→aa w w1 (tnl x2 S2 ts)→Calls Tryz.prog 21 #[.pointer (some ⟨x.T,0,none⟩),.int .u64 k,.int .i64 n] w1 fun e w'=>e=.returned (ans 5 0 0 0 ⟨#[]⟩ S2.s.cb)∧aa w w' (tnl x2 S2 ts)):=fun w1 ts k hk g=>by rw[←HK.out.2.1];exact mI g (HDD.out k hk).1 (HDD.out k hk).2 n
      have HUsable:Hid (∀w1 ts k,k∈d2→aa w w1 (tnl x2 S2 ts)→Calls Tryz.prog 13 #[.pointer (some ⟨x.T,0,none⟩),.int .u64 k] w1 fun e w'=>e=.returned (ans 5 0 0 0 ⟨#[]⟩ S2.s.cb)∧aa w w' (tnl x2 S2 ts)):=fun w1 ts k hk g=>by rw[←HK.out.2.1];exact oh g (HDD.out k hk).1 (HDD.out k hk).2
      have HRestrict:Hid (∀w1 ts k,k∈d2→aa w w1 (tnl x2 S2 ts)→Calls Tryz.prog 22 #[.pointer (some ⟨x.T,0,none⟩),.int .u64 k,.int .i64 1] w1 fun e w'=>e=.returned (ans 5 0 0 0 ⟨#[]⟩ S2.s.cb)∧aa w w' (tnl x2 S2 ts)):=fun w1 ts k hk g=>by rw[←HK.out.2.1];exact kF g (HDD.out k hk).1 (HDD.out k hk).2 GR.out 1
      have HCg:Hid (∀w1 ts,aa w w1 (tnl x2 S2 ts)→Calls Tryz.prog 11 #[.pointer (some ⟨x.T,0,none⟩)] w1 fun e w'=>e=.returned (.int .i64 S2.s.cb)∧aa w w' (tnl x2 S2 ts)):=fun w1 ts g=>by rw[←HK.out.2.1];exact eE g
      have HDL:Hid (Wd d2):=HIV.out.1;have hf5:=fun w=>rk S2.s.cb w
      clear HIV HC4 HDD;go_wp2_with (first|(at_range;refine Dd.vG rfl (.tmp 103) rfl rfl (Dd.om G12.out 7 rfl) ?_;intro w8 cnt8 hR8 hF8;have T8:Hid (aa w w8 (tnl x2 S2 (Blk Ba (oA)::Blk Bo (oO)::Dd.Wd Bd wc.heap.size m2 d2 cnt8::Ru w.heap.size u11 g2::ts))):=Dd.mdWalk G12.out 7 rfl (Nat.le_refl _) hR8 hF8;clear hR8 hF8 G12)|go_in)
      try go_frame
      generalize wc.heap.size=rr at *;go_loopw [20] (fun _ wq=>∃cnt:Nat,Hid (aa w wq (tnl x2 S2 (Blk Ba (oA)::Blk Bo (oO)::Dd.Wd Bd rr m2 d2 cnt::Ru w.heap.size u11 g2::ts)))) (fun _ wq=>wq.rangeLeft Bd rr)
      case atStart=>exact⟨_,T8⟩
      case round=>
       clear T8;obtain⟨cnt,TQ⟩:=hrel;go_wp2_with (first|(at_next;refine Dd.zO rfl (.tmp 104) rfl rfl (Dd.rg TQ.out 7 rfl) ?_ ?_;rotate_left;intro k bb9 w9 cnt9 hk9 hR9 hlt9 hF9 hen;have T9:Hid (aa w w9 (tnl x2 S2 (Blk Ba (oA)::Blk Bo (oO)::Dd.Wd Bd rr m2 d2 cnt9::Ru w.heap.size u11 g2::ts))):=Dd.mdNext TQ.out 7 rfl hR9 hF9;have HLT:=hid hlt9;have HLF:=hid (Dd.rg TQ.out 7 rfl).left;have HKD:=hid hk9;clear hR9 hlt9 hF9 hk9 TQ;rotate_left))
       ·have TE:Hid (aa w wr (tnl x2 S2 (Blk Ba (oA)::Blk Bo (oO)::Dd.Md Bd m2 d2::Ru w.heap.size u11 g2::ts))):=Dd.mdEnd TQ.out 7 rfl;have TF:=hid (bg (bg TE.out));clear TQ TE HRead HWrite HFree HRealloc HUsable HRestrict HCg;exact⟨⟨i+1,m2,x2,S2,g2,d2,by omega,by simp,by omega,by omega,HK.out.2.1,⟨HG2.out.1,fun k hk=>(HDL.out k hk),HK.out.1,HG2.out.2⟩,TF.out⟩,by simp only[intOf];omega⟩
       ·go_wp2_with fail;refine(HCg.out _ _ T9.out).mono ?_;rintro e v11 ⟨rfl,g11⟩;have U1:=hid g11;clear g11 T9;go_wp2_with fail;refine(HRead.out _ _ _ HKD.out U1.out).mono ?_;rintro e v12 ⟨rfl,g12⟩;have U2:=hid g12;clear g12 U1;go_wp2_with fail;refine(HWrite.out _ _ _ HKD.out U2.out).mono ?_;rintro e v13 ⟨rfl,g13⟩;have U3:=hid g13;clear g13 U2;go_wp2_with fail;refine(HFree.out _ _ _ HKD.out U3.out).mono ?_;rintro e v14 ⟨rfl,g14⟩;have U4:=hid g14;clear g14 U3;go_wp2_with fail;refine(HRealloc.out _ _ _ HKD.out U4.out).mono ?_;rintro e v15 ⟨rfl,g15⟩;have U5:=hid g15;clear g15 U4;go_wp2_with fail;refine(HUsable.out _ _ _ HKD.out U5.out).mono ?_;rintro e v16 ⟨rfl,g16⟩;have U6:=hid g16;clear g16 U5;go_wp2_with fail;refine(HRestrict.out _ _ _ HKD.out U6.out).mono ?_;rintro e v17 ⟨rfl,g17⟩;have U7:=hid g17;clear g17 U6;go_wp2_with fail;refine(HCg.out _ _ U7.out).mono ?_;rintro e v18 ⟨rfl,g18⟩;have U8:=hid g18;clear g18 U7;go_wp2;exact⟨⟨cnt9,U8⟩,by rw[(Dd.rg U8.out 7 rfl).left,HLF.out];exact HLT.out⟩
    ·have x4:decide ((i:Int)<(nl:Int))=false:=by simp;omega
     have GN:=HG.out.nw;clear HG HI HO HSO;go_wp2;go_ret;exact⟨by simp,GN⟩
theorem xD{w:World}(gr:G17 w){c:C18}(hc:CfgT w c){v:Value}(hs:∃ad cap ops,v=.slice ad (List.length ops) cap∧OpsT w ad ops∧ops.length≤maxLen)(n:Int):Calls Tryz.prog 5 #[.agg c.cs,v,.int .i64 n] w fun e w'=>e=.returned (.bool true)∧Fr (fun _=>False) w w':=by
 obtain⟨P,K,q,id,se,ad0,cap0,W0⟩:=c;obtain⟨ad,cap,l,rfl,ho,hl⟩:=hs;exact(uF gr hc ho hl n).mono fun e w' ⟨he,f⟩=>⟨he,f.fr⟩
end Go.Proofs.YtndhbnhobhkmaaaGreatDoor
namespace Go.Proofs.YtndhbnhobhkmaaaGreatDoor
open Go.RowKit
def qW:List (String×DataW Unit):=[("garth/class.units",Rows.laid_garth_class_units),("math/bits.deBruijn64tab",Rows.laid_math_bits_deBruijn64tab)]
theorem own:ownKnob Tryz.prog.godebug=none:=by kernel_rfl
theorem laidOut:laidOutB Tryz.prog=true:=by kernel_rfl
theorem ma{P:Program}{W:World}{n:String}{d:DataW Unit}{r:List (String×DataW Unit)}(h:laidMet P ((n,d)::r) W):laidMet P r W:=by
 obtain⟨ps,⟨g,t,cs,fuel,p,q,_,_,_,_,hr,rfl⟩,hn,hc⟩:=h;exact⟨q,hr,(List.nodup_append.1 hn).2.1,fun b off hm=>hc b off (by simp[hm])⟩
theorem gTab:Tryz.prog.globalNamed "garth/class.units" =some 0:=by kernel_rfl
theorem tTab:(Tryz.prog.globals[0]?).map (·.type)=some 149:=by kernel_rfl
theorem cTab:Tryz.prog.cellsOf 149=8:=by kernel_rfl
theorem cInt:Tryz.prog.cellsOf 3=1:=by kernel_rfl
def tabZ:List Int:=[16,32,48,64,96,128,192,256]
theorem AX:(Rows.laid_garth_class_units:DataW Unit)=Lib.tabData .i64 tabZ:=rfl
theorem gTabB:Tryz.prog.globalNamed "math/bits.deBruijn64tab" =some 2:=by kernel_rfl
theorem tTabB:(Tryz.prog.globals[2]?).map (·.type)=some 265:=by kernel_rfl
theorem cTabB:Tryz.prog.cellsOf 265=64:=by kernel_rfl
theorem cByteB:Tryz.prog.cellsOf 5=1:=by kernel_rfl
def tabB:List Int:=Lib.deBruijn64tab.map fun n:Nat=>(n:Int)
theorem xe:(Rows.laid_math_bits_deBruijn64tab:DataW Unit)=Lib.tabData .u8 tabB:=rfl
theorem tab_of{W:World}(h:laidMetH Tryz.prog qW W):Tab W∧Sf.Tab W:=by
 rw[MakeChecks.laidMetH_plain _ _ _ (by kernel_rfl)] at h;unfold qW at h;rw[AX,xe] at h;have ht:=Lib.tabIs_of_head gTab tTab Tryz.underlying149 Tryz.underlying3 cInt cTab h;have hb:=Lib.tabIs_of_head gTabB tTabB Tryz.underlying265 Tryz.underlying5 cByteB cTabB (ma h);refine⟨fun j hj=> ?_,fun j hj=> ?_⟩
 ·have:=ht.cell gTab j (by simpa [tabZ] using hj);rw[this];have key:∀a:Fin 8,tabZ.getD a.val 0=ah (a.val:Int):=by decide
  rw[key ⟨j,hj⟩]
 ·have:=hb.cell gTabB j (by simpa [tabB,Lib.deBruijn64tab] using hj);rw[this];have hl:j<Lib.deBruijn64tab.length:=by simpa [Lib.deBruijn64tab] using hj
  simp[tabB,List.getD_eq_getElem?_getD,List.getElem?_eq_getElem hl]
theorem xP(os:Os)(args:Array Value):laidMetH Tryz.prog qW ((World.doorLaid Tryz.prog 14 os).forCall (fun _ _=>0) ⟨#[],args,[]⟩).memory:=
 laidMetH_of_parts3 (fuel:=8) (laidMet_of_run' 8 (by kernel_rfl) (by kernel_rfl)) (by kernel_rfl) (by kernel_rfl)
end Go.Proofs.YtndhbnhobhkmaaaGreatDoor
