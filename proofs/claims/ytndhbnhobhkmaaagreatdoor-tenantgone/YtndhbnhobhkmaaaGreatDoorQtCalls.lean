/-
  What the calls of package quota answer and leave, at the landed code.
-/
import Derived.Test.YtndhbnhobhkmaaaGreatDoorQtMem
set_option maxRecDepth 20000
set_option maxHeartbeats 1000000
namespace Go.Proofs.YtndhbnhobhkmaaaGreatDoor.Qt
open Go.RowKit
structure Qm(w:World)(B:Nat)(s:QS):Prop where
 heap:w.heap[B]? =some (.cells #[.complex .f64 (fb s.lb) (fb s.lp),.complex .f64 (fb s.cb) (fb s.cp),.complex .f64 (fb s.rb) (fb s.rp)] 120 (0,0))
 ok:s.Ok
theorem addq{a b c d:Int}(ha:a.natAbs<9007199254740992)(hb:b.natAbs<9007199254740992)(hc:c.natAbs<9007199254740992)(hd:d.natAbs<9007199254740992)(w:World):(binOp .add 68 (.complex .f64 (fb a) (fb b)) (.complex .f64 (fb c) (fb d))).run Tryz.prog w=.ok (.complex .f64 (fb (a+c)) (fb (b+d))) w:=
 run_complex_sum w .add (.inl rfl) 68 .f64 _ _ _ _ _ _ (ql (Wh.of a ha) (Wh.of b hb) (Wh.of c hc) (Wh.of d hd))
theorem subq{a b c d:Int}(ha:a.natAbs<9007199254740992)(hb:b.natAbs<9007199254740992)(hc:c.natAbs<9007199254740992)(hd:d.natAbs<9007199254740992)(w:World):(binOp .sub 68 (.complex .f64 (fb a) (fb b)) (.complex .f64 (fb c) (fb d))).run Tryz.prog w=.ok (.complex .f64 (fb (a - c)) (fb (b - d))) w:=
 run_complex_sum w .sub (.inr rfl) 68 .f64 _ _ _ _ _ _ (xV (Wh.of a ha) (Wh.of b hb) (Wh.of c hc) (Wh.of d hd))
theorem fI{P:Program}{w:World}{a:Addr}{m:Mode}(k:FloatKind)(x y:Nat):(store a (.complex k x y) m).run P w=stored P w a (.complex k x y) m:=run_store P w a _ m rfl
attribute [local go_sem] fI
section
variable{w w':World}{B:Nat}{s:QS}
theorem Qm.lt(h:Qm w B s):B<w.heap.size:=(Array.getElem?_eq_some_iff.1 h.heap).1
theorem Qm.carry{S:Nat→Prop}(h:Qm w B s)(f:Fr S w w')(hn:¬S B):Qm w' B s:=⟨by rw[f.block B h.lt hn];exact h.heap,h.ok⟩
theorem Qm.c0(h:Qm w B s):w.cell? ⟨B,0,none⟩=some (.complex .f64 (fb s.lb) (fb s.lp)):=by simp[World.cell?,h.heap]
theorem Qm.c1(h:Qm w B s):w.cell? ⟨B,1,none⟩=some (.complex .f64 (fb s.cb) (fb s.cp)):=by simp[World.cell?,h.heap]
theorem Qm.c2(h:Qm w B s):w.cell? ⟨B,2,none⟩=some (.complex .f64 (fb s.rb) (fb s.rp)):=by simp[World.cell?,h.heap]
theorem Qm.g(h:Qm w B s)(k:Nat):w.frozen? ⟨B,k,none⟩=false:=by simp[World.frozen?,h.heap]
theorem Qm.put0(h:Qm w B s){x y:Int}(k:(⟨x,y,s.cb,s.cp,s.rb,s.rp⟩:QS).Ok):Qm (w.setCell ⟨B,0,none⟩ (.complex .f64 (fb x) (fb y))) B ⟨x,y,s.cb,s.cp,s.rb,s.rp⟩:=⟨by rw[gK 0 _ h.heap];rfl,k⟩
theorem Qm.put1(h:Qm w B s){x y:Int}(k:(⟨s.lb,s.lp,x,y,s.rb,s.rp⟩:QS).Ok):Qm (w.setCell ⟨B,1,none⟩ (.complex .f64 (fb x) (fb y))) B ⟨s.lb,s.lp,x,y,s.rb,s.rp⟩:=⟨by rw[gK 1 _ h.heap];rfl,k⟩
theorem Qm.put2(h:Qm w B s){x y:Int}(k:(⟨s.lb,s.lp,s.cb,s.cp,x,y⟩:QS).Ok):Qm (w.setCell ⟨B,2,none⟩ (.complex .f64 (fb x) (fb y))) B ⟨s.lb,s.lp,s.cb,s.cp,x,y⟩:=⟨by rw[gK 2 _ h.heap];rfl,k⟩
theorem Qm.drewN(h:Qm w B s)(n:Nat):Qm (w.drewN n) B s:=⟨h.heap,h.ok⟩
theorem q_new{a b:Int}(r:Rt a b)(w:World):Calls Tryz.prog 97 #[.complex .f64 (fb a) (fb b)] w fun e w'=>∃B,e=.returned (.tuple #[.pointer (some ⟨B,0,none⟩),.int .i64 0])∧w.heap.size≤B∧Qm w' B (newQ a b)∧Fr (fun _=>False) w w':=by
 have H1:=hid fun w=>bA (fb a) (fb b) w
 rw[gS r] at H1;have HK:Hid (Qm (w.alloc (.cells #[.complex .f64 (fb a) (fb b),.complex .f64 0 0,.complex .f64 0 0] 120)) w.heap.size (newQ a b)):=⟨by rw[heap_alloc_new];simp[newQ,bP],tF r⟩;clear r;generalize fb a=x at *;generalize fb b=y at *;go_enter Tryz.func97,Tryz.ntmps97;go_wp2_with fail;refine(H1.out _).mono ?_;rintro e w' ⟨rfl,hw⟩;obtain rfl:=hw.symm;clear hw;go_wp2;go_ret2;exact⟨w.heap.size,by simp,Nat.le_refl _,HK.out,(Fr.refl _ _).alloc _⟩
theorem q_tog(h:Qm w B s):Calls Tryz.prog 105 #[.pointer (some ⟨B,0,none⟩)] w fun e w'=>e=.returned (.complex .f64 (fb (s.cb+s.rb)) (fb (s.cp+s.rp)))∧∃m,w'=w.drewN m:=by
 obtain⟨o1,o2,o3,o4,o5,o6,o7⟩:=h.ok;unfold Rt at o1;have hs:=fun w=>addq (a:=s.cb) (b:=s.cp) (c:=s.rb) (d:=s.rp) (by omega) (by omega) (by omega) (by omega) w
 have c1:=h.c1;have c2:=h.c2;clear o1 o2 o3 o4 o5 o6 o7 h;generalize fb (s.cb+s.rb)=x at *;generalize fb (s.cp+s.rp)=y at *;generalize fb s.cb=x1 at *;generalize fb s.cp=y1 at *;generalize fb s.rb=x2 at *;generalize fb s.rp=y2 at *;go_enter Tryz.func105,Tryz.ntmps105;go_wp2;go_quiet (fail);go_wp2;go_ret;exact⟨by simp,nq,rfl⟩
theorem q_can(h:Qm w B s){a b:Int}(r:Rt a b):Calls Tryz.prog 86 #[.pointer (some ⟨B,0,none⟩),.complex .f64 (fb a) (fb b)] w fun e w'=>e=.returned (.int .i64 (canE s a b))∧Qm w' B (canS s a b)∧Fr (fun i=>i=B) w w':=by
 have HF:=hid fun w=>oS r (h.ok.rsv) w
 have c:=h.c2;have g:=h.g 2;by_cases hh:s.Had a b
 ·have HR:=hid (BV h.ok r);have e1:Hid (canE s a b=0):=by show _=_;unfold canE;rw[if_pos hh]
  have E2:Hid (canS s a b=⟨s.lb,s.lp,s.cb,s.cp,s.rb - a,s.rp - b⟩):=by show _=_;unfold canS;rw[if_pos hh]
  have HK:Hid (Qm (w.setCell ⟨B,2,none⟩ (.complex .f64 (fb (s.rb - a)) (fb (s.rp - b)))) B (canS s a b)):=by
   show Qm _ _ _
   rw[E2.out] at HR ⊢;exact h.put2 HR.out
  rw[decide_eq_true (p:=a≤s.rb∧b≤s.rp) hh] at HF;obtain⟨o1,o2,o3,o4,o5,o6,o7⟩:=h.ok;unfold QS.Had at hh;unfold Rt at r o1;have hs:=fun w=>subq (a:=s.rb) (b:=s.rp) (c:=a) (d:=b) (by omega) (by omega) (by omega) (by omega) w
  clear h hh r o1 o2 o3 o4 o5 o6 o7 HR E2;rw[e1.out];clear e1;generalize fb (s.rb - a)=z1 at *;generalize fb (s.rp - b)=z2 at *;generalize fb s.rb=x1 at *;generalize fb s.rp=x2 at *;generalize fb a=y1 at *;generalize fb b=y2 at *;go_enter Tryz.func86,Tryz.ntmps86;go_wp2_with fail;refine(HF.out _).mono ?_;rintro e w' ⟨rfl,hw⟩;obtain rfl:=hw.symm;clear hw;go_wp2;go_ret;exact⟨by simp,HK.out,uL _ _ _ _⟩
 ·have e1:Hid (canE s a b=12):=by show _=_;unfold canE;rw[if_neg hh]
  have e2:Hid (canS s a b=s):=by show _=_;unfold canS;rw[if_neg hh]
  rw[decide_eq_false (p:=a≤s.rb∧b≤s.rp) hh] at HF;rw[e1.out,e2.out];have H:=hid h;clear e1 e2 hh r h;generalize fb s.rb=x1 at *;generalize fb s.rp=x2 at *;generalize fb a=y1 at *;generalize fb b=y2 at *;go_enter Tryz.func86,Tryz.ntmps86;go_wp2_with fail;refine(HF.out _).mono ?_;rintro e w' ⟨rfl,hw⟩;obtain rfl:=hw.symm;clear hw;go_wp2;go_ret;exact⟨by simp,H.out,Fr.refl _ _⟩
theorem q_ref(h:Qm w B s){a b:Int}(r:Rt a b):Calls Tryz.prog 67 #[.pointer (some ⟨B,0,none⟩),.complex .f64 (fb a) (fb b)] w fun e w'=>e=.returned (.int .i64 (refE s a b))∧Qm w' B (refS s a b)∧Fr (fun i=>i=B) w w':=by
 have HF:=hid fun w=>oS r (h.ok.char) w
 have c:=h.c1;have g:=h.g 1;by_cases hh:s.Paid a b
 ·have HR:=hid (Ak h.ok r);have e1:Hid (refE s a b=0):=by show _=_;unfold refE;rw[if_pos hh]
  have E2:Hid (refS s a b=⟨s.lb,s.lp,s.cb - a,s.cp - b,s.rb,s.rp⟩):=by show _=_;unfold refS;rw[if_pos hh]
  have HK:Hid (Qm (w.setCell ⟨B,1,none⟩ (.complex .f64 (fb (s.cb - a)) (fb (s.cp - b)))) B (refS s a b)):=by
   show Qm _ _ _
   rw[E2.out] at HR ⊢;exact h.put1 HR.out
  rw[decide_eq_true (p:=a≤s.cb∧b≤s.cp) hh] at HF;obtain⟨o1,o2,o3,o4,o5,o6,o7⟩:=h.ok;unfold QS.Paid at hh;unfold Rt at r o1;have hs:=fun w=>subq (a:=s.cb) (b:=s.cp) (c:=a) (d:=b) (by omega) (by omega) (by omega) (by omega) w
  clear h hh r o1 o2 o3 o4 o5 o6 o7 HR E2;rw[e1.out];clear e1;generalize fb (s.cb - a)=z1 at *;generalize fb (s.cp - b)=z2 at *;generalize fb s.cb=x1 at *;generalize fb s.cp=x2 at *;generalize fb a=y1 at *;generalize fb b=y2 at *;go_enter Tryz.func67,Tryz.ntmps67;go_wp2_with fail;refine(HF.out _).mono ?_;rintro e w' ⟨rfl,hw⟩;obtain rfl:=hw.symm;clear hw;go_wp2;go_ret;exact⟨by simp,HK.out,uL _ _ _ _⟩
 ·have e1:Hid (refE s a b=12):=by show _=_;unfold refE;rw[if_neg hh]
  have e2:Hid (refS s a b=s):=by show _=_;unfold refS;rw[if_neg hh]
  rw[decide_eq_false (p:=a≤s.cb∧b≤s.cp) hh] at HF;rw[e1.out,e2.out];have H:=hid h;clear e1 e2 hh r h;generalize fb s.cb=x1 at *;generalize fb s.cp=x2 at *;generalize fb a=y1 at *;generalize fb b=y2 at *;go_enter Tryz.func67,Tryz.ntmps67;go_wp2_with fail;refine(HF.out _).mono ?_;rintro e w' ⟨rfl,hw⟩;obtain rfl:=hw.symm;clear hw;go_wp2;go_ret;exact⟨by simp,H.out,Fr.refl _ _⟩
theorem q_com(h:Qm w B s){a b:Int}(r:Rt a b):Calls Tryz.prog 87 #[.pointer (some ⟨B,0,none⟩),.complex .f64 (fb a) (fb b)] w fun e w'=>e=.returned (.int .i64 (comE s a b))∧Qm w' B (comS s a b)∧Fr (fun i=>i=B) w w':=by
 have HC:=hid (q_can h r);by_cases hh:s.Had a b
 ·have HR:=hid (BQ h.ok r);have e0:canE s a b=0:=by unfold canE;rw[if_pos hh]
  have e1:Hid (comE s a b=0):=by show _=_;unfold comE;rw[if_pos hh]
  have e2:canS s a b=⟨s.lb,s.lp,s.cb,s.cp,s.rb - a,s.rp - b⟩:=by unfold canS;rw[if_pos hh]
  have e3:Hid (comS s a b=⟨s.lb,s.lp,s.cb+a,s.cp+b,s.rb - a,s.rp - b⟩):=by show _=_;unfold comS;rw[if_pos hh]
  rw[e0,e2] at HC;obtain⟨o1,o2,o3,o4,o5,o6,o7⟩:=h.ok;unfold QS.Had at hh;unfold Rt at r o1;have hs:=fun w=>addq (a:=s.cb) (b:=s.cp) (c:=a) (d:=b) (by omega) (by omega) (by omega) (by omega) w
  have HK:Hid (∀w1,Qm w1 B ⟨s.lb,s.lp,s.cb,s.cp,s.rb - a,s.rp - b⟩→Qm (w1.setCell ⟨B,1,none⟩ (.complex .f64 (fb (s.cb+a)) (fb (s.cp+b)))) B (comS s a b)):=fun w1 h1=>by
   rw[e3.out] at HR ⊢;exact h1.put1 HR.out
  rw[e1.out];clear h hh r o1 o2 o3 o4 o5 o6 o7 HR e0 e1 e2 e3;generalize hz1:fb (s.cb+a)=z1 at *;generalize hz2:fb (s.cp+b)=z2 at *;generalize hx1:fb s.cb=x1 at *;generalize hx2:fb s.cp=x2 at *;generalize hy1:fb a=y1 at *;generalize hy2:fb b=y2 at *;clear hz1 hz2 hy1 hy2;have hc:=hid (And.intro hx1 hx2);clear hx1 hx2;go_enter Tryz.func87,Tryz.ntmps87;go_wp2_with fail;refine HC.out.mono ?_;rintro e w1 ⟨rfl,h1,f1⟩;have c:=h1.c1;rw[hc.out.1,hc.out.2] at c;have g:=h1.g 1;have H1:=hid (HK.out _ h1);have HF1:=hid f1;clear h1 f1 HC HK;go_wp2;go_ret;exact⟨by simp,H1.out,Fr.setCell (S:=fun i=>i=B) (p:=⟨B,1,none⟩) HF1.out rfl _⟩
 ·have e0:canE s a b=12:=by unfold canE;rw[if_neg hh]
  have e1:Hid (comE s a b=12):=by show _=_;unfold comE;rw[if_neg hh]
  have e2:canS s a b=s:=by unfold canS;rw[if_neg hh]
  have e3:Hid (comS s a b=s):=by show _=_;unfold comS;rw[if_neg hh]
  rw[e0,e2] at HC;rw[e1.out,e3.out];clear h hh r e0 e1 e2 e3;generalize fb a=y1 at *;generalize fb b=y2 at *;go_enter Tryz.func87,Tryz.ntmps87;go_wp2_with fail;refine HC.out.mono ?_;rintro e w1 ⟨rfl,h1,f1⟩;have H1:=hid h1;have HF1:=hid f1;clear h1 f1;go_wp2;go_ret;exact⟨by simp,H1.out,HF1.out⟩
theorem q_res(h:Qm w B s){a b:Int}(r:Rt a b):Calls Tryz.prog 84 #[.pointer (some ⟨B,0,none⟩),.complex .f64 (fb a) (fb b)] w fun e w'=>e=.returned (.int .i64 (resE s a b))∧Qm w' B (resS s a b)∧Fr (fun i=>i=B) w w':=by
 have HX:=hid fun w=>bA (fb a) (fb b) w
 rw[gS r] at HX;obtain⟨o1,o2,o3,o4,o5,o6,o7⟩:=h.ok;unfold Rt at r o1;have hl:Rt (s.lb - (s.cb+s.rb)) (s.lp - (s.cp+s.rp)):=⟨by omega,by omega,by omega,by omega⟩;have HF:=hid fun w=>s_fits (a:=a) (b:=b) r hl w
 have HT:=hid fun w (h:Qm w B s)=>q_tog h
 have HD:=hid fun n=>h.drewN n
 have hs:=fun w=>subq (a:=s.lb) (b:=s.lp) (c:=s.cb+s.rb) (d:=s.cp+s.rp) (by omega) (by omega) (by omega) (by omega) w
 have c0:=h.c0;by_cases hh:s.Room a b
 ·have HR:=hid (Aj h.ok r);have e1:Hid (resE s a b=0):=by show _=_;unfold resE;rw[if_pos hh]
  have E2:Hid (resS s a b=⟨s.lb,s.lp,s.cb,s.cp,s.rb+a,s.rp+b⟩):=by show _=_;unfold resS;rw[if_pos hh]
  have HK:Hid (∀w1,Qm w1 B s→Qm (w1.setCell ⟨B,2,none⟩ (.complex .f64 (fb (s.rb+a)) (fb (s.rp+b)))) B (resS s a b)):=fun w1 h1=>by
   rw[E2.out] at HR ⊢;exact h1.put2 HR.out
  unfold QS.Room at hh;rw[decide_eq_true (p:=a≤s.lb - (s.cb+s.rb)∧b≤s.lp - (s.cp+s.rp)) ⟨by omega,by omega⟩] at HF;have ha:=fun w=>addq (a:=s.rb) (b:=s.rp) (c:=a) (d:=b) (by omega) (by omega) (by omega) (by omega) w
  have c2:=h.c2;have g2:=h.g 2;rw[e1.out];clear h hh r o1 o2 o3 o4 o5 o6 o7 HR E2 e1 hl;generalize hw1:fb (s.rb+a)=t1 at *;generalize hw2:fb (s.rp+b)=t2 at *;generalize hz1:fb (s.lb - (s.cb+s.rb))=z1 at *;generalize hz2:fb (s.lp - (s.cp+s.rp))=z2 at *;generalize hu1:fb (s.cb+s.rb)=u1 at *;generalize hu2:fb (s.cp+s.rp)=u2 at *;generalize hv1:fb s.lb=v1 at *;generalize hv2:fb s.lp=v2 at *;generalize hr1:fb s.rb=r1 at *;generalize hr2:fb s.rp=r2 at *;generalize hy1:fb a=y1 at *;generalize hy2:fb b=y2 at *;clear hw1 hw2 hz1 hz2 hu1 hu2 hv1 hv2 hr1 hr2 hy1 hy2;go_enter Tryz.func84,Tryz.ntmps84;go_wp2_with fail;refine(HX.out _).mono ?_;rintro e w' ⟨rfl,hw⟩;obtain rfl:=hw.symm;clear hw;go_wp2_with fail;go_quiet (first|(go_at_call 105;refine Calls.quiet_of (HT.out _ ?_);exact HD.out _)|(go_at_call 106;refine Calls.quiet_of (HF.out _)));go_wp2;go_ret;exact⟨by simp,HK.out _ (HD.out _),Fr.setCell (S:=fun i=>i=B) (p:=⟨B,2,none⟩) ((Fr.refl _ _).drewN _) rfl _⟩
 ·have e1:Hid (resE s a b=3):=by show _=_;unfold resE;rw[if_neg hh]
  have E2:Hid (resS s a b=s):=by show _=_;unfold resS;rw[if_neg hh]
  unfold QS.Room at hh;rw[decide_eq_false (p:=a≤s.lb - (s.cb+s.rb)∧b≤s.lp - (s.cp+s.rp)) (fun k=>hh ⟨by omega,by omega⟩)] at HF;rw[e1.out,E2.out];clear h hh r o1 o2 o3 o4 o5 o6 o7 E2 e1 hl;generalize hz1:fb (s.lb - (s.cb+s.rb))=z1 at *;generalize hz2:fb (s.lp - (s.cp+s.rp))=z2 at *;generalize hu1:fb (s.cb+s.rb)=u1 at *;generalize hu2:fb (s.cp+s.rp)=u2 at *;generalize hv1:fb s.lb=v1 at *;generalize hv2:fb s.lp=v2 at *;generalize hy1:fb a=y1 at *;generalize hy2:fb b=y2 at *;clear hz1 hz2 hu1 hu2 hv1 hv2 hy1 hy2;go_enter Tryz.func84,Tryz.ntmps84;go_wp2_with fail;refine(HX.out _).mono ?_;rintro e w' ⟨rfl,hw⟩;obtain rfl:=hw.symm;clear hw;go_wp2_with fail;go_quiet (first|(go_at_call 105;refine Calls.quiet_of (HT.out _ ?_);exact HD.out _)|(go_at_call 106;refine Calls.quiet_of (HF.out _)));go_wp2;go_ret;exact⟨by simp,HD.out _,(Fr.refl _ _).drewN _⟩
theorem q_rsz(h:Qm w B s){a b:Int}(r:Rt a b):Calls Tryz.prog 64 #[.pointer (some ⟨B,0,none⟩),.complex .f64 (fb a) (fb b)] w fun e w'=>e=.returned (.int .i64 (rszE s a b))∧Qm w' B (rszS s a b)∧Fr (fun i=>i=B) w w':=by
 have HX:=hid fun w=>bA (fb a) (fb b) w
 rw[gS r] at HX;have HF:=hid fun w=>oS h.ok.both r w
 have HT:=hid fun w (h:Qm w B s)=>q_tog h
 have HQ:=hid h;by_cases hh:s.Held a b
 ·have HR:=hid (Ai h.ok r);have e1:Hid (rszE s a b=0):=by show _=_;unfold rszE;rw[if_pos hh]
  have E2:Hid (rszS s a b=⟨a,b,s.cb,s.cp,s.rb,s.rp⟩):=by show _=_;unfold rszS;rw[if_pos hh]
  have HK:Hid (∀w1,Qm w1 B s→Qm (w1.setCell ⟨B,0,none⟩ (.complex .f64 (fb a) (fb b))) B (rszS s a b)):=fun w1 h1=>by
   rw[E2.out] at HR ⊢;exact h1.put0 HR.out
  rw[decide_eq_true (p:=s.cb+s.rb≤a∧s.cp+s.rp≤b) hh] at HF;rw[e1.out];clear h hh r HR E2 e1;generalize hu1:fb (s.cb+s.rb)=u1 at *;generalize hu2:fb (s.cp+s.rp)=u2 at *;generalize hy1:fb a=y1 at *;generalize hy2:fb b=y2 at *;clear hu1 hu2 hy1 hy2;go_enter Tryz.func64,Tryz.ntmps64;go_wp2_with fail;refine(HX.out _).mono ?_;rintro e w' ⟨rfl,hw⟩;obtain rfl:=hw.symm;clear hw;go_wp2_with fail;refine(HT.out _ HQ.out).mono ?_;rintro e w1 ⟨rfl,m,hw⟩;obtain rfl:=hw.symm;clear hw;go_wp2_with fail;refine(HF.out _).mono ?_;rintro e w' ⟨rfl,hw⟩;obtain rfl:=hw.symm;clear hw;have g:=HQ.out.g 0;have c:=HQ.out.c0;go_wp2;go_ret;exact⟨by simp,HK.out _ (HQ.out.drewN _),Fr.setCell (S:=fun i=>i=B) (p:=⟨B,0,none⟩) ((Fr.refl _ _).drewN _) rfl _⟩
 ·have e1:Hid (rszE s a b=3):=by show _=_;unfold rszE;rw[if_neg hh]
  have E2:Hid (rszS s a b=s):=by show _=_;unfold rszS;rw[if_neg hh]
  rw[decide_eq_false (p:=s.cb+s.rb≤a∧s.cp+s.rp≤b) hh] at HF;rw[e1.out,E2.out];clear h hh r E2 e1;generalize hu1:fb (s.cb+s.rb)=u1 at *;generalize hu2:fb (s.cp+s.rp)=u2 at *;generalize hy1:fb a=y1 at *;generalize hy2:fb b=y2 at *;clear hu1 hu2 hy1 hy2;go_enter Tryz.func64,Tryz.ntmps64;go_wp2_with fail;refine(HX.out _).mono ?_;rintro e w' ⟨rfl,hw⟩;obtain rfl:=hw.symm;clear hw;go_wp2_with fail;refine(HT.out _ HQ.out).mono ?_;rintro e w1 ⟨rfl,m,hw⟩;obtain rfl:=hw.symm;clear hw;go_wp2_with fail;refine(HF.out _).mono ?_;rintro e w' ⟨rfl,hw⟩;obtain rfl:=hw.symm;clear hw;go_wp2;go_ret;exact⟨by simp,HQ.out.drewN _,(Fr.refl _ _).drewN _⟩
theorem q_cha(h:Qm w B s):Calls Tryz.prog 27 #[.pointer (some ⟨B,0,none⟩)] w fun e w'=>e=.returned (.complex .f64 (fb s.cb) (fb s.cp))∧∃m,w'=w.drewN m:=by
 have c:=h.c1;clear h;generalize fb s.cb=x1 at *;generalize fb s.cp=x2 at *;go_enter Tryz.func27,Tryz.ntmps27;go_wp2;go_ret;exact⟨by simp,0,rfl⟩
end
end Go.Proofs.YtndhbnhobhkmaaaGreatDoor.Qt
