/-
  Kinds of blocks as the document has them: plain mathematics. Nothing of the program is named here.
  What the calls of package class answer, each for every number: contracts.
  What the other calls of package class answer, each for every number: contracts.
  What the document's own answers are, each for every number.
  What a quota takes: plain mathematics off the document. Nothing of the program is named here.
  What the calls of package demand answer, at the landed code.
-/
import Derived.Test.YtndhbnhobhkmaaaGreatDoorQtMem
set_option maxRecDepth 20000
set_option maxHeartbeats 1000000
namespace Go.Proofs.YtndhbnhobhkmaaaGreatDoor
def ah(c:Int):Int:=
 if c<0 then 0 else if c=0 then 16 else if c=1 then 32 else if c=2 then 48 else if c=3 then 64 else if c=4 then 96 else if c=5 then 128 else if c=6 then 192 else if c=7 then 256 else if c≤23 then(c - 7) * 512 else 0
def ofI(n:Int):Int:=
 if n<1 then -1 else if n≤16 then 0 else if n≤32 then 1 else if n≤48 then 2 else if n≤64 then 3 else if n≤96 then 4 else if n≤128 then 5 else if n≤192 then 6 else if n≤256 then 7 else if n≤8192 then 7+(n+511) / 512 else -1
def perI(c:Int):Int:=
 if c<0 then 0 else if c=0 then 32 else if c=1 then 16 else if c=2 then 10 else if c=3 then 8 else if c=4 then 5 else if c=5 then 4 else if c=6 then 2 else if c=7 then 2 else 0
def aI(c:Int):Int:=if c<0 then 0 else if c≤7 then 1 else if c≤23 then c - 7 else 0
def dI(c:Int):Int:=
 if c<0 then 0 else if c=0 then 16 else if c=1 then 32 else if c=2 then 16 else if c=3 then 64 else if c=4 then 32 else if c=5 then 128 else if c=6 then 64 else if c=7 then 256 else if c≤23 then 512 else 0
def ag(n:Int):Int:=if ofI n<0 then 0 else ah (ofI n)
theorem uP(c:Int)(h0:0≤c)(h1:c≤23):∃k:Fin 24,c=(k.val:Int):=⟨⟨c.toNat,by omega⟩,by simp;omega⟩
theorem kV(m:Int)(h0:1≤m)(h1:m≤16):ah (7+m)=m * 512:=by
 have:∀k:Fin 16,ah (7+((k.val:Int)+1))=((k.val:Int)+1) * 512:=by decide+kernel
 have h:=this ⟨(m - 1).toNat,by omega⟩;have e:(((m - 1).toNat:Nat):Int)+1=m:=by omega
 simp only at h;rw[e] at h;exact h
theorem nF(n:Int)(h1:256<n)(h2:n≤8192):ofI n=7+(n+511) / 512:=by
 unfold ofI;repeat' split
 all_goals omega
theorem cy(n:Int):ofI n= -1↔n<1∨8192<n:=by
 unfold ofI;repeat' split
 all_goals omega
theorem bY(n:Int)(h1:1≤n)(h2:n≤8192):0≤ofI n∧ofI n≤23:=by
 unfold ofI;repeat' split
 all_goals omega
theorem mY(c d:Int)(h0:0≤c)(h:c<d)(h1:d≤23):ah c<ah d:=by
 have:∀a b:Fin 24,a.val<b.val→ah (a.val:Int)<ah (b.val:Int):=by decide+kernel
 obtain⟨a,rfl⟩:=uP c h0 (by omega);obtain⟨b,rfl⟩:=uP d (by omega) h1;exact this a b (by omega)
theorem iZ(c d:Int)(h0:0≤c)(h:c≤d)(h1:d≤23):ah c≤ah d:=by
 rcases Int.lt_or_eq_of_le h with hl|hl
 ·have:=mY c d h0 hl h1;omega
 ·rw[hl];exact Int.le_refl _
theorem lE(n:Int)(h1:1≤n)(h2:n≤256):0≤ofI n∧ofI n≤7∧n≤ah (ofI n)∧(ofI n=0∨ah (ofI n - 1)<n):=by
 have u0:ah 0=16:=rfl;have u1:ah 1=32:=rfl;have u2:ah 2=48:=rfl;have u3:ah 3=64:=rfl;have u4:ah 4=96:=rfl;have u5:ah 5=128:=rfl;have u6:ah 6=192:=rfl;have u7:ah 7=256:=rfl;unfold ofI;repeat' split
 all_goals first
  |omega
  |(simp only[Int.reduceSub,u0,u1,u2,u3,u4,u5,u6,u7];omega)
theorem jY(n:Int)(h1:1≤n)(h2:n≤8192):n≤ah (ofI n):=by
 by_cases h:n≤256
 ·exact(lE n h1 h).2.2.1
 ·rw[nF n (by omega) h2,kV _ (by omega) (by omega)];omega
theorem tC(n c:Int)(h0:0≤c)(h:c<ofI n):ah c<n:=by
 have h1:1≤n∧n≤8192:=by
  have:=cy n;by_cases hn:n<1∨8192<n
  ·rw[this.2 hn] at h;omega
  ·omega
 obtain⟨r1,r2⟩:=bY n h1.1 h1.2;have hm:=iZ c (ofI n - 1) h0 (by omega) (by omega);by_cases hs:n≤256
 ·rcases(lE n h1.1 hs).2.2.2 with e|e
  ·omega
  ·omega
 ·have e:=nF n (by omega) h1.2;rw[e] at hm h;by_cases hm1:(n+511) / 512=1
  ·rw[hm1] at hm;have u7:ah (7+1 - 1)=256:=rfl;rw[u7] at hm;omega
  ·rw[show 7+(n+511) / 512 - 1=7+((n+511) / 512 - 1) by omega,kV _ (by omega) (by omega)] at hm;omega
theorem qI(n c:Int)(h1:1≤n)(hc:0≤c)(hc2:c≤23)(hu:n≤ah c)(hb:∀d,0≤d→d<c→ah d<n):ofI n=c:=by
 have hn:n≤8192:=by
  have h3:=iZ c 23 hc hc2 (by omega);have h4:ah 23=8192:=rfl;omega
 obtain⟨r1,r2⟩:=bY n h1 hn;rcases Int.lt_trichotomy (ofI n) c with h|h|h
 ·have:=hb _ r1 h;have:=jY n h1 hn;omega
 ·exact h
 ·have:=tC n c hc h;omega
theorem mM(n:Int)(h:n<1∨8192<n):ag n=0:=by
 unfold ag;rw[(cy n).2 h];rfl
theorem dm(n:Int)(h1:1≤n)(h2:n≤8192):ag n=ah (ofI n):=by
 unfold ag;rw[if_neg (by have:=(bY n h1 h2).1;omega)]
theorem cG(c:Int)(h0:0≤c)(h1:c≤23):16≤ah c∧ah c≤8192:=by
 have:∀a:Fin 24,16≤ah (a.val:Int)∧ah (a.val:Int)≤8192:=by decide+kernel
 obtain⟨a,rfl⟩:=uP c h0 h1;exact this a
theorem qH(c:Int)(h0:8≤c)(h1:c≤23):aI c * 512=ah c:=by
 have:∀a:Fin 24,8≤a.val→aI (a.val:Int) * 512=ah (a.val:Int):=by decide+kernel
 obtain⟨a,rfl⟩:=uP c (by omega) h1;exact this a (by omega)
end Go.Proofs.YtndhbnhobhkmaaaGreatDoor
namespace Go.Proofs.YtndhbnhobhkmaaaGreatDoor
open Go.RowKit
def Tab(w:World):Prop:=∀j:Nat,j<8→w.cell? ⟨0,j,none⟩=some (.int .i64 (ah j))
theorem Tab.pos{w:World}(h:Tab w):0<w.heap.size:=World.block_lt_of_cell? w _ (h 0 (by decide))
theorem Tab.carry{S:Nat→Prop}{w w':World}(h:Tab w)(hf:Fr S w w')(h0:¬S 0):Tab w':=fun j hj=>by
 rw[World.cell?_of_block (hf.block 0 h.pos h0)];exact h j hj
theorem dP(c:Int)(w:World):Calls Tryz.prog 123 #[.int .i64 c] w fun e w'=>e=.returned (.bool (decide (0≤c∧c≤7)))∧w'=w:=by
 by_cases h0:0≤c
 ·by_cases h7:c≤7
  ·go_enter Tryz.func123,Tryz.ntmps123;go_wp2;go_ret;exact⟨by simp;omega,rfl⟩
  ·go_enter Tryz.func123,Tryz.ntmps123;go_wp2;go_ret;exact⟨by simp;omega,rfl⟩
 ·go_enter Tryz.func123,Tryz.ntmps123;go_wp2;go_ret;exact⟨by simp;omega,rfl⟩
theorem ud(c:Int)(w:World):Calls Tryz.prog 173 #[.int .i64 c] w fun e w'=>e=.returned (.bool (decide (7<c∧c<24)))∧w'=w:=by
 by_cases h0:7<c
 ·by_cases h7:c<24
  ·go_enter Tryz.func173,Tryz.ntmps173;go_wp2;go_ret;exact⟨by simp;omega,rfl⟩
  ·go_enter Tryz.func173,Tryz.ntmps173;go_wp2;go_ret;exact⟨by simp;omega,rfl⟩
 ·go_enter Tryz.func173,Tryz.ntmps173;go_wp2;go_ret;exact⟨by simp;omega,rfl⟩
theorem AA(n:Int)(w:World)(h:n<1∨8192<n):Calls Tryz.prog 45 #[.int .i64 n] w fun e w'=>e=.returned (.int .i64 (-1))∧w'=w:=by
 by_cases h1:n<1
 all_goals
  go_enter Tryz.func45,Tryz.ntmps45;go_wp2;refine cP 0 27 w rfl ?first ?pass
  case first=>
   go_wp2;go_step3;exact⟨rfl,rfl,rfl,rfl⟩
  case pass=>
   intro A hd hs;go_wp2;rw[ao];go_ret;exact⟨by simp[hs],rfl⟩
theorem of_run(n:Int)(w:World)(h1:256<n)(h2:n≤8192):Calls Tryz.prog 45 #[.int .i64 n] w fun e w'=>e=.returned (.int .i64 (7+(n+511) / 512))∧w'=w:=by
 go_enter Tryz.func45,Tryz.ntmps45;go_wp2;refine wp_scope_jumps 1 (fun a' w'=>w'=w∧∃(u4 u5 u6 u7 u8 u9 u10 u11 u12 u13 u14 u15 u16 u17 u18 u19 u20 u21 u22 u23 u24 u25 u26:Value),a'={ tmps:=#[.int .i64 n,undef,.int .i64 0,.int .i64 0,u4,u5,u6,u7,u8,u9,u10,u11,u12,u13,u14,u15,u16,u17,u18,u19,u20,u21,u22,u23,u24,u25,u26],defers:=[] }) (fun _ _=>0) rfl ?first ?pass
 case first=>
  go_wp2;go_step3;exact⟨rfl,rfl,_,_,_,_,_,_,_,_,_,_,_,_,_,_,_,_,_,_,_,_,_,_,_,rfl⟩
 case pass=>
  rintro a' w' ⟨hw',u4,u5,u6,u7,u8,u9,u10,u11,u12,u13,u14,u15,u16,u17,u18,u19,u20,u21,u22,u23,u24,u25,u26,rfl⟩;obtain rfl:=hw'.symm;clear hw';go_wp2;rw[ao];go_ret;exact⟨by go_num,rfl⟩
theorem wH(n:Int)(w:World)(hT:Tab w)(h1:1≤n)(h2:n≤256):Calls Tryz.prog 45 #[.int .i64 n] w fun e w'=>e=.returned (.int .i64 (ofI n))∧w'=w:=by
 have HT:=hid hT;clear hT;go_enter Tryz.func45,Tryz.ntmps45;go_wp2;refine wp_scope_jumps 2 (fun a' w'=>w'=w∧∃(j:Nat) (u4 u5 u6 u7 u8 u9 u10 u11 u12 u13 u14 u15 u16 u17 u18 u19 u20 u21 u22 u23 u24 u25 u26:Value),a'={ tmps:=#[.int .i64 n,undef,.int .i64 0,.int .i64 j,u4,u5,u6,u7,u8,u9,u10,u11,u12,u13,u14,u15,u16,u17,u18,u19,u20,u21,u22,u23,u24,u25,u26],defers:=[] }∧j<8∧Hid (∀d:Int,0≤d→d<j→ah d<n)) (fun a' _=>8 - (intOf (a'.tmps.getD 3 undef)).toNat) rfl ?first ?pass
 case first=>
  go_wp2;go_step3;exact⟨rfl,rfl,0,_,_,_,_,_,_,_,_,_,_,_,_,_,_,_,_,_,_,_,_,_,_,_,rfl,by omega,fun d h0 hd=>by omega⟩
 case pass=>
  rintro a' w' ⟨hw',j,u4,u5,u6,u7,u8,u9,u10,u11,u12,u13,u14,u15,u16,u17,u18,u19,u20,u21,u22,u23,u24,u25,u26,rfl,hj,hb⟩;obtain rfl:=hw'.symm;clear hw';have cj:=HT.out j hj;by_cases hlt:ah j<n
  ·have hj7:j<7:=by
    rcases Nat.lt_or_ge j 7 with h|h
    ·exact h
    ·obtain rfl:j=7:=by omega
     have:ah ((7:Nat):Int)=256:=rfl;omega
   have hb':Hid (∀d:Int,0≤d→d<((j+1:Nat):Int)→ah d<n):=fun d h0 hd=>by
    rcases Int.lt_or_le d j with h|h
    ·exact hb.out d h0 h
    ·obtain rfl:d=j:=by omega
     exact hlt
   generalize ah j=u at *;go_wp2;go_step3;exact⟨rfl,⟨rfl,j+1,_,_,_,_,_,_,_,_,_,_,_,_,_,_,_,_,_,_,_,_,_,_,_,by go_num,by omega,hb'⟩,by simp[intOf];omega⟩
  ·have he:Hid (ofI n=j):=qI n j h1 (by omega) (by omega) (by omega) hb.out;generalize ah j=u at *;go_wp2;rw[ao];go_ret;exact⟨by rw[he.out];rfl,rfl⟩
theorem yW(n:Int)(w:World)(hT:Tab w):Calls Tryz.prog 45 #[.int .i64 n] w fun e w'=>e=.returned (.int .i64 (ofI n))∧w'=w:=by
 by_cases h:n<1∨8192<n
 ·rw[(cy n).2 h];exact AA n w h
 ·by_cases h2:n≤256
  ·exact wH n w hT (by omega) h2
  ·rw[nF n (by omega) (by omega)];exact of_run n w (by omega) (by omega)
theorem cY(c:Int)(w:World):Calls Tryz.prog 124 #[.int .i64 c] w fun e w'=>e=.returned (.int .i64 (aI c))∧w'=w:=by
 have HS:=hid (dP c w);have HR:=hid (ud c w);by_cases hs:0≤c∧c≤7
 ·have hp:Hid (aI c=1):=show aI c=1 by
   unfold aI;repeat' split
   all_goals omega
  rw[decide_eq_true hs] at HS;go_enter Tryz.func124,Tryz.ntmps124;go_wp2_with fail;refine HS.out.mono ?_;rintro e w' ⟨rfl,hw⟩;obtain rfl:=hw.symm;go_wp2;go_ret;exact⟨by rw[hp.out];rfl,rfl⟩
 ·rw[decide_eq_false hs] at HS;by_cases hr:7<c∧c<24
  ·have hp:Hid (aI c=c - 7):=show aI c=c - 7 by
    unfold aI;repeat' split
    all_goals omega
   rw[decide_eq_true hr] at HR;go_enter Tryz.func124,Tryz.ntmps124;go_wp2_with fail;refine HS.out.mono ?_;rintro e w' ⟨rfl,hw⟩;obtain rfl:=hw.symm;go_wp2_with fail;refine HR.out.mono ?_;rintro e w' ⟨rfl,hw⟩;obtain rfl:=hw.symm;go_wp2;go_ret;exact⟨by rw[hp.out];go_num,rfl⟩
  ·have hp:Hid (aI c=0):=show aI c=0 by
    unfold aI;repeat' split
    all_goals omega
   rw[decide_eq_false hr] at HR;go_enter Tryz.func124,Tryz.ntmps124;go_wp2_with fail;refine HS.out.mono ?_;rintro e w' ⟨rfl,hw⟩;obtain rfl:=hw.symm;go_wp2_with fail;refine HR.out.mono ?_;rintro e w' ⟨rfl,hw⟩;obtain rfl:=hw.symm;go_wp2;go_ret;exact⟨by rw[hp.out];rfl,rfl⟩
theorem jD(c:Int)(w:World)(hT:Tab w):Calls Tryz.prog 82 #[.int .i64 c] w fun e w'=>e=.returned (.int .i64 (ah c))∧w'=w:=by
 have HS:=hid (dP c w);by_cases hs:0≤c∧c≤7
 ·rw[decide_eq_true hs] at HS;obtain⟨j,rfl⟩:∃j:Nat,c=j:=⟨c.toNat,by omega⟩;have hj:j<8:=by omega
  have cj:=hT j hj;generalize ah j=u at *;clear hT hs;go_enter Tryz.func82,Tryz.ntmps82;go_wp2_with fail;refine HS.out.mono ?_;rintro e w' ⟨rfl,hw⟩;obtain rfl:=hw.symm;go_wp2;go_ret;exact⟨rfl,rfl⟩
 ·rw[decide_eq_false hs] at HS;have HP:=hid (cY c w);have hu:Hid (ah c=aI c * 512):=show ah c=aI c * 512 by
   by_cases hr:8≤c∧c≤23
   ·exact(qH c hr.1 hr.2).symm
   ·have e1:aI c=0:=by
     unfold aI;repeat' split
     all_goals omega
    have e2:ah c=0:=by
     unfold ah;repeat' split
     all_goals omega
    rw[e1,e2];rfl
  have hr:0≤aI c∧aI c≤16:=by
   unfold aI;repeat' split
   all_goals omega
  rw[hu.out];generalize aI c=p at *;clear hT hs hu;go_enter Tryz.func82,Tryz.ntmps82;go_wp2_with fail;refine HS.out.mono ?_;rintro e w' ⟨rfl,hw⟩;obtain rfl:=hw.symm;go_wp2_with fail;refine HP.out.mono ?_;rintro e w' ⟨rfl,hw⟩;obtain rfl:=hw.symm;go_wp2;go_ret;exact⟨by go_num,rfl⟩
theorem nv(c:Int)(w:World)(hT:Tab w):Calls Tryz.prog 180 #[.int .i64 c] w fun e w'=>e=.returned (.int .i64 (perI c))∧w'=w:=by
 have HS:=hid (dP c w);by_cases hs:0≤c∧c≤7
 ·rw[decide_eq_true hs] at HS;have c0:w.cell? ⟨0,0,none⟩=some (.int .i64 16):=hT 0 (by decide);have c1:w.cell? ⟨0,1,none⟩=some (.int .i64 32):=hT 1 (by decide);have c2:w.cell? ⟨0,2,none⟩=some (.int .i64 48):=hT 2 (by decide);have c3:w.cell? ⟨0,3,none⟩=some (.int .i64 64):=hT 3 (by decide);have c4:w.cell? ⟨0,4,none⟩=some (.int .i64 96):=hT 4 (by decide);have c5:w.cell? ⟨0,5,none⟩=some (.int .i64 128):=hT 5 (by decide);have c6:w.cell? ⟨0,6,none⟩=some (.int .i64 192):=hT 6 (by decide);have c7:w.cell? ⟨0,7,none⟩=some (.int .i64 256):=hT 7 (by decide);have hc:c=0∨c=1∨c=2∨c=3∨c=4∨c=5∨c=6∨c=7:=by omega
  clear hT hs;rcases hc with rfl|rfl|rfl|rfl|rfl|rfl|rfl|rfl
  all_goals
   go_enter Tryz.func180,Tryz.ntmps180;go_wp2_with fail;refine HS.out.mono ?_;rintro e w' ⟨rfl,hw⟩;obtain rfl:=hw.symm;go_wp2;go_ret;exact⟨rfl,rfl⟩
 ·rw[decide_eq_false hs] at HS;have hu:Hid (perI c=0):=show perI c=0 by
   unfold perI;repeat' split
   all_goals omega
  clear hT hs;go_enter Tryz.func180,Tryz.ntmps180;go_wp2_with fail;refine HS.out.mono ?_;rintro e w' ⟨rfl,hw⟩;obtain rfl:=hw.symm;go_wp2;go_ret;exact⟨by rw[hu.out];rfl,rfl⟩
theorem ru(n:Int)(w:World)(hT:Tab w):Calls Tryz.prog 46 #[.int .i64 n] w fun e w'=>e=.returned (.int .i64 (ag n))∧w'=w:=by
 have HO:=hid (yW n w hT);have HU:=hid (jD (ofI n) w hT);have he:ag n=ah (ofI n):=by
  unfold ag;split
  ·by_cases h:n<1∨8192<n
   ·rw[(cy n).2 h];rfl
   ·have:=(bY n (by omega) (by omega)).1;omega
  ·rfl
 rw[he];clear he hT;go_enter Tryz.func46,Tryz.ntmps46;go_wp2_with fail;refine HO.out.mono ?_;rintro e w' ⟨rfl,hw⟩;obtain rfl:=hw.symm;go_wp2_with fail;refine HU.out.mono ?_;rintro e w' ⟨rfl,hw⟩;obtain rfl:=hw.symm;go_wp2;go_ret;exact⟨rfl,rfl⟩
structure K(w0 w:World):Prop where
 fr:Fr (fun _=>False) w0 w
 tab:Tab w
theorem K.start{w:World}(h:Tab w):K w w:=⟨Fr.refl _ _,h⟩
theorem K.on{w0 w w':World}(h:K w0 w)(f:Fr (fun _=>False) w w'):K w0 w':=⟨h.fr.trans f,h.tab.carry f id⟩
theorem k_of(n:Int){w0 w:World}(k:K w0 w):Calls Tryz.prog 45 #[.int .i64 n] w fun e w'=>e=.returned (.int .i64 (ofI n))∧K w0 w':=(yW n w k.tab).mono fun _ _ ⟨he,hw⟩=>⟨he,hw▸k⟩
theorem pT(n:Int){w0 w:World}(k:K w0 w):Calls Tryz.prog 82 #[.int .i64 n] w fun e w'=>e=.returned (.int .i64 (ah n))∧K w0 w':=(jD n w k.tab).mono fun _ _ ⟨he,hw⟩=>⟨he,hw▸k⟩
theorem Bj(n:Int){w0 w:World}(k:K w0 w):Calls Tryz.prog 180 #[.int .i64 n] w fun e w'=>e=.returned (.int .i64 (perI n))∧K w0 w':=(nv n w k.tab).mono fun _ _ ⟨he,hw⟩=>⟨he,hw▸k⟩
theorem Bk(n:Int){w0 w:World}(k:K w0 w):Calls Tryz.prog 124 #[.int .i64 n] w fun e w'=>e=.returned (.int .i64 (aI n))∧K w0 w':=(cY n w).mono fun _ _ ⟨he,hw⟩=>⟨he,hw▸k⟩
theorem gm(n:Int){w0 w:World}(k:K w0 w):Calls Tryz.prog 46 #[.int .i64 n] w fun e w'=>e=.returned (.int .i64 (ag n))∧K w0 w':=(ru n w k.tab).mono fun _ _ ⟨he,hw⟩=>⟨he,hw▸k⟩
end Go.Proofs.YtndhbnhobhkmaaaGreatDoor
namespace Go.Proofs.YtndhbnhobhkmaaaGreatDoor
abbrev May(q:Int):Prop:=1≤q∧q≤65536
def byI(c q:Int):Int:=if 0≤c∧c≤7∧May q then(q / ah c+perI c - 1) / perI c else 0
def bV(q:Int):Int:=if May q then q / 512 else 0
def cd(q:Int):Nat→Int
 |0=>0
 |k+1=>cd q k+byI k q
def bh(q:Int):Int:=cd q 8+bV q
theorem fin8(c:Int)(h0:0≤c)(h1:c≤7):c=0∨c=1∨c=2∨c=3∨c=4∨c=5∨c=6∨c=7:=by omega
theorem bM(c:Int)(h0:0≤c)(h1:c≤7):16≤ah c∧ah c≤256∧2≤perI c∧perI c≤32∧perI c * ah c≤512:=by
 rcases fin8 c h0 h1 with rfl|rfl|rfl|rfl|rfl|rfl|rfl|rfl<;>decide
theorem iJ(c q:Int)(h:¬(0≤c∧c≤7∧May q)):byI c q=0:=by unfold byI;rw[if_neg h]
theorem mO(c q:Int)(h0:0≤c)(h1:c≤7)(hq:May q):byI c q=(q / ah c+perI c - 1) / perI c:=by unfold byI;rw[if_pos ⟨h0,h1,hq⟩]
theorem byI_spec(c q:Int)(h0:0≤c)(h1:c≤7)(hq:May q):q / ah c≤byI c q * perI c∧(byI c q - 1) * perI c<q / ah c+0 * perI c∨(byI c q=0∧q / ah c=0):=by
 obtain⟨_,_,p1,_,_⟩:=bM c h0 h1;have hk:0≤q / ah c:=Int.ediv_nonneg (by unfold May at hq;omega) (by omega);rw[mO c q h0 h1 hq];generalize q / ah c=k at *;generalize perI c=p at *;have hp:0<p:=by omega
 have e:=Int.emod_add_mul_ediv (k+p - 1) p;have r0:=Int.emod_nonneg (k+p - 1) (show p≠0 by omega);have r1:=Int.emod_lt_of_pos (k+p - 1) hp;generalize (k+p - 1) / p=z at *;generalize (k+p - 1) % p=r at *;rw[Int.mul_comm] at e;have e2:(z - 1) * p=z * p - p:=by rw[Int.sub_mul,Int.one_mul]
 left;rw[e2];generalize z * p=zp at *;omega
theorem dC(c q:Int):0≤byI c q:=by
 by_cases h:0≤c∧c≤7∧May q
 ·obtain⟨_,_,p1,_,_⟩:=bM c h.1 h.2.1;rw[mO c q h.1 h.2.1 h.2.2];have hk:0≤q / ah c:=Int.ediv_nonneg (by have:=h.2.2;unfold May at this;omega) (by omega);exact Int.ediv_nonneg (by omega) (by omega)
 ·rw[iJ c q h];exact Int.le_refl _
theorem byI_more(c q n:Int)(h0:0≤c)(h1:c≤7)(hq:May q)(h:(n * perI c+1) * ah c≤q):n+1≤byI c q:=by
 obtain⟨u1,_,p1,_,_⟩:=bM c h0 h1;have hk:n * perI c+1≤q / ah c:=(Int.le_ediv_iff_mul_le (by omega)).2 h;rw[mO c q h0 h1 hq];refine(Int.le_ediv_iff_mul_le (by omega)).2 ?_;rw[Int.add_mul,Int.one_mul];omega
theorem byI_le(c q n:Int)(h0:0≤c)(h1:c≤7)(hq:May q)(h:q / ah c≤n * perI c):byI c q≤n:=by
 obtain⟨u1,_,p1,_,_⟩:=bM c h0 h1;rw[mO c q h0 h1 hq];have:(q / ah c+perI c - 1) / perI c<n+1:=(Int.ediv_lt_iff_lt_mul (by omega)).2 (by rw[Int.add_mul,Int.one_mul];omega);omega
theorem eW(c q:Int):byI c q≤4096:=by
 by_cases h:0≤c∧c≤7∧May q
 ·obtain⟨u1,_,p1,_,_⟩:=bM c h.1 h.2.1;refine byI_le c q 4096 h.1 h.2.1 h.2.2 ?_;have hq:=h.2.2;unfold May at hq;have:q / ah c≤q / 16:=by
   refine(Int.le_ediv_iff_mul_le (by decide)).2 ?_;have e:=Int.ediv_mul_le q (show ah c≠0 by omega);have k0:0≤q / ah c:=Int.ediv_nonneg (by omega) (by omega);have:=Int.mul_le_mul_of_nonneg_left u1 k0;omega
  omega
 ·rw[iJ c q h];decide
theorem cR(q:Int):∀k,0≤cd q k
 |0=>Int.le_refl _
 |k+1=>by have h1:=cR q k;have h2:=dC k q;simp only[cd];omega
theorem dL(q:Int):∀k:Nat,cd q k≤4096 * k
 |0=>by simp[cd]
 |k+1=>by have h1:=dL q k;have h2:=eW k q;simp only[cd];omega
theorem nj(q:Int):0≤bV q∧bV q≤128:=by
 unfold bV;by_cases h:May q
 ·rw[if_pos h];unfold May at h;omega
 ·rw[if_neg h];decide
theorem kZ(q:Int):0≤bh q∧bh q≤40000:=by
 have h1:=cR q 8;have h2:=dL q 8;have h3:=nj q;unfold bh;omega
theorem lj(q:Int)(h:¬May q):∀k,cd q k=0
 |0=>rfl
 |k+1=>by simp only[cd,lj q h k,iJ k q (fun e=>h e.2.2)];rfl
theorem qC(q:Int)(h:¬May q):bh q=0:=by
 unfold bh bV;rw[lj q h,if_neg h];rfl
def quA(q:Int):Int:=if May q then q else 0
def quE(q:Int):Int:=if May q then 0 else 12
theorem pj{q:Int}(h:May q):quA q=q∧quE q=0:=by simp[quA,quE,h]
theorem As{q:Int}(h:¬May q):quA q=0∧quE q=12∧bh q=0:=by simp[quA,quE,h,qC q h]
end Go.Proofs.YtndhbnhobhkmaaaGreatDoor
namespace Go.Proofs.YtndhbnhobhkmaaaGreatDoor
open Go.RowKit
theorem wC(c:Int)(h:c<0∨8≤c):perI c=0:=by
 unfold perI;rcases h with h|h
 ·rw[if_pos h]
 ·rw[if_neg (by omega),if_neg (by omega),if_neg (by omega),if_neg (by omega),if_neg (by omega),if_neg (by omega),if_neg (by omega),if_neg (by omega),if_neg (by omega)]
theorem AL(q:Int)(w:World):Calls Tryz.prog 153 #[.int .i64 q] w fun e w'=>e=.returned (.bool (decide (May q)))∧w'=w:=by
 by_cases h0:1≤q
 ·by_cases h1:q≤65536
  ·have hm:Hid (decide (May q)=true):=decide_eq_true (p:=May q) ⟨h0,h1⟩;generalize decide (May q)=b at *;go_enter Tryz.func153,Tryz.ntmps153;go_wp2;go_ret;exact⟨by rw[hm.out];rfl,rfl⟩
  ·have hm:Hid (decide (May q)=false):=decide_eq_false (p:=May q) fun h=>h1 h.2
   generalize decide (May q)=b at *;go_enter Tryz.func153,Tryz.ntmps153;go_wp2;go_ret;exact⟨by rw[hm.out];rfl,rfl⟩
 ·have hm:Hid (decide (May q)=false):=decide_eq_false (p:=May q) fun h=>h0 h.1
  generalize decide (May q)=b at *;go_enter Tryz.func153,Tryz.ntmps153;go_wp2;go_ret;exact⟨by rw[hm.out];rfl,rfl⟩
theorem m_runs(q:Int)(w:World):Calls Tryz.prog 154 #[.int .i64 q] w fun e w'=>e=.returned (.int .i64 (bV q))∧w'=w:=by
 have HM:=hid (AL q w);by_cases hq:May q
 ·rw[decide_eq_true hq] at HM;have hr:Hid (bV q=q / 512):=by show _=_;unfold bV;rw[if_pos hq]
  unfold May at hq;have hd:Int.tdiv q 512=q / 512:=Int.tdiv_eq_ediv_of_nonneg (by omega);go_enter Tryz.func154,Tryz.ntmps154;go_wp2_with fail;refine HM.out.mono ?_;rintro e w' ⟨rfl,hw⟩;obtain rfl:=hw.symm;clear hw;go_wp2;go_ret;exact⟨by rw[hr.out];go_num,rfl⟩
 ·rw[decide_eq_false hq] at HM;have hr:Hid (bV q=0):=by show _=_;unfold bV;rw[if_neg hq]
  clear hq;go_enter Tryz.func154,Tryz.ntmps154;go_wp2_with fail;refine HM.out.mono ?_;rintro e w' ⟨rfl,hw⟩;obtain rfl:=hw.symm;clear hw;go_wp2;go_ret;exact⟨by rw[hr.out];rfl,rfl⟩
theorem m_by(c q:Int)(w:World)(hT:Tab w):Calls Tryz.prog 209 #[.int .i64 c,.int .i64 q] w fun e w'=>e=.returned (.int .i64 (byI c q))∧w'=w:=by
 have HM:=hid (AL q w);have HP:=hid (nv c w hT);by_cases h0:c<0∨8≤c
 ·have hb:=hid (iJ c q (fun h=>by omega));rw[wC c h0] at HP;clear hT h0;go_enter Tryz.func209,Tryz.ntmps209;go_wp2_with fail;refine HP.out.mono ?_;rintro e w' ⟨rfl,hw⟩;obtain rfl:=hw.symm;clear hw;go_wp2;go_ret;exact⟨by rw[hb.out];rfl,rfl⟩
 by_cases hq:May q
 ·rw[decide_eq_true hq] at HM;have HU:=hid (jD c w hT);obtain⟨u1,u2,p1,p2,p3⟩:=bM c (by omega) (by omega);have hb:=hid (mO c q (by omega) (by omega) hq);have hbn:=dC c q;have hbs:=eW c q;rw[hb.out] at hbn hbs;have hqq:=hq;unfold May at hqq;have hk0:0≤q / ah c:=Int.ediv_nonneg (by omega) (by omega);have hk1:q / ah c≤65536:=by
   have:=Int.ediv_le_self (ah c) (show 0≤q by omega);omega
  have hd:Int.tdiv q (ah c)=q / ah c:=Int.tdiv_eq_ediv_of_nonneg (by omega);have hd2:Int.tdiv (q / ah c+perI c - 1) (perI c)=(q / ah c+perI c - 1) / perI c:=Int.tdiv_eq_ediv_of_nonneg (by omega);clear hq hT h0;generalize ah c=u at *;generalize perI c=p at *;generalize q / u=k at *;generalize (k+p - 1) / p=r at *;have hw1:IntKind.i64.wrap k=k:=by rw[IntKind.wrap_i64];omega
  have hw2:IntKind.i64.wrap r=r:=by rw[IntKind.wrap_i64];omega
  go_enter Tryz.func209,Tryz.ntmps209;go_wp2_with fail;refine HP.out.mono ?_;rintro e w' ⟨rfl,hw⟩;obtain rfl:=hw.symm;clear hw;go_wp2_with fail;refine HM.out.mono ?_;rintro e w' ⟨rfl,hw⟩;obtain rfl:=hw.symm;clear hw;go_wp2_with fail;refine HU.out.mono ?_;rintro e w' ⟨rfl,hw⟩;obtain rfl:=hw.symm;clear hw;go_wp2;go_ret;exact⟨by rw[hb.out];go_num,rfl⟩
 ·rw[decide_eq_false hq] at HM;have hb:=hid (iJ c q (fun h=>hq h.2.2));obtain⟨u1,u2,p1,p2,p3⟩:=bM c (by omega) (by omega);clear hq hT h0 u1 u2 p3;generalize perI c=p at *;go_enter Tryz.func209,Tryz.ntmps209;go_wp2_with fail;refine HP.out.mono ?_;rintro e w' ⟨rfl,hw⟩;obtain rfl:=hw.symm;clear hw;go_wp2_with fail;refine HM.out.mono ?_;rintro e w' ⟨rfl,hw⟩;obtain rfl:=hw.symm;clear hw;go_wp2;go_ret;exact⟨by rw[hb.out];rfl,rfl⟩
theorem m_adds(c q:Int)(w:World)(hT:Tab w):Calls Tryz.prog 155 #[.int .i64 c,.int .i64 q] w fun e w'=>e=.returned (.complex .f64 (fb 0) (fb (byI c q)))∧w'=w:=by
 have HB:=hid (m_by c q w hT);have hb0:=dC c q;have hb1:=eW c q;have hf:Hid (fb (byI c q)=floatOfInt .f64 (byI c q)):=rfl;have h0:=hid bP;clear hT;generalize byI c q=b at *;generalize fb b=x at *;go_enter Tryz.func155,Tryz.ntmps155;go_wp2_with fail;refine HB.out.mono ?_;rintro e w' ⟨rfl,hw⟩;obtain rfl:=hw.symm;clear hw;go_wp2;go_ret;exact⟨by rw[h0.out,hf.out];rfl,rfl⟩
theorem d_adds(c q:Int){w0 w:World}(k:K w0 w):Calls Tryz.prog 155 #[.int .i64 c,.int .i64 q] w fun e w'=>e=.returned (.complex .f64 (fb 0) (fb (byI c q)))∧K w0 w':=(m_adds c q w k.tab).mono fun _ _ h=>⟨h.1,h.2▸k⟩
theorem Cv{a s b:Int}(ha:a.natAbs<9007199254740992)(hs:s.natAbs<9007199254740992)(hb:b.natAbs<9007199254740992)(w:World):(binOp .add 68 (.complex .f64 (fb a) (fb s)) (.complex .f64 (fb 0) (fb b))).run Tryz.prog w=.ok (.complex .f64 (fb a) (fb (s+b))) w:=by
 have h:=run_complex_sum (P:=Tryz.prog) w .add (.inl rfl) 68 .f64 _ _ _ _ _ _ (ql (Wh.of a ha) (Wh.of s hs) (Wh.of 0 (by decide)) (Wh.of b hb))
 rwa [Int.add_zero] at h
theorem d_of(q:Int){w0 w:World}(k:K w0 w):Calls Tryz.prog 110 #[.int .i64 q] w fun e w'=>e=.returned (.tuple #[.complex .f64 (fb (quA q)) (fb (bh q)),.int .i64 (quE q)])∧K w0 w':=by
 have HK:=hid k;have HM:=hid (AL q w);by_cases hq:May q
 ·rw[decide_eq_true hq] at HM;have HR:=hid (m_runs q w);have HO:=hid (t_of q (bV q) w);have r0:0≤bV q∧bV q≤128:=by
   unfold bV;rw[if_pos hq];unfold May at hq;omega
  have hrt:Rt q (bV q):=by unfold Rt;unfold May at hq;omega
  rw[(dw hrt).1,(dw hrt).2.1,(dw hrt).2.2] at HO;have HA:=hid fun(j:Nat) w (k:K w0 w)=>d_adds j q k
  have hy1:Hid (fb (quA q)=fb q):=by show _=_;rw[(pj hq).1]
  have hy2:=hid (pj hq).2;have ht:Hid (bh q=cd q 8+bV q):=rfl;have HS:Hid (∀(j:Nat) (w:World),j<8→(binOp .add 68 (.complex .f64 (fb q) (fb (cd q j+bV q))) (.complex .f64 (fb 0) (fb (byI j q)))).run Tryz.prog w=.ok (.complex .f64 (fb q) (fb (cd q (j+1)+bV q))) w):=fun j w hj=>by
   have s0:=cR q j;have s1:=dL q j;have b0:=dC j q;have b1:=eW j q;have h:=Cv (a:=q) (s:=cd q j+bV q) (b:=byI j q) (by unfold May at hq;omega) (by omega) (by omega) w;rw[h];have e:cd q j+bV q+byI j q=cd q (j+1)+bV q:=by simp only[cd];omega
   rw[e]
  have h0:Hid (fb (bV q)=fb (cd q 0+bV q)):=by
   show _=_
   simp only[cd,Int.zero_add]
  clear hrt r0 k;unfold May at hq;generalize bV q=r at *;generalize fb q=x at *;go_enter Tryz.func110,Tryz.ntmps110;go_wp2_with fail;refine HM.out.mono ?_;rintro e w' ⟨rfl,hw⟩;obtain rfl:=hw.symm;clear hw;go_wp2_with fail;refine HR.out.mono ?_;rintro e w' ⟨rfl,hw⟩;obtain rfl:=hw.symm;clear hw;go_wp2_with fail;refine HO.out.mono ?_;rintro e w' ⟨rfl,hw⟩;obtain rfl:=hw.symm;clear hw;go_wp2;go_loopw [4,17] (fun a i wr=>∃j:Nat,j≤8∧i=.int .i64 j∧a=.complex .f64 x (fb (cd q j+r))∧Hid (K w0 wr)) (fun _ i _=>8 - (intOf i).toNat)
  case atStart=>exact⟨0,by omega,rfl,by rw[h0.out],HK⟩
  case round=>
   obtain⟨j,hj,rfl,rfl,HK⟩:=hrel;by_cases hlt:j<8
   ·have HA':=hid fun w k=>HA.out j w k
    obtain⟨z,hz⟩:∃z,Hid (fb (cd q (j+1)+r)=z):=⟨_,rfl⟩;have HS':∀w,(binOp .add 68 (.complex .f64 x (fb (cd q j+r))) (.complex .f64 (fb 0) (fb (byI j q)))).run Tryz.prog w=.ok (.complex .f64 x z) w:=fun w=>by rw[HS.out j w hlt,hz.out]
    generalize fb (cd q j+r)=y at *;generalize fb (byI j q)=b at *;generalize fb 0=o at *;go_wp2_with fail;refine(HA'.out _ HK.out).mono ?_;rintro e w3 ⟨rfl,hk⟩;have HK3:=hid hk;clear hk HK HA';go_wp2;go_roundw
    case rel=>exact⟨j+1,by omega,by go_num,by rw[hz.out],HK3⟩
    case measure=>simp[intOf];omega
   ·obtain rfl:j=8:=by omega
    go_wp2;go_ret2;exact⟨by rw[hy1.out,hy2.out,ht.out];rfl,HK.out⟩
 ·rw[decide_eq_false hq] at HM;obtain⟨e1,e2,e3⟩:=As hq;have h1:=hid e1;have h2:=hid e2;have h3:=hid e3;have h0:=hid bP;clear hq k e1 e2 e3;go_enter Tryz.func110,Tryz.ntmps110;go_wp2_with fail;refine HM.out.mono ?_;rintro e w' ⟨rfl,hw⟩;obtain rfl:=hw.symm;clear hw;go_wp2;go_ret2;exact⟨by rw[h1.out,h2.out,h3.out,h0.out];rfl,HK.out⟩
theorem qu_rt'(q:Int):Rt (quA q) (bh q):=by
 have:=kZ q;by_cases h:May q
 ·rw[(pj h).1];unfold May at h;unfold Rt;omega
 ·rw[(As h).1];unfold Rt;omega
theorem d_fits(q p:Int){w0 w:World}(k:K w0 w):Calls Tryz.prog 69 #[.int .i64 q,.int .i64 p] w fun e w'=>e=.returned (.bool (decide (May q∧bh q≤p)))∧K w0 w':=by
 have HO:=hid fun w (k:K w0 w)=>d_of q k
 have HP:=hid fun w=>Ah (qu_rt' q) w
 have HK:=hid k;clear k;by_cases hq:May q
 ·have hf:Hid (decide (May q∧bh q≤p)=decide (bh q≤p)):=decide_eq_decide.2 ⟨fun h=>h.2,fun h=>⟨hq,h⟩⟩;rw[(pj hq).2] at HO;clear hq;generalize fb (quA q)=x at *;generalize decide (May q∧bh q≤p)=b at *;generalize bh q=t at *;generalize fb t=y at *;go_enter Tryz.func69,Tryz.ntmps69;go_wp2_with fail;refine(HO.out _ HK.out).mono ?_;rintro e w1 ⟨rfl,hk⟩;have HK1:=hid hk;clear hk HK;go_wp2_with fail;refine(HP.out _).mono ?_;rintro e w2 ⟨rfl,hw⟩;have HK2:=hid (HK1.out.on (frOf hw));clear hw HK1;go_wp2;go_ret;exact⟨by rw[hf.out];rfl,HK2.out⟩
 ·have hf:Hid (decide (May q∧bh q≤p)=false):=decide_eq_false fun h=>hq h.1
  rw[(As hq).2.1] at HO;clear hq HP;generalize fb (quA q)=x at *;generalize decide (May q∧bh q≤p)=b at *;generalize fb (bh q)=y at *;go_enter Tryz.func69,Tryz.ntmps69;go_wp2_with fail;refine(HO.out _ HK.out).mono ?_;rintro e w1 ⟨rfl,hk⟩;have HK1:=hid hk;clear hk HK;go_wp2;go_ret;exact⟨by rw[hf.out];rfl,HK1.out⟩
end Go.Proofs.YtndhbnhobhkmaaaGreatDoor
