/-
  Pages taken one behind the other, and given back; local pages mapped to them: mathematics.
  The heap's own small calls: isSmall, local, wipe, letGo, has, find.
  The heap's own calls that take pages, hold and let go of slots: take, close, hold.
-/
import Derived.Test.YtndhbnhobhkmaaaGreatDoorHpSub
set_option maxRecDepth 20000
set_option maxHeartbeats 1000000
namespace Go.Proofs.YtndhbnhobhkmaaaGreatDoor
open Go.RowKit
open An
def tkH(k:Nat)(W:List Int):Nat→List Bool→List Bool
 |0,has=>has
 |n+1,has=>tkH k W n (Cq.takS k has W)
def tkL(k:Nat)(W:List Int):Nat→List Bool→List Int
 |0,_=>[]
 |n+1,has=>Cq.takV k has W::tkL k W n (Cq.takS k has W)
def giL:List Int→List Bool→List Bool
 |[],has=>has
 |p::r,has=>giL r (Cq.giS has p)
def mpL:Int→List Int→Tb→Tb
 |_,[],T=>T
 |v,p::r,T=>mpL (v+1) r (tbM T v p)
section
variable{k n:Nat}{W:List Int}{has:List Bool}{T:Tb}{v:Int}
theorem fV:∀(n:Nat) (has:List Bool),tkH k W (n+1) has=Cq.takS k (tkH k W n has) W
 |0,_=>rfl
 |n+1,has=>by rw[tkH,fV n];rfl
theorem bw:∀(n:Nat) (has:List Bool),(tkL k W n has).length=n
 |0,_=>rfl
 |n+1,has=>by rw[tkL,List.length_cons,bw n]
theorem jF:∀(n:Nat) (has:List Bool),tkL k W (n+1) has=tkL k W n has++[Cq.takV k (tkH k W n has) W]
 |0,_=>rfl
 |n+1,has=>by rw[tkL,jF n];rfl
theorem dq:∀(n:Nat) (has:List Bool),(tkH k W n has).length=has.length
 |0,_=>rfl
 |n+1,has=>by rw[tkH,dq n,Cq.bX]
theorem oK:∀(n:Nat) (has:List Bool),n≤Cq.frI k has W→Cq.frI k (tkH k W n has) W+n=Cq.frI k has W
 |0,_,_=>rfl
 |n+1,has,h=>by
  obtain⟨p,_,_,_,_,_,_,h7,_⟩:=Cq.cu (k:=k) (has:=has) (l:=W) (by omega);have:=oK n (Cq.takS k has W) (by omega);rw[tkH];omega
theorem yK:∀(n:Nat) (has:List Bool),n≤Cq.frI k has W→∀p∈tkL k W n has,0≤p∧p<has.length
 |0,_,_=>fun p hp=>by cases hp
 |n+1,has,h=>fun p hp=>by
  obtain⟨q,h1,_,h3,_,_,_,h7,_⟩:=Cq.cu (k:=k) (has:=has) (l:=W) (by omega);rw[tkL,List.mem_cons] at hp;rcases hp with rfl|hp
  ·rw[h3];omega
  ·have:=yK n (Cq.takS k has W) (by omega) p hp;rw[Cq.bX] at this;exact this
theorem uI:∀(l:List Int) (h:List Bool) (p:Nat),giL l (h.set p false)=(giL l h).set p false
 |[],_,_=>rfl
 |q::r,h,p=>by
  rw[giL,giL];have:Cq.giS (h.set p false) q=(Cq.giS h q).set p false:=by
   unfold Cq.giS;rw[List.length_set];split
   ·by_cases e:p=q.toNat
    ·rw[e]
    ·exact List.set_comm _ _ e
   ·rfl
  rw[this,uI r]
theorem zw:∀(n:Nat) (has:List Bool),n≤Cq.frI k has W→giL (tkL k W n has) (tkH k W n has)=has
 |0,_,_=>rfl
 |n+1,has,h=>by
  obtain⟨q,h1,h2,h3,_,h5,_,h7,_⟩:=Cq.cu (k:=k) (has:=has) (l:=W) (by omega);have ih:=zw n (Cq.takS k has W) (by omega);rw[tkL,tkH,giL,h3];have:Cq.giS (tkH k W n (Cq.takS k has W)) (q:Int)=(tkH k W n (Cq.takS k has W)).set q false:=by
   unfold Cq.giS;rw[dq,Cq.bX,if_pos (by omega),Int.toNat_natCast]
  rw[this,uI,ih,h5,List.set_set];have hq:has.getD q true=false:=by
   unfold Cq.aX at h2;simp only[Bool.and_eq_true,Bool.not_eq_true'] at h2;exact h2.1
  rw[List.getD_eq_getElem?_getD,List.getElem?_eq_getElem h1,Option.getD_some] at hq;rw[←hq];exact List.set_getElem_self h1
theorem xF(l:List Int)(h:List Bool)(i:Nat)(hi:i<l.length):giL (l.take (i+1)) h=Cq.giS (giL (l.take i) h) l[i]:=by
 induction l generalizing h i with
 |nil=>simp at hi
 |cons p r ih=>
  cases i with
  |zero=>simp[giL]
  |succ i=>
   simp only[List.length_cons] at hi;simp only[List.take_succ_cons,giL,List.getElem_cons_succ];exact ih _ i (by omega)
theorem wR(l:List Int)(v:Int)(T:Tb)(i:Nat)(hi:i<l.length):mpL v (l.take (i+1)) T=tbM (mpL v (l.take i) T) (v+i) l[i]:=by
 induction l generalizing v T i with
 |nil=>simp at hi
 |cons p r ih=>
  cases i with
  |zero=>simp[mpL]
  |succ i=>
   simp only[List.length_cons] at hi;simp only[List.take_succ_cons,mpL,List.getElem_cons_succ];rw[ih (v+1) (tbM T v p) i (by omega),show v+1+(i:Int)=v+((i+1:Nat):Int) by omega]
theorem za:∀(l:List Int) (v:Int) (T:Tb),TbOk T→TbOk (mpL v l T)
 |[],_,_,h=>h
 |p::r,v,T,h=>za r (v+1) (tbM T v p) (h.map v p)
theorem jI:∀(n:Nat) (v:Int) (has:List Bool) (T:Tb),takN k W n v has T=(tkH k W n has,mpL v (tkL k W n has) T)
 |0,_,_,_=>rfl
 |n+1,v,has,T=>by rw[takN,jI n];rfl
end
def pgN(pg:Nat→Option (Nat×Pg)):Nat:=Cq.cnt (fun v=>(pg v).isSome) 6400
theorem pgN_le(pg:Nat→Option (Nat×Pg)):pgN pg≤6400:=Cq.cnt_le _ _
structure Cx(W:World)(O:World→(Nat→Prop)→Prop):Prop where
 g:∀{w:World} {ts:List (World→(Nat→Prop)→Prop)},aa W w ts→ts[1]? =some O→G17 w
theorem Cx.at{W w:World}{O:World→(Nat→Prop)→Prop}(cx:Cx W O){x:Px}{M:Ms}{R:Rs}{ts:List (World→(Nat→Prop)→Prop)}(h:aa W w (hl x M R O ts)):G17 w:=cx.g h rfl
section
variable{W w:World}
theorem dQ(gr:G17 w){c:Nat}(hc:c≤23):Calls Tryz.prog 129 #[.int .i64 (c:Int)] w fun e w'=>e=.returned (.bool (decide (c≤7)))∧w'=w:=by
 have H1:=hid (nv c w gr.1);have hp:perI c≥0∧(0<perI c↔c≤7):=by
  have:∀c:Fin 24,perI (c:Nat)≥0∧(0<perI (c:Nat)↔(c:Nat)≤7):=by decide+kernel
  exact this ⟨c,by omega⟩
 have HE:Hid (decide (perI c>0)=decide (c≤7)):=decide_eq_decide.2 hp.2;clear hp gr hc;generalize perI c=q at *;generalize (c:Int)=d at *;go_enter Tryz.func129,Tryz.ntmps129;go_wp2_with fail;refine H1.out.mono ?_;rintro e w1 ⟨rfl,hw⟩;obtain rfl:=hw.symm;go_wp2;go_ret;exact⟨by rw[←HE.out];simp,rfl⟩
theorem nu_pos(c:Int):0<nuI c:=by unfold nuI;split<;>omega
theorem gZ{c s:Nat}(hc:c≤23)(hs:s<sn c):PlT c s 0:=by
 have:=(aj hc).2.2.2.2.1;exact⟨by omega,by rw[this];omega,by omega,nu_pos _⟩
theorem fB(gr:G17 w){c s:Nat}(hc:c≤23)(hs:s<sn c):Calls Tryz.prog 181 #[.int .i64 (c:Int),.int .i64 (s:Int)] w fun e w'=>e=.returned (.int .i64 (lo c s))∧Fr (fun _=>False) w w':=by
 have hsn:=(aj hc).2.1.2;have H1:=hid (l_of c s 0 ⟨by omega,by omega⟩ ⟨by omega,by omega⟩ ⟨by omega,by omega⟩ gr.k);have hp:=gZ hc hs;have hl:=nO hc hs (i:=0) (by have:=(aj hc).1.1;omega);have e1:ofA c s 0=adI c s 0:=if_pos hp;have e2:ofE c s 0=0:=if_pos hp;rw[e1,e2] at H1;have h0:0≤adI c s 0:=by unfold lo at hl;omega
 have hd:Int.tdiv (adI c s 0) 512=lo c s:=by rw[Int.tdiv_eq_ediv_of_nonneg h0];rfl
 have hw:=pw (x:=lo c s) (by have:=hl.2.2;unfold VOk at this;omega);generalize lo c s=q at *;generalize adI c s 0=y at *;clear hp hl e1 e2 h0 gr hc hs hsn;generalize (c:Int)=d at *;generalize (s:Int)=t at *;go_enter Tryz.func181,Tryz.ntmps181;go_wp2_with fail;refine H1.out.mono ?_;rintro e w1 ⟨rfl,hk⟩;have HK:=hid hk;clear hk;go_wp2;go_ret;exact⟨by simp,HK.out.fr⟩
end
section
variable{W w:World}{x:Px}{M:Ms}{R:Rs}{O:World→(Nat→Prop)→Prop}{ts:List (World→(Nat→Prop)→Prop)}
theorem rP(h:aa W w (hl x M R O ts)):M.bs.length≤2097152:=by
 obtain⟨U,h1,_⟩:=h.get 0 rfl;exact h1.le
theorem zo(cx:Cx W O)(h:aa W w (hl x M R O ts)){p:Nat}(hp:p * 512+512≤M.bs.length)(hk:M.ss.length≤1000000):Calls Tryz.prog 147 #[.pointer (some ⟨x.h,0,none⟩),.int .i64 (p:Int)] w fun e w'=>e=.returned (.tuple #[])∧aa W w' (hl x ⟨Cq.giS M.has p,over M.bs (p * 512) (nz 512),M.ss++[((p:Int) * 512,512,true)]⟩ R O ts):=by
 have hb:=aH h;have c0:=jn hb;have hle:=rP h;have hw:=pw (x:=(p:Int) * 512) (by omega);have H1:=hid (zK h hp hk);have CX:=hid cx;clear cx h hb hle hp hk;generalize (p:Int)=p' at *;generalize hq:p' * 512=q at *;go_enter Tryz.func147,Tryz.ntmps147;go_wp2_with fail;refine H1.out.mono ?_;rintro e w1 ⟨rfl,h1⟩;have c1:=eG (aH h1);have H2:=hid (rN h1 (CX.out.at h1) p');clear h1 c0 H1;go_wp2_with fail;refine H2.out.mono ?_;rintro e w2 ⟨rfl,h2⟩;have T2:=hid h2;clear h2 H2;go_wp2;go_end0;exact⟨rfl,T2.out⟩
theorem uj(cx:Cx W O)(h:aa W w (hl x M R O ts))(ok:TbOk R.T){v:Int}(hv:I64 v){p:Nat}(hp:tbF R.T v=p)(hb:p * 512+512≤M.bs.length)(hk:M.ss.length≤1000000):Calls Tryz.prog 109 #[.pointer (some ⟨x.h,0,none⟩),.int .i64 v] w fun e w'=>e=.returned (.tuple #[])∧aa W w' (hl x (drM M R.T v) ⟨R.W,tbU R.T v,R.sh,R.ln,R.pg,R.cnt⟩ O ts):=by
 have c3:=dg (aH h);have H1:=hid (vy h ok hv);have e1:tbUV R.T v=p:=by unfold tbUV;rw[hp,if_neg (by omega)]
 have e2:tbUE R.T v=0:=by unfold tbUE;rw[hp,if_neg (by omega)]
 have e3:drM M R.T v=⟨Cq.giS M.has p,over M.bs (p * 512) (nz 512),M.ss++[((p:Int) * 512,512,true)]⟩:=by unfold drM;rw[e1,Int.toNat_natCast]
 rw[e1,e2] at H1;rw[e3];have H2:Hid (∀w1,aa W w1 (hl x M ⟨R.W,tbU R.T v,R.sh,R.ln,R.pg,R.cnt⟩ O ts)→Calls Tryz.prog 147 #[.pointer (some ⟨x.h,0,none⟩),.int .i64 (p:Int)] w1 fun e w'=>e=.returned (.tuple #[])∧aa W w' (hl x ⟨Cq.giS M.has p,over M.bs (p * 512) (nz 512),M.ss++[((p:Int) * 512,512,true)]⟩ ⟨R.W,tbU R.T v,R.sh,R.ln,R.pg,R.cnt⟩ O ts)):=fun w1 h1=>zo cx h1 hb hk
 clear h ok hv hp hb hk e1 e2 e3 cx;generalize (p:Int)=p' at *;go_enter Tryz.func109,Tryz.ntmps109;go_wp2_with fail;refine H1.out.mono ?_;rintro e w1 ⟨rfl,h1⟩;have H3:=hid (H2.out w1 h1);clear h1 H1 H2 c3;go_wp2_with fail;refine H3.out.mono ?_;rintro e w2 ⟨rfl,h2⟩;have T2:=hid h2;clear h2 H3;go_wp2;go_end0;exact⟨rfl,T2.out⟩
def hasR(R:Rs)(c s:Nat)(j:Int):Bool:=if c≤7 then(match R.pg (lo c s).toNat with|none=>false|some y=>decide (y.2.May j)) else Sf.isT (R.sh c) s
def PgOk(M:Ms)(R:Rs):Prop:=∀v p g,R.pg v=some (p,g)→g.Ok M.bs
theorem aF{c s:Nat}(hc:c≤7)(hs:s<sn c):lo c s=((lo c s).toNat:Int)∧(lo c s).toNat<6400:=by
 have h1:=nO (c:=c) (s:=s) (by omega) hs (i:=0) (by have:=(aj (c:=c) (by omega)).1.1;omega);have:=h1.2.2;unfold VOk at this;omega
theorem dZ{pg:Nat→Option (Nat×Pg)}{v:Int}{u:Nat}(h:v=(u:Int)):pgm pg v=(pg u).map Prod.fst:=by
 subst h;unfold pgm;rw[if_pos (by omega),Int.toNat_natCast]
theorem jB{v:Int}(h:I64 v):(Lit.int .i64 v).wf=true:=aC h.1 h.2
theorem Bs(gr:G17 w)(h:aa W w (hl x M R O ts))(pk:PgOk M R){c s:Nat}(hc:c≤23)(hs:s<sn c){j:Int}(hj:I64 j):Calls Tryz.prog 179 #[.pointer (some ⟨x.h,0,none⟩),.int .i64 (c:Int),.int .i64 (s:Int),.int .i64 j] w fun e w'=>e=.returned (.bool (hasR R c s j))∧Fr (fun _=>False) w w':=by
 have H1:=hid (dQ gr hc);unfold hasR;by_cases h7:c≤7
 ·rw[if_pos h7];rw[decide_eq_true h7] at H1;obtain⟨l1,l2⟩:=aF h7 hs;have hb:=aH h;have cp:=mu hb;have T:=hid h;have HZ:Hid (∀w',Fr (fun _=>False) w w'→Fr (fun _=>False) w w'∧w'.cell? ⟨x.h,36,none⟩=some (.map (some x.pb))∧(Instr.lookup 143 (.map (some x.pb)) (.int .i64 (lo c s)) false).run Tryz.prog w'=.ok (ptV ((R.pg (lo c s).toNat).map Prod.fst)) w'):=fun w' f2=>by
   have h2:=h.kept f2;have lk:=(h2.op17 8 rfl).look (x:=lo c s) (jB ⟨by omega,by omega⟩);rw[dZ l1] at lk;exact⟨f2,mu (aH h2),lk⟩
  have H2:Hid (∀w1,Fr (fun _=>False) w w1→Calls Tryz.prog 181 #[.int .i64 (c:Int),.int .i64 (s:Int)] w1 fun e w'=>e=.returned (.int .i64 (lo c s))∧Fr (fun _=>False) w w'∧w'.cell? ⟨x.h,36,none⟩=some (.map (some x.pb))∧(Instr.lookup 143 (.map (some x.pb)) (.int .i64 (lo c s)) false).run Tryz.prog w'=.ok (ptV ((R.pg (lo c s).toNat).map Prod.fst)) w'):=fun w1 f1=>(fB (gr.fr f1) hc hs).mono fun e w' ⟨he,f⟩=>⟨he,HZ.out _ (f1.trans f)⟩
  cases hq:R.pg (lo c s).toNat with
  |none=>
   rw[hq] at H2;simp only[Option.map_none,ptV] at H2 ⊢;have H3:Hid (∀w1,Fr (fun _=>False) w w1→Calls Tryz.prog 224 #[.pointer none,.int .i64 j] w1 fun e w'=>e=.returned (.bool false)∧Fr (fun _=>False) w w'∧w'.cell? ⟨x.h,36,none⟩=some (.map (some x.pb))∧(Instr.lookup 143 (.map (some x.pb)) (.int .i64 (lo c s)) false).run Tryz.prog w'=.ok (ptV ((R.pg (lo c s).toNat).map Prod.fst)) w'):=fun w1 f1=>(rR j w1).mono fun e w' ⟨he,f⟩=>⟨he,HZ.out _ (f1.trans f)⟩
   rw[hq] at H3;simp only[Option.map_none,ptV] at H3;have TD:Hid (Fr (fun _=>False) w w.drew):=(Fr.refl _ _).drew;have lk:=((h.kept TD.out).op17 8 rfl).look (x:=lo c s) (jB ⟨by omega,by omega⟩);rw[dZ l1,hq] at lk;simp only[Option.map_none,ptV] at lk;clear l1 l2 h hb hq h7 pk hj hc hs gr T HZ;generalize lo c s=v at *;generalize (c:Int)=d at *;generalize (s:Int)=t at *;go_enter Tryz.func179,Tryz.ntmps179;go_wp2_with fail;refine H1.out.mono ?_;rintro e w1 ⟨rfl,hw⟩;obtain rfl:=hw.symm;go_wp2_with fail;go_region_held3 (fun w'=>w'.cell? ⟨x.h,36,none⟩=some (.map (some x.pb))∧(Instr.lookup 143 (.map (some x.pb)) (.int .i64 v) false).run Tryz.prog w'=.ok (.pointer none) w') (first|exact⟨by assumption,by assumption⟩|go_keep) (first|(go_at_call 224;refine(H3.out _ T2.out).mono ?_;rintro e w2 ⟨rfl,h2,c2,l2⟩;have T3:=hid h2;clear h2)|(go_at_call 181;refine(H2.out _ TD.out).mono ?_;rintro e w1 ⟨rfl,h1,c1,l1⟩;have T2:=hid h1;clear h1))
   all_goals
    go_wp2;go_ret;exact⟨by simp,T3.out⟩
  |some y=>
   obtain⟨p,g⟩:=y;rw[hq] at H2;simp only[Option.map_some,ptV] at H2 ⊢;have H3:Hid (∀w1,Fr (fun _=>False) w w1→Calls Tryz.prog 224 #[.pointer (some ⟨p,0,none⟩),.int .i64 j] w1 fun e w'=>e=.returned (.bool (decide (g.May j)))∧Fr (fun _=>False) w w'∧w'.cell? ⟨x.h,36,none⟩=some (.map (some x.pb))∧(Instr.lookup 143 (.map (some x.pb)) (.int .i64 (lo c s)) false).run Tryz.prog w'=.ok (ptV ((R.pg (lo c s).toNat).map Prod.fst)) w'):=fun w1 f1=>(vA (h.kept f1) (gr.fr f1) l2 hq (pk _ _ _ hq) hj).mono fun e w' ⟨he,f⟩=>⟨he,HZ.out _ (f1.trans f)⟩
   rw[hq] at H3;simp only[Option.map_some,ptV] at H3;have TD:Hid (Fr (fun _=>False) w w.drew):=(Fr.refl _ _).drew;have lk:=((h.kept TD.out).op17 8 rfl).look (x:=lo c s) (jB ⟨by omega,by omega⟩);rw[dZ l1,hq] at lk;simp only[Option.map_some,ptV] at lk;clear l1 l2 h hb hq h7 pk hj hc hs gr T HZ;generalize decide (g.May j)=r at *;generalize lo c s=v at *;generalize (c:Int)=d at *;generalize (s:Int)=t at *;go_enter Tryz.func179,Tryz.ntmps179;go_wp2_with fail;refine H1.out.mono ?_;rintro e w1 ⟨rfl,hw⟩;obtain rfl:=hw.symm;go_wp2_with fail;go_region_held3 (fun w'=>w'.cell? ⟨x.h,36,none⟩=some (.map (some x.pb))∧(Instr.lookup 143 (.map (some x.pb)) (.int .i64 v) false).run Tryz.prog w'=.ok (.pointer (some ⟨p,0,none⟩)) w') (first|exact⟨by assumption,by assumption⟩|go_keep) (first|(go_at_call 224;refine(H3.out _ T2.out).mono ?_;rintro e w2 ⟨rfl,h2,c2,l2⟩;have T3:=hid h2;clear h2)|(go_at_call 181;refine(H2.out _ TD.out).mono ?_;rintro e w1 ⟨rfl,h1,c1,l1⟩;have T2:=hid h1;clear h1))
   all_goals
    go_wp2;go_ret;exact⟨by simp,T3.out⟩
 ·rw[if_neg h7];rw[decide_eq_false h7] at H1;have hb:=aH h;have cs:=ra hb (c:=c) (by omega);have H2:=hid (vz h (c:=c) (by omega) s);have T:=hid h;clear h hb hj pk gr h7 T;generalize hd:x.A c=d at *;generalize (s:Int)=t at *;generalize Sf.isT (R.sh c) t=r at *;go_enter Tryz.func179,Tryz.ntmps179;go_wp2_with fail;refine H1.out.mono ?_;rintro e w1 ⟨rfl,hw⟩;obtain rfl:=hw.symm;go_wp2_with fail;refine H2.out.mono ?_;rintro e w2 ⟨rfl,f⟩;have T2:=hid f;clear f;go_wp2;go_ret;exact⟨by simp,T2.out⟩
def fndR(R:Rs)(c s j E:Int):Int×Int×Int×Int:=if E=0∧hasR R c.toNat s.toNat j=true then(c,s,j,0) else(0,0,0,13)
theorem mH{a c s j E:Int}(h:eY a c s j E)(e:E=0):∃c' s':Nat,c=c'∧s=s'∧c'≤23∧s'<sn c'∧I64 j:=by
 rcases h with⟨_,⟨h1,h2,h3,h4⟩,_⟩|⟨h1,_⟩
 ·have hc:0≤c∧c≤23:=by
   unfold slI at h2;split at h2
   ·assumption
   ·omega
  obtain⟨c',rfl⟩:∃c':Nat,c=c':=⟨c.toNat,by omega⟩;have hf:=(aj (c:=c') (by omega)).2.2.2.2.1;refine⟨c',s.toNat,rfl,by omega,by omega,by rw[hf] at h2;omega,by omega,?_⟩;have:nuI c'≤32:=by
   have:∀c:Fin 24,nuI (c:Nat)≤32:=by decide+kernel
   exact this ⟨c',by omega⟩
  omega
 ·omega
theorem xu(gr:G17 w)(h:aa W w (hl x M R O ts))(pk:PgOk M R){a c s j E:Int}(hf:eY a c s j E)(ha:I64 a):Calls Tryz.prog 128 #[.pointer (some ⟨x.h,0,none⟩),.int .i64 a] w fun e w'=>e=.returned (.tuple #[.int .i64 (fndR R c s j E).1,.int .i64 (fndR R c s j E).2.1,.int .i64 (fndR R c s j E).2.2.1,.int .i64 (fndR R c s j E).2.2.2])∧Fr (fun _=>False) w w':=by
 have H1:Hid (Calls Tryz.prog 178 #[.int .i64 a] w fun e w'=>e=.returned (.tuple #[.int .i64 c,.int .i64 s,.int .i64 j,.int .i64 E])∧Fr (fun _=>False) w w'):=(zf hf ha gr.k).mono fun e w' ⟨he,k⟩=>⟨he,k.fr⟩
 unfold fndR;by_cases hE:E=0
 ·obtain⟨c',s',rfl,rfl,hc,hs,hj⟩:=mH hf hE;subst hE;have H2:Hid (∀w1,Fr (fun _=>False) w w1→Calls Tryz.prog 179 #[.pointer (some ⟨x.h,0,none⟩),.int .i64 (c':Int),.int .i64 (s':Int),.int .i64 j] w1 fun e w'=>e=.returned (.bool (hasR R c' s' j))∧Fr (fun _=>False) w w'):=fun w1 f1=>(Bs (gr.fr f1) (h.kept f1) pk hc hs hj).mono fun e w' ⟨he,f⟩=>⟨he,f1.trans f⟩
  rw[Int.toNat_natCast,Int.toNat_natCast];clear hc hs hj hf ha pk gr h;generalize (c':Int)=d at *;generalize (s':Int)=t at *;generalize hasR R c' s' j=r at *;cases r
  ·rw[if_neg (by simp)];go_enter Tryz.func128,Tryz.ntmps128;go_wp2_with fail;refine H1.out.mono ?_;rintro e w1 ⟨rfl,h1⟩;have H3:=hid (H2.out _ h1);clear h1 H1 H2;go_wp2_with fail;refine H3.out.mono ?_;rintro e w2 ⟨rfl,h2⟩;have T2:=hid h2;clear h2 H3;go_wp2;refine bodyPost_ret (res4 rfl _ _ _) rfl ?_;exact⟨by simp,T2.out⟩
  ·rw[if_pos ⟨rfl,rfl⟩];go_enter Tryz.func128,Tryz.ntmps128;go_wp2_with fail;refine H1.out.mono ?_;rintro e w1 ⟨rfl,h1⟩;have H3:=hid (H2.out _ h1);clear h1 H1 H2;go_wp2_with fail;refine H3.out.mono ?_;rintro e w2 ⟨rfl,h2⟩;have T2:=hid h2;clear h2 H3;go_wp2;refine bodyPost_ret (res4 rfl _ _ _) rfl ?_;exact⟨by simp,T2.out⟩
 ·rw[if_neg fun e=>hE e.1];have hE4:E=4:=by
   rcases hf with⟨e,_⟩|⟨e,_⟩
   ·exact(hE e).elim
   ·exact e
  subst hE4;clear hf ha pk gr h hE;go_enter Tryz.func128,Tryz.ntmps128;go_wp2_with fail;refine H1.out.mono ?_;rintro e w1 ⟨rfl,h1⟩;have T2:=hid h1;clear h1 H1;go_wp2;refine bodyPost_ret (res4 rfl _ _ _) rfl ?_;exact⟨by simp,T2.out⟩
theorem i_find(cx:Cx W O)(h:aa W w (hl x M R O ts))(pk:PgOk M R){a c s j E:Int}(hf:eY a c s j E)(ha:I64 a):Calls Tryz.prog 128 #[.pointer (some ⟨x.h,0,none⟩),.int .i64 a] w fun e w'=>e=.returned (.tuple #[.int .i64 (fndR R c s j E).1,.int .i64 (fndR R c s j E).2.1,.int .i64 (fndR R c s j E).2.2.1,.int .i64 (fndR R c s j E).2.2.2])∧aa W w' (hl x M R O ts):=
 (xu (cx.at h) h pk hf ha).mono fun _ _ ⟨he,f⟩=>⟨he,h.kept f⟩
end
section
variable{W w:World}{x:Px}{M:Ms}{R:Rs}{O Q Q':World→(Nat→Prop)→Prop}{ts:List (World→(Nat→Prop)→Prop)}
theorem cC:(hl x M R O (ts++[Q]))[ts.length+10]? =some Q:=by
 show(ts++[Q])[ts.length]? =some Q;simp
theorem pV:(hl x M R O (ts++[Q])).set (ts.length+10) Q'=hl x M R O (ts++[Q']):=by
 show Am _ _ _ _::O::Blk _ _::Ct _ _ _::Tm _ _::Lv _ _::Fam _ _::Fam _ _::Mg _ _ _::Fam _ _::(ts++[Q]).set ts.length Q'=_
 rw[List.set_append_right _ _ (Nat.le_refl _)];simp
theorem cB(h:aa W w (hl x M R O (ts++[Q]))):aa W w (hl x M R O ts):=aa.less (R:=Q) h
theorem uA{y:Value}{r:List Int}(h:aa W w (hl x M R O (ts++[Rw 0 y r]))):∃ad cap,y=.slice ad r.length cap∧aa W w (hl x M R O (ts++[Lv ad r])):=by
 obtain⟨ad,cap,e,hn⟩:=h.row (ts.length+10) cC;refine⟨ad,cap,e,?_⟩;have:=h.view (ts.length+10) cC (Lv.good ad r) fun U hU=>by
  refine⟨hn,fun b off e2 h0=>hU.2.1 b ?_,hU.2.2⟩;rcases hU.1.2 with⟨k1,k2⟩|⟨g,cap',cur,k1,_⟩
  ·omega
  ·rw[k1] at e ⊢;simp only[Value.slice.injEq] at e;rw[e2] at e;simp only[Value.ownBlock,Option.some.injEq];have:=e.1;simp only[Option.some.injEq,Addr.mk.injEq] at this;exact this.1
 rw[pV] at this;exact this
def fT(x:Px)(bs:List UInt8)(ss:List Sp)(R:Rs)(O:World→(Nat→Prop)→Prop)(ts:List (World→(Nat→Prop)→Prop))(j:Nat)(ad:Option Addr)(l:List Int):Prop:=3≠j∧∀has z,(hl x ⟨has,bs,ss⟩ R O (ts++z))[j]? =some (Lv ad l)
theorem fT.own(x:Px)(bs:List UInt8)(ss:List Sp)(R:Rs)(O:World→(Nat→Prop)→Prop)(ts:List (World→(Nat→Prop)→Prop)):fT x bs ss R O ts 5 x.ad R.W:=⟨by decide,fun _ _=>rfl⟩
theorem fT.first(x:Px)(bs:List UInt8)(ss:List Sp)(R:Rs)(O:World→(Nat→Prop)→Prop)(ts:List (World→(Nat→Prop)→Prop))(ad:Option Addr)(l:List Int):fT x bs ss R O (Lv ad l::ts) 10 ad l:=⟨by decide,fun _ _=>rfl⟩
theorem jj(cx:Cx W O)(h:aa W w (hl x M R O ts))(hb:M.bs.length=M.has.length * 512){j:Nat}{ad:Option Addr}{l:List Int}(hj:fT x M.bs M.ss R O ts j ad l)(hm:l.length≤maxLen){n:Nat}(hn:n≤Cq.frI x.k M.has l)(hn2:n≤4096)(cap:Nat):Calls Tryz.prog 103 #[.pointer (some ⟨x.h,0,none⟩),.int .i64 (n:Int),.slice ad l.length cap] w fun e w'=>∃ad' cap',e=.returned (.tuple #[.slice ad' (tkL x.k l n M.has).length cap',.int .i64 0])∧aa W w' (hl x ⟨tkH x.k l n M.has,M.bs,M.ss⟩ R O (ts++[Lv ad' (tkL x.k l n M.has)])):=by
 have T0:Hid (aa W w (hl x ⟨tkH x.k l 0 M.has,M.bs,M.ss⟩ R O (ts++[Rw 0 (.slice none 0 0) (tkL x.k l 0 M.has)]))):=h.more (Rw.good ..) (Rw.empty 0 w) (Fr.refl _ _) fun _ e=>e.elim
 have HT:Hid (∀i,i<n→∃p:Nat,Cq.takV x.k (tkH x.k l i M.has) l=p∧Cq.takE x.k (tkH x.k l i M.has) l=0∧p<M.has.length):=fun i hi=>by
  have:=oK (k:=x.k) (W:=l) i M.has (by omega);obtain⟨p,h1,_,h3,h4,_⟩:=Cq.cu (k:=x.k) (has:=tkH x.k l i M.has) (l:=l) (by omega);rw[dq] at h1;exact⟨p,h3,h4,h1⟩
 have HC:Hid (∀i wr y,aa W wr (hl x ⟨tkH x.k l i M.has,M.bs,M.ss⟩ R O (ts++[Rw 0 y (tkL x.k l i M.has)]))→Calls Tryz.prog 143 #[.pointer (some ⟨x.m,0,none⟩),.slice ad l.length cap] wr fun e w'=>e=.returned (.tuple #[.int .i64 (Cq.takV x.k (tkH x.k l i M.has) l),.int .i64 (Cq.takE x.k (tkH x.k l i M.has) l)])∧aa W w' (hl x ⟨tkH x.k l (i+1) M.has,M.bs,M.ss⟩ R O (ts++[Rw 0 y (tkL x.k l i M.has)]))):=fun i wr y h1=>by
  have:=rM h1 (cx.at h1) j (hj.2 _ _) hj.1 hm cap;rw[←fV] at this;exact this
 have hle:=rP h;have hd:Int.tdiv (M.bs.length:Int) 512=(M.has.length:Int):=by rw[hb,Int.tdiv_eq_ediv_of_nonneg (by omega)];omega
 have hw:IntKind.i64.wrap (M.has.length:Int)=(M.has.length:Int):=pw ⟨by omega,by omega⟩;have HL:Hid (∀i,(tkL x.k l i M.has).length=i):=fun i=>bw i M.has
 have HN:Hid (∀i,tkL x.k l (i+1) M.has=tkL x.k l i M.has++[Cq.takV x.k (tkH x.k l i M.has) l]):=fun i=>jF i M.has
 clear h hj hm hn cx hb;generalize hH:M.has.length=H at *;generalize hbl:(M.bs.length:Int)=bl at *;have HBL:=hid hbl;have HHL:=hid hH;clear hbl hH;generalize l.length=ls at *;go_enter Tryz.func103,Tryz.ntmps103;go_wp2_with fail;refine wp_scope_jumps 0 (fun _ _=>False) (fun _ _=>0) rfl ?first (fun _ _ h=>h.elim)
 case first=>
  go_wp2_with fail;go_loopw [8,14] (fun y i wr=>∃q:Nat,q≤n∧i=.int .i64 q∧Hid (aa W wr (hl x ⟨tkH x.k l q M.has,M.bs,M.ss⟩ R O (ts++[Rw 0 y (tkL x.k l q M.has)])))) (fun _ i _=>n - (intOf i).toNat)
  case atStart=>exact⟨0,by omega,rfl,T0⟩
  case round=>
   clear T0;obtain⟨q,hq,rfl,T⟩:=hrel;by_cases hlt:q<n
   ·obtain⟨p,e1,e2,e3⟩:=HT.out q hlt;have c1:=eG (aH T.out);have h1:=HC.out q wr _ T.out;rw[e1,e2] at h1;have H1:=hid h1;have E1:=hid e1;have hp:(p:Int)<H:=by omega
    clear h1 T HT HC e1 e2 e3;go_wp2_with fail;refine H1.out.mono ?_;rintro e w1 ⟨rfl,h1⟩;have T1:=hid h1;have HR:=hid (h1.push (ts.length+10) cC).1;clear h1 H1 c1;go_wp2_with (at_builtin;refine pq rfl (.tmp 27) (.tmp 29) rfl 0 _ _ (p:Int) rfl (HR.out.alloc _) w1.heap.size rfl (by simp) (by rw[HL.out];omega) (by omega) ?_);intro g cap6 w6 hown hg hw6;have T6:Hid (aa W w6 (hl x ⟨tkH x.k l (q+1) M.has,M.bs,M.ss⟩ R O (ts++[Rw 0 (.slice (some ⟨g,0,none⟩) ((tkL x.k l q M.has).length+1) cap6) (tkL x.k l (q+1) M.has)]))):=by
     have:=(T1.out.push (ts.length+10) cC).2 ((Fr.refl _ _).alloc _) hown rfl hg (hw6.imp id fun e=>by rw[e];simp);rw[pV,←E1.out,←HN.out] at this;exact this
    have c0:=jn (aH T6.out);have h2:=rO T6.out;have hbl:=HBL.out;simp only[hbl] at h2;have H2:=hid h2;clear hown hg hw6 HR T1 E1 h2 hbl;generalize (tkL x.k l q M.has).length+1=ln at *;go_wp2_with fail;refine H2.out.mono ?_;rintro e w7 ⟨rfl,hw7⟩;obtain rfl:=hw7.symm;clear H2;go_wp2;go_roundw
    case rel=>exact⟨q+1,by omega,by go_num,T6⟩
    case measure=>simp[intOf];omega
   ·obtain rfl:q=n:=by omega
    obtain⟨ad',cap',rfl,h9⟩:=uA T.out;have T9:=hid h9;clear T h9 HT HC HN;go_wp2;rw[ao];go_ret2;exact⟨ad',cap',by simp,T9.out⟩
theorem mi(cx:Cx W O)(h:aa W w (hl x M R O ts))(hb:M.bs.length=M.has.length * 512){j:Nat}{ad:Option Addr}{l:List Int}(hj:fT x M.bs M.ss R O ts j ad l)(hm:l.length≤maxLen){n:Nat}(hn:Cq.frI x.k M.has l<n)(hn2:n≤4096)(cap:Nat):Calls Tryz.prog 103 #[.pointer (some ⟨x.h,0,none⟩),.int .i64 (n:Int),.slice ad l.length cap] w fun e w'=>e=.returned (.tuple #[.slice none 0 0,.int .i64 13])∧aa W w' (hl x M R O ts):=by
 have T0:Hid (aa W w (hl x ⟨tkH x.k l 0 M.has,M.bs,M.ss⟩ R O (ts++[Rw 0 (.slice none 0 0) (tkL x.k l 0 M.has)]))):=h.more (Rw.good ..) (Rw.empty 0 w) (Fr.refl _ _) fun _ e=>e.elim
 have HT:Hid (∀i,i<Cq.frI x.k M.has l→∃p:Nat,Cq.takV x.k (tkH x.k l i M.has) l=p∧Cq.takE x.k (tkH x.k l i M.has) l=0∧p<M.has.length):=fun i hi=>by
  have:=oK (k:=x.k) (W:=l) i M.has (by omega);obtain⟨p,h1,_,h3,h4,_⟩:=Cq.cu (k:=x.k) (has:=tkH x.k l i M.has) (l:=l) (by omega);rw[dq] at h1;exact⟨p,h3,h4,h1⟩
 have HX:Hid (Cq.takV x.k (tkH x.k l (Cq.frI x.k M.has l) M.has) l=0∧Cq.takE x.k (tkH x.k l (Cq.frI x.k M.has l) M.has) l=13∧tkH x.k l (Cq.frI x.k M.has l+1) M.has=tkH x.k l (Cq.frI x.k M.has l) M.has∧giL (tkL x.k l (Cq.frI x.k M.has l) M.has) (tkH x.k l (Cq.frI x.k M.has l) M.has)=M.has):=by
  have h0:=oK (k:=x.k) (W:=l) (Cq.frI x.k M.has l) M.has (Nat.le_refl _);obtain⟨t1,t2,t3⟩:=Cq.zY (k:=x.k) (has:=tkH x.k l (Cq.frI x.k M.has l) M.has) (l:=l) (by omega);exact⟨t1,t2,by rw[fV];exact t3,zw _ _ (Nat.le_refl _)⟩
 have HG:Hid (∀has wr ts p,aa W wr (hl x ⟨has,M.bs,M.ss⟩ R O ts)→Calls Tryz.prog 144 #[.pointer (some ⟨x.m,0,none⟩),.int .i64 p] wr fun e w'=>e=.returned (.int .i64 (Cq.giE has p))∧aa W w' (hl x ⟨Cq.giS has p,M.bs,M.ss⟩ R O ts)):=fun has wr ts p h1=>rN h1 (cx.at h1) p
 have HC:Hid (∀i wr y,aa W wr (hl x ⟨tkH x.k l i M.has,M.bs,M.ss⟩ R O (ts++[Rw 0 y (tkL x.k l i M.has)]))→Calls Tryz.prog 143 #[.pointer (some ⟨x.m,0,none⟩),.slice ad l.length cap] wr fun e w'=>e=.returned (.tuple #[.int .i64 (Cq.takV x.k (tkH x.k l i M.has) l),.int .i64 (Cq.takE x.k (tkH x.k l i M.has) l)])∧aa W w' (hl x ⟨tkH x.k l (i+1) M.has,M.bs,M.ss⟩ R O (ts++[Rw 0 y (tkL x.k l i M.has)]))):=fun i wr y h1=>by
  have:=rM h1 (cx.at h1) j (hj.2 _ _) hj.1 hm cap;rw[←fV] at this;exact this
 have hle:=rP h;have hd:Int.tdiv (M.bs.length:Int) 512=(M.has.length:Int):=by rw[hb,Int.tdiv_eq_ediv_of_nonneg (by omega)];omega
 have hw:IntKind.i64.wrap (M.has.length:Int)=(M.has.length:Int):=pw ⟨by omega,by omega⟩;have HL:Hid (∀i,(tkL x.k l i M.has).length=i):=fun i=>bw i M.has
 have HN:Hid (∀i,tkL x.k l (i+1) M.has=tkL x.k l i M.has++[Cq.takV x.k (tkH x.k l i M.has) l]):=fun i=>jF i M.has
 clear h hj hm cx hb;generalize hf:Cq.frI x.k M.has l=f at *;clear hf;generalize hH:M.has.length=H at *;generalize hbl:(M.bs.length:Int)=bl at *;have HBL:=hid hbl;have HHL:=hid hH;clear hbl hH;generalize l.length=ls at *;go_enter Tryz.func103,Tryz.ntmps103;go_wp2_with fail;refine wp_scope_jumps 0 (fun a' w'=>∃(y u1 u2 u3 u4 u5 u6 u7 u9 u10 u11 u12 u13 u14 u15 u16 u17 u18 u19 u20 u21 u22 u23 u24 u25 u26 u27 u28 u29 u30 u31 u32 u33 u34 u35 u36 u37 u38 u39 u40 u41 u42 u43 u44 u45 u46 u47 u48 u49 u50 u51 u52 u53:Value),Hid (aa W w' (hl x ⟨tkH x.k l f M.has,M.bs,M.ss⟩ R O (ts++[Rw 0 y (tkL x.k l f M.has)])))∧a'={ tmps:=#[.pointer (some ⟨x.h,0,none⟩),u1,u2,u3,u4,u5,u6,u7,y,u9,u10,u11,u12,u13,u14,u15,u16,u17,u18,u19,u20,u21,u22,u23,u24,u25,u26,u27,u28,u29,u30,u31,u32,u33,u34,u35,u36,u37,u38,u39,u40,u41,u42,u43,u44,u45,u46,u47,u48,u49,u50,u51,u52,u53],defers:=[] }) (fun _ _=>0) rfl ?first ?pass
 case first=>
  go_wp2_with fail;go_loopw [8,14] (fun y i wr=>∃q:Nat,q≤f∧i=.int .i64 q∧Hid (aa W wr (hl x ⟨tkH x.k l q M.has,M.bs,M.ss⟩ R O (ts++[Rw 0 y (tkL x.k l q M.has)])))) (fun _ i _=>n - (intOf i).toNat)
  case atStart=>exact⟨0,by omega,rfl,T0⟩
  case round=>
   clear T0;obtain⟨q,hq,rfl,T⟩:=hrel;have hqn:(q:Int)<n:=by omega
   by_cases hlt:q<f
   ·obtain⟨p,e1,e2,e3⟩:=HT.out q hlt;have c1:=eG (aH T.out);have h1:=HC.out q wr _ T.out;rw[e1,e2] at h1;have H1:=hid h1;have E1:=hid e1;have hp:(p:Int)<H:=by omega
    clear h1 T HT HC e1 e2 e3 HX HG;go_wp2_with fail;refine H1.out.mono ?_;rintro e w1 ⟨rfl,h1⟩;have T1:=hid h1;have HR:=hid (h1.push (ts.length+10) cC).1;clear h1 H1 c1;go_wp2_with (at_builtin;refine pq rfl (.tmp 27) (.tmp 29) rfl 0 _ _ (p:Int) rfl (HR.out.alloc _) w1.heap.size rfl (by simp) (by rw[HL.out];omega) (by omega) ?_);intro g cap6 w6 hown hg hw6;have T6:Hid (aa W w6 (hl x ⟨tkH x.k l (q+1) M.has,M.bs,M.ss⟩ R O (ts++[Rw 0 (.slice (some ⟨g,0,none⟩) ((tkL x.k l q M.has).length+1) cap6) (tkL x.k l (q+1) M.has)]))):=by
     have:=(T1.out.push (ts.length+10) cC).2 ((Fr.refl _ _).alloc _) hown rfl hg (hw6.imp id fun e=>by rw[e];simp);rw[pV,←E1.out,←HN.out] at this;exact this
    have c0:=jn (aH T6.out);have h2:=rO T6.out;have hbl:=HBL.out;simp only[hbl] at h2;have H2:=hid h2;clear hown hg hw6 HR T1 E1 h2 hbl;generalize (tkL x.k l q M.has).length+1=ln at *;go_wp2_with fail;refine H2.out.mono ?_;rintro e w7 ⟨rfl,hw7⟩;obtain rfl:=hw7.symm;clear H2;go_wp2;go_roundw
    case rel=>exact⟨q+1,by omega,by go_num,T6⟩
    case measure=>simp[intOf];omega
   ·obtain rfl:q=f:=by omega
    have c1:=eG (aH T.out);have h1:=HC.out q wr _ T.out;rw[HX.out.1,HX.out.2.1,HX.out.2.2.1] at h1;have H1:=hid h1;clear h1 T HT HC HX HG;go_wp2_with fail;refine H1.out.mono ?_;rintro e w1 ⟨rfl,h1⟩;have T1:=hid h1;clear h1 H1 c1;go_wp2;go_step3;exact⟨rfl,_,_,_,_,_,_,_,_,_,_,_,_,_,_,_,_,_,_,_,_,_,_,_,_,_,_,_,_,_,_,_,_,_,_,_,_,_,_,_,_,_,_,_,_,_,_,_,_,_,_,_,_,_,T1,rfl⟩
 case pass=>
  rintro a' w1 ⟨y,u1,u2,u3,u4,u5,u6,u7,u9,u10,u11,u12,u13,u14,u15,u16,u17,u18,u19,u20,u21,u22,u23,u24,u25,u26,u27,u28,u29,u30,u31,u32,u33,u34,u35,u36,u37,u38,u39,u40,u41,u42,u43,u44,u45,u46,u47,u48,u49,u50,u51,u52,u53,T,rfl⟩;obtain⟨ad',cap',rfl,h9⟩:=uA T.out;have T1:Hid (aa W w1 (hl x ⟨giL ((tkL x.k l f M.has).take 0) (tkH x.k l f M.has),M.bs,M.ss⟩ R O (ts++[Lv ad' (tkL x.k l f M.has)]))):=h9;have hlen:(tkL x.k l f M.has).length=f:=HL.out f;clear T h9 T0 HT HC;generalize tkL x.k l f M.has=L at *;generalize tkH x.k l f M.has=hf at *;clear HN HL;subst hlen;go_wp2_with fail;go_loopw [43] (fun i wr=>∃q:Nat,q≤L.length∧i=.int .i64 q∧Hid (aa W wr (hl x ⟨giL (L.take q) hf,M.bs,M.ss⟩ R O (ts++[Lv ad' L])))) (fun i _=>L.length - (intOf i).toNat)
  case atStart=>exact⟨0,by omega,rfl,T1⟩
  case round=>
   clear T1;obtain⟨q,hq,rfl,T⟩:=hrel;by_cases hlt:q<L.length
   ·obtain⟨bb,off,rfl,hbb,hc1⟩:=T.out.nums (ts.length+10) cC q hlt;have c1:=eG (aH T.out);have h1:=HG.out _ wr _ L[q] T.out;rw[←xF L hf q hlt] at h1;have H1:=hid h1;clear h1 T HG HX;generalize L[q]=p at *;generalize Cq.giE (giL (List.take q L) hf) p=E at *;go_wp2_with fail;refine H1.out.mono ?_;rintro e w2 ⟨rfl,h2⟩;have T2:=hid h2;clear h2 H1 c1 hc1;go_wp2;go_roundw
    case rel=>exact⟨q+1,by omega,by go_num,T2⟩
    case measure=>simp[intOf];omega
   ·obtain rfl:q=L.length:=by omega
    have T9:Hid (aa W wr (hl x M R O ts)):=by
     have:=cB T.out;rw[List.take_length,HX.out.2.2.2] at this;exact this
    clear T HX HG;go_wp2;rw[ao];go_ret2;exact⟨by simp,T9.out⟩
end
end Go.Proofs.YtndhbnhobhkmaaaGreatDoor
