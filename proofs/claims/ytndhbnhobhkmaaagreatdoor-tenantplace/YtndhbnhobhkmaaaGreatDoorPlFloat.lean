/-
  What the calls of package line do: New, Push, Remove, Copy; the nil ones.
  Where local bytes lie: mathematics. Pieces, byte by byte.
  A table as two maps: mathematics. And its pieces page by page.
  The program's table in memory: two maps, or none.
  Places as complex numbers: words that are whole numbers between two others. Plain mathematics: nothing of the program is named here.
-/
import Derived.Test.YtndhbnhobhkmaaaGreatDoorLiCallsA
set_option maxRecDepth 20000
set_option maxHeartbeats 2000000
namespace Go.Proofs.YtndhbnhobhkmaaaGreatDoor
open Go.RowKit
section
variable{w:World}{p:Nat}{Z:Nat→Prop}{L:List Int}
theorem n_new(w:World):Calls Tryz.prog 138 #[] w fun e w'=>∃p Z,e=.returned (.pointer (some ⟨p,0,none⟩))∧Lm p [] w' Z∧Fr (fun _=>False) w w'∧∀i,Z i→w.heap.size≤i∧i<w'.heap.size:=by
 go_enter Tryz.func138,Tryz.ntmps138;go_wp2;go_ret;exact⟨w.heap.size,fun i=>i=w.heap.size,by simp,⟨none,0,0,heap_alloc_new w _,.inl ⟨rfl,rfl⟩,fun e=>(e rfl).elim,rfl,(fun B e=>by cases e),(fun i e=>by subst e;simp)⟩,(Fr.refl _ _).alloc _,fun i e=>by subst e;simp⟩
theorem n_push(h:Lm p L w Z)(ok:LiOk L)(hl:L.length≤5000){k:Int}(hk:I64 k):Calls Tryz.prog 184 #[.pointer (some ⟨p,0,none⟩),.int .i64 k] w fun e w'=>e=.returned (.int .i64 (liPE L k))∧∃Z',Lm p (liP L k) w' Z'∧Gw w w' Z Z':=by
 obtain⟨m,fi,la,h⟩:=h;unfold liPE liP;by_cases h0:k<0
 ·have HR:Hid (∃Z',Lm p L w Z'∧Gw w w Z Z'):=⟨Z,⟨m,fi,la,h⟩,Gw.same h.lt (Fr.refl _ _)⟩;rw[if_pos h0,if_pos (.inl h0)];clear h ok hk;go_enter Tryz.func184,Tryz.ntmps184;go_wp2;go_ret;exact⟨by simp,HR.out⟩
 have H1:=hid (m_has h.c h.o hk);rw[if_neg h0];by_cases h1:k∈L
 ·have HR:Hid (∃Z',Lm p L w Z'∧Gw w w Z Z'):=⟨Z,⟨m,fi,la,h⟩,Gw.same h.lt (Fr.refl _ _)⟩;rw[if_pos h1,if_pos (.inr h1)];rw[decide_eq_true h1] at H1;clear h ok hk h1;go_enter Tryz.func184,Tryz.ntmps184;go_wp2_with fail;refine H1.out.mono ?_;rintro e w1 ⟨rfl,hw⟩;obtain rfl:=hw.symm;go_wp2;go_ret;exact⟨by simp,HR.out⟩
 have H2:=hid (AW h.c h.o);rw[if_neg h1,if_neg (by rintro(e|e);exact h0 e;exact h1 e)];rw[decide_eq_false h1] at H1;have hwf:=aB hk.1 hk.2;cases hL:L with
 |nil=>
  subst hL;have hne:w.heap.size≠p:=by have:=h.c.lt;omega
  have L1:=h.c.carry (S:=fun _=>False) ((Fr.refl _ w).alloc (.map #[] 0)) id;have L2:=(L1.set0 (some w.heap.size)).set1 k;have O2:Oi (((w.alloc (.map #[] 0)).setCell ⟨p,0,none⟩ (.map (some w.heap.size))).setCell ⟨p,1,none⟩ (.int .i64 k)) w.heap.size 0 (fun _=>none) 0:=(Oi.new w).carry (S:=fun i=>i=p) (Fr.setCell (S:=fun i=>i=p) (Fr.setCell (S:=fun i=>i=p) (Fr.refl _ _) (p:=⟨p,0,none⟩) rfl _) (p:=⟨p,1,none⟩) rfl _) hne;obtain⟨w3,hrun,O3,F3⟩:=O2.store (by decide) hwf (aB (x:= -1) (by decide) (by decide));have L3:=L2.carry F3 (fun e=>hne e.symm);have F4:Fr Z w (w3.setCell ⟨p,2,none⟩ (.int .i64 k)):=Fr.setCell (Fr.trans' (Fr.setCell (Fr.setCell ((Fr.refl _ _).alloc _) (p:=⟨p,0,none⟩) h.zp _) (p:=⟨p,1,none⟩) h.zp _) F3 fun i hi e=>by omega) (p:=⟨p,2,none⟩) h.zp _;have hs3:w.heap.size<w3.heap.size:=O3.lt;have HR:Hid (∃Z',Lm p ([]++[k]) (w3.setCell ⟨p,2,none⟩ (.int .i64 k)) Z'∧Gw w (w3.setCell ⟨p,2,none⟩ (.int .i64 k)) Z Z'):=by
   have hlt:∀i,(Z i∨i=w.heap.size)→i<(w3.setCell ⟨p,2,none⟩ (.int .i64 k)).heap.size:=fun i e=>by
    rcases e with e|e
    ·exact Nat.lt_of_lt_of_le (h.lt i e) F4.size
    ·subst e;simpa using hs3
   refine⟨fun i=>Z i∨i=w.heap.size,⟨some w.heap.size,k,k,L3.set2 k,.inr ⟨w.heap.size,rfl,?_⟩,fun _=>⟨rfl,rfl⟩,.inl h.zp,fun B e=> ?_,hlt⟩,fun i e=>.inl e,fun i e=> ?_,hlt,F4⟩
   ·exact((O3.carry (S:=fun i=>i=p) (Fr.setCell (S:=fun i=>i=p) (Fr.refl _ _) (p:=⟨p,2,none⟩) rfl _) hne).same fun z=>(lk_one k z).symm).count rfl
   ·cases e;exact⟨.inr rfl,hne⟩
   ·rcases e with e|e
    ·exact .inl e
    ·exact .inr (by omega)
  have c0:=L1.c0;have c1:=L1.c1;have f1:=L1.fz;have c0':=L2.c0;have c2:=L3.c2;have f3:=L3.fz;have hmm:= @run_makeMap Tryz.prog;clear h L1 L2 O2 O3 F3 L3 F4 hs3 ok hk hwf h1;go_enter Tryz.func184,Tryz.ntmps184;go_wp2_with fail;refine H1.out.mono ?_;rintro e w1 ⟨rfl,hw⟩;obtain rfl:=hw.symm;go_wp2_with fail;refine H2.out.mono ?_;rintro e w1 ⟨rfl,hw⟩;obtain rfl:=hw.symm;go_wp2;go_ret;exact⟨by simp,HR.out⟩
 |cons y r=>
  have hne:L≠[]:=by rw[hL];simp
  have hn0:(L.length:Int)≠0:=by rw[hL];simp;omega
  rw[←hL];clear hL;obtain⟨rfl,rfl⟩:=h.ends hne;rcases h.o with⟨_,e⟩|⟨B,rfl,O⟩
  ·exact(hne e).elim
  obtain⟨zB,hBp⟩:=h.zm B rfl;have hla:=ok.last;have F0:Fr (fun _=>False) w w.drew:=(Fr.refl _ _).drew;obtain⟨w1,hrun1,O1,F1⟩:=(O.carry F0 id).store (by unfold maxLen;omega) (aB hla.1 hla.2) hwf;rw[fD,decide_eq_true (dO hne),if_pos rfl] at O1;obtain⟨w2,hrun2,O2,F2⟩:=O1.tight.store (by unfold maxLen;omega) hwf (aB (x:= -1) (by decide) (by decide));have hkl:k≠liL L:=fun e=>h1 (e▸dO hne)
  rw[if_neg hkl,fD,decide_eq_false h1,if_neg (by simp)] at O2;have L0:=h.c.carry F0 id;have L1:=L0.carry F1 (fun e=>hBp e.symm);have L2:=L1.carry F2 (fun e=>hBp e.symm);have F3:Fr Z w (w2.setCell ⟨p,2,none⟩ (.int .i64 k)):=Fr.setCell (Fr.trans' (Fr.trans' (F0.mono fun _ _ e=>e.elim) F1 fun i _ e=>e▸zB) F2 fun i _ e=>e▸zB) (p:=⟨p,2,none⟩) h.zp _;have HR:Hid (∃Z',Lm p (L++[k]) (w2.setCell ⟨p,2,none⟩ (.int .i64 k)) Z'∧Gw w (w2.setCell ⟨p,2,none⟩ (.int .i64 k)) Z Z'):=by
   refine⟨Z,⟨some B,liF L,k,L2.set2 k,.inr ⟨B,rfl,?_⟩,fun _=>⟨(nK hne _).symm,(pK _ _).symm⟩,h.zp,h.zm,fun i hi=>Nat.lt_of_lt_of_le (h.lt i hi) F3.size⟩,Gw.same h.lt F3⟩;exact((O2.carry (S:=fun i=>i=p) (Fr.setCell (S:=fun i=>i=p) (Fr.refl _ _) (p:=⟨p,2,none⟩) rfl _) hBp).same fun z=>(Bf ok.nd hne h1 z).symm).count (by simp)
  have c0:=L0.c0;have c2:=L0.c2;have c10:=L1.c0;have c12:=L1.c2;have c22:=L2.c2;have f2:=L2.fz;clear h O O1 O2 F0 F1 F2 F3 L0 L1 L2 ok hk hwf h1 hla hkl hne;generalize liL L=la at *;generalize L.length=NL at *;go_enter Tryz.func184,Tryz.ntmps184;go_wp2_with fail;refine H1.out.mono ?_;rintro e w1 ⟨rfl,hw⟩;obtain rfl:=hw.symm;go_wp2_with fail;refine H2.out.mono ?_;rintro e w1 ⟨rfl,hw⟩;obtain rfl:=hw.symm;go_wp2_with fail;go_region_held3 (fun w'=>w'.cell? ⟨p,0,none⟩=some (.map (some B))∧w'.cell? ⟨p,2,none⟩=some (.int .i64 la)) (first|go_keep|exact⟨by assumption,by assumption⟩) (fail);go_wp2;go_ret;exact⟨by simp,HR.out⟩
theorem Ln.out{L':List Int}{w':World}{B n cnt:Nat}{fi la fi' la':Int}(h:Ln p L w Z (some B) fi la)(c:Lw w' p (some B) fi' la')(o:Oi w' B n (lk L') cnt)(hc:cnt=L'.length)(ends:L'≠[]→fi'=liF L'∧la'=liL L')(f:Fr Z w w'):∃Z',Lm p L' w' Z'∧Gw w w' Z Z':=
 ⟨Z,⟨some B,fi',la',c,.inr ⟨B,rfl,o.count hc⟩,ends,h.zp,h.zm,fun i hi=>Nat.lt_of_lt_of_le (h.lt i hi) f.size⟩,Gw.same h.lt f⟩
theorem lj{k:Int}:∀{a b c d:List Int},a++k::b=c++k::d→k∉a→k∉c→a=c∧b=d
 |[],b,[],d,h,_,_=>⟨rfl,by simpa using h⟩
 |[],b,x::c,d,h,_,h2=>by simp at h h2;exact(h2.1 h.1).elim
 |x::a,b,[],d,h,h1,_=>by simp at h h1;exact(h1.1 h.1.symm).elim
 |x::a,b,y::c,d,h,h1,h2=>by
  simp at h h1 h2;obtain⟨e1,e2⟩:=lj (k:=k) h.2 h1.2 h2.2;exact⟨by rw[h.1,e1],e2⟩
theorem wM(h:Lm p L w Z)(ok:LiOk L)(hl:L.length≤5000){k:Int}(hk:I64 k):Calls Tryz.prog 186 #[.pointer (some ⟨p,0,none⟩),.int .i64 k] w fun e w'=>e=.returned (.int .i64 (liRE L k))∧∃Z',Lm p (liR L k) w' Z'∧Gw w w' Z Z':=by
 obtain⟨m,fi,la,h⟩:=h;have H1:=hid (m_has h.c h.o hk);unfold liRE;by_cases h1:k∈L
 case neg=>
  have HR:Hid (∃Z',Lm p L w Z'∧Gw w w Z Z'):=⟨Z,⟨m,fi,la,h⟩,Gw.same h.lt (Fr.refl _ _)⟩;rw[if_neg h1,pJ h1];rw[decide_eq_false h1] at H1;clear h ok hk h1;go_enter Tryz.func186,Tryz.ntmps186;go_wp2_with fail;refine H1.out.mono ?_;rintro e w1 ⟨rfl,hw⟩;obtain rfl:=hw.symm;go_wp2;go_ret;exact⟨by simp,HR.out⟩
 rw[if_pos h1];rw[decide_eq_true h1] at H1;obtain⟨pre,post,hL⟩:=List.append_of_mem h1;have nd:=ok.nd;rw[hL] at nd;have hkp:k∉pre:=fun e=>(List.nodup_append.1 nd).2.2 k e k (by simp) rfl
 have HA:Hid (∀w0,Fr (fun _=>False) w w0→Calls Tryz.prog 229 #[.pointer (some ⟨p,0,none⟩),.int .i64 k] w0 fun e w'=>e=.returned (.int .i64 (liL pre))∧Fr (fun _=>False) w0 w'):=fun w0 f=>by
  refine(AY (h.c.carry f id) (h.o.carry f fun _ _=>id) ok hl (fun e=>(h.ends e).1) h1).mono ?_;rintro e w' ⟨⟨pre',post',hL',he⟩,hf⟩;have hkp':k∉pre':=fun e=>by
   have:=ok.nd;rw[hL'] at this;exact(List.nodup_append.1 this).2.2 k e k (by simp) rfl
  obtain⟨rfl,rfl⟩:=lj (hL.symm.trans hL') hkp hkp';exact⟨he,hf⟩
 have HC:Hid (∀w0,Fr (fun _=>False) w w0→w0.cell? ⟨p,0,none⟩=some (.map m)):=fun w0 f=>(h.c.carry f id).c0
 have HLK:Hid (∀w0,Fr (fun _=>False) w w0→(Instr.lookup 197 (.map m) (.int .i64 k) false).run Tryz.prog w0=.ok (.int .i64 (liF post)) w0):=fun w0 f=>by
  have:=(h.o.carry f fun _ _=>id).look hk;rw[hL,lk_at hkp,Option.getD_some] at this;exact this
 have HH:=hid h;have HOK:=hid ok;have HND:=hid (And.intro hL (And.intro nd hkp));rw[show liR L k=pre++post by rw[hL];exact tQ nd];clear h ok h1 hL nd hkp;go_enter Tryz.func186,Tryz.ntmps186;go_wp2_with fail;refine H1.out.mono ?_;rintro e w1 ⟨rfl,hw⟩;obtain rfl:=hw.symm;have c0:=HC.out w.drew (Fr.refl _ _).drew;have k0:=HLK.out w.drew (Fr.refl _ _).drew;go_wp2_with fail;go_region_held3 (fun w'=>w'.cell? ⟨p,0,none⟩=some (.map m)∧(Instr.lookup 197 (.map m) (.int .i64 k) false).run Tryz.prog w'=.ok (.int .i64 (liF post)) w') (first|go_keep|exact⟨by assumption,by assumption⟩) (first|(go_at_call 229;refine(HA.out _ (Fr.refl _ _).drew).mono ?_;rintro e w1 ⟨rfl,hf1⟩;have F1:=hid (Fr.trans ((Fr.refl (fun _=>False) w).drew) hf1);have b0:=HC.out w1 F1.out;have k1:=HLK.out w1 F1.out;clear hf1))
 all_goals
  clear HA HC HLK H1 c0 k0 k1;obtain⟨hL,nd,hkp⟩:=HND.out;have ok:=HOK.out;have hne:L≠[]:=by rw[hL];simp
  have h:=HH.out;obtain⟨rfl,rfl⟩:=h.ends hne;rcases h.o with⟨_,e⟩|⟨B,rfl,O⟩
  ·exact(hne e).elim
  obtain⟨zB,hBp⟩:=h.zm B rfl;have HO1:=hid (O.carry F1.out id);have hwf:=aB hk.1 hk.2;obtain⟨w2,hdel,O2,F2⟩:=HO1.out.drop hwf 0;rw[fD,decide_eq_true (by rw[hL];simp),if_pos rfl] at O2;have L2:=(h.c.carry F1.out id).carry F2 (fun e=>hBp e.symm);have FF:Fr Z w w2:=Fr.trans' (F1.out.mono fun _ _ e=>e.elim) F2 fun i _ e=>e▸zB
  have hlen:L.length - 1=(pre++post).length:=by rw[hL,List.length_append,List.length_append,List.length_cons];omega
  have okp:LiOk pre:=by rw[hL] at ok;exact ok.left
  have okq:LiOk post:=by rw[hL] at ok;have:=ok.right;exact LiOk.right (pre:=[k]) this
  have hfi:pre≠[]→liF L=liF (pre++post):=fun e=>by rw[hL,nK e,nK e]
  have hla:post≠[]→liL L=liL (pre++post):=fun e=>by rw[hL,nJ _ e,show pre++k::post=(pre++[k])++post by simp,nJ _ e]
  have hqn:=okq.rm;have f0:=L2.fz;have c1:=L2.c1;have c2:=L2.c2;have c0:=L2.c0;have zp:=h.zp;have hS:∀{w1:World} {n cnt:Nat} {f:Int→Option Int} (o:Oi w1 B n f cnt) (j:Nat) (v:Value),Oi (w1.setCell ⟨p,j,none⟩ v) B n f cnt:=fun o j v=>o.carry (S:=fun i=>i=p) (Fr.setCell (S:=fun i=>i=p) (Fr.refl _ _) (p:=⟨p,j,none⟩) rfl _) hBp
  by_cases hp:pre=[]
  ·subst hp;have O3:Oi (w2.setCell ⟨p,1,none⟩ (.int .i64 (liF post))) B L.length (lk ([]++post)) (L.length - 1):=hS (O2.same fun z=>by rw[tP nd z,if_neg (fun e:([]:List Int)≠[]∧z=liL []=>e.1 rfl),←hL]) 1 _;by_cases hq:post=[]
   ·subst hq;have HR:Hid (∃Z',Lm p ([]++[]) ((w2.setCell ⟨p,1,none⟩ (.int .i64 (-1))).setCell ⟨p,2,none⟩ (.int .i64 (-1))) Z'∧Gw w ((w2.setCell ⟨p,1,none⟩ (.int .i64 (-1))).setCell ⟨p,2,none⟩ (.int .i64 (-1))) Z Z'):=h.out ((L2.set1 _).set2 _) (hS O3 2 _) hlen (fun e=>(e rfl).elim) (Fr.setCell (Fr.setCell FF (p:=⟨p,1,none⟩) zp _) (p:=⟨p,2,none⟩) zp _);clear HH HOK HND hL nd hkp ok hne h O HO1 O2 F2 F1 L2 FF hlen okp okq hfi hla O3 hS zB zp;go_wp2;go_ret;exact⟨by simp,HR.out⟩
   ·have HR:=hid (h.out (L2.set1 _) O3 hlen (fun e=>⟨rfl,hla hq⟩) (Fr.setCell FF (p:=⟨p,1,none⟩) zp _));have hq1:liF post≠ -1:=fun e=>hq (hqn.1 e)
    clear HH HOK HND hL nd hkp ok hne h O HO1 O2 F2 F1 L2 FF hlen okp okq hfi hla O3 hS zB zp hqn;go_wp2;go_ret;exact⟨by simp,HR.out⟩
  ·have hpn:liL pre≠ -1:=fun e=>hp (okp.tU.1 e)
   have hpw:=okp.last;have hqw:=okq.front;have hmem:liL pre∈pre:=dO hp;obtain⟨w3,hrun,O3,F3⟩:=O2.tight.store (by unfold maxLen;omega) (aB hpw.1 hpw.2) (aB hqw.1 hqw.2);rw[if_neg (fun e:liL pre=k=>hkp (e▸hmem)),fD,decide_eq_true (by rw[hL];exact List.mem_append_left _ hmem),if_pos rfl] at O3;have O4:Oi w3 B (L.length - 1+1) (lk (pre++post)) (L.length - 1):=O3.same fun z=>by
    rw[tP nd z,←hL];by_cases e:z=liL pre
    ·rw[if_pos e,if_pos ⟨hp,e⟩]
    ·rw[if_neg e,if_neg (fun m:pre≠[]∧z=liL pre=>e m.2)]
   have L3:=L2.carry F3 (fun e=>hBp e.symm);have FF3:Fr Z w w3:=Fr.trans' FF F3 fun i _ e=>e▸zB
   have c23:=L3.c2;have f3:=L3.fz;by_cases hq:post=[]
   ·subst hq;have HR:Hid (∃Z',Lm p (pre++[]) (w3.setCell ⟨p,2,none⟩ (.int .i64 (liL pre))) Z'∧Gw w (w3.setCell ⟨p,2,none⟩ (.int .i64 (liL pre))) Z Z'):=h.out (L3.set2 _) (hS O4 2 _) hlen (fun e=>⟨hfi hp,by rw[List.append_nil]⟩) (Fr.setCell FF3 (p:=⟨p,2,none⟩) zp _);clear HH HOK HND hL nd hkp ok hne h O HO1 O2 F2 F1 L2 FF hlen okp okq hfi hla O3 O4 hS zB zp FF3 L3 F3 hmem hp hqn;generalize liL pre=lp at *;generalize hz:liF []=z at *;obtain rfl:z= -1:=hz.symm;clear hz;go_wp2;go_ret;exact⟨by simp,HR.out⟩
   ·have HR:=hid (h.out L3 O4 hlen (fun e=>⟨hfi hp,hla hq⟩) FF3);have hq1:liF post≠ -1:=fun e=>hq (hqn.1 e)
    clear HH HOK HND hL nd hkp ok hne h O HO1 O2 F2 F1 L2 FF hlen okp okq hfi hla O3 O4 hS zB zp FF3 L3 F3 hmem hp hqn hq;generalize liL pre=lp at *;generalize liF post=fp at *;go_wp2;go_ret;exact⟨by simp,HR.out⟩
theorem AO(h:Lm p L w Z)(ok:LiOk L):Calls Tryz.prog 175 #[.pointer (some ⟨p,0,none⟩)] w fun e w'=>e=.returned (.int .i64 (liF L))∧Fr (fun _=>False) w w':=by
 have _:=ok;obtain⟨m,fi,la,h⟩:=h;refine(AX h.c h.o fun e=>(h.ends e).1).mono ?_;rintro e w' ⟨he,rfl⟩;exact⟨he,Fr.refl _ _⟩
end
end Go.Proofs.YtndhbnhobhkmaaaGreatDoor
namespace Go.Proofs.YtndhbnhobhkmaaaGreatDoor
abbrev Sq:Type:=Int×Int×Bool
def bump:List Sq→List Sq
 |[]=>[]
 |[s]=>[(s.1,s.2.1+1,s.2.2)]
 |s::t::r=>s::bump (t::r)
theorem dq:∀(L:List Sq) (s:Sq),bump (L++[s])=L++[(s.1,s.2.1+1,s.2.2)]
 |[],s=>rfl
 |[x],s=>rfl
 |x::y::r,s=>by
  have:=dq (y::r) s;simp only[List.cons_append] at this ⊢;unfold bump;rw[this]
def pcs(T:Tb)(a:Int):Nat→Option (List Sq)
 |0=>some []
 |k+1=>match pcs T a k with
  |none=>none
  |some L=>if tbF T ((a+k) / 512)<0 then none else if k=0∨(a+k) % 512=0 then some (L++[(tbF T ((a+k) / 512) * 512+(a+k) % 512,1,false)]) else some (bump L)
theorem gb{T:Tb}{a:Int}{k m:Nat}(h:pcs T a k=none)(hm:k≤m):pcs T a m=none:=by
 induction m with
 |zero=>
      obtain rfl:k=0:=by omega
      exact h
 |succ m ih=>
  by_cases e:k=m+1
  ·subst e;exact h
  ·unfold pcs;rw[ih (by omega)]
theorem fZ{T:Tb}{a:Int}{k:Nat}(h:tbF T ((a+k) / 512)<0){m:Nat}(hm:k<m):pcs T a m=none:=by
 refine gb (k:=k+1) ?_ hm;unfold pcs;split
 ·rfl
 ·rw[if_pos h]
theorem ig{T:Tb}{a:Int}{k:Nat}{L:List Sq}(h:pcs T a k=some L)(hf:¬tbF T ((a+k) / 512)<0)(hk:k=0∨(a+k) % 512=0):pcs T a (k+1)=some (L++[(tbF T ((a+k) / 512) * 512+(a+k) % 512,1,false)]):=by
 unfold pcs;rw[h];simp only;rw[if_neg hf,if_pos hk]
theorem eg{T:Tb}{a:Int}{k:Nat}{L:List Sq}(h:pcs T a k=some L)(hf:¬tbF T ((a+k) / 512)<0)(hk:¬(k=0∨(a+k) % 512=0)):pcs T a (k+1)=some (bump L):=by
 unfold pcs;rw[h];simp only;rw[if_neg hf,if_neg hk]
abbrev InWt(a n:Int):Prop:=0≤n∧131072≤a∧a≤3276800∧n≤3276800 - a
def piL(T:Tb)(a n:Int):List Sq:=if InWt a n then(pcs T a n.toNat).getD [] else[]
def piE(T:Tb)(a n:Int):Int:=if InWt a n∧(pcs T a n.toNat).isSome=true then 0 else 4
theorem fY{T:Tb}{a n:Int}(h:piE T a n=0):InWt a n∧pcs T a n.toNat=some (piL T a n):=by
 unfold piE at h;split at h
 case isFalse=>omega
 case isTrue e=>
  refine⟨e.1,?_⟩;unfold piL;rw[if_pos e.1];cases hp:pcs T a n.toNat with
  |none=>rw[hp] at e;simp at e
  |some L=>rfl
theorem td{T:Tb}{a n:Int}(h:piE T a n≠0):piE T a n=4∧piL T a n=[]:=by
 unfold piE at h ⊢;unfold piL;split
 case isTrue e=>rw[if_pos e] at h;exact absurd rfl h
 case isFalse e=>
  refine⟨rfl,?_⟩;by_cases hw:InWt a n
  ·rw[if_pos hw];cases hp:pcs T a n.toNat with
   |none=>rfl
   |some L=>exact absurd ⟨hw,by rw[hp];rfl⟩ e
  ·rw[if_neg hw]
theorem yY{T:Tb}{a n:Int}{L:List Sq}(h:InWt a n)(hp:pcs T a n.toNat=some L):piL T a n=L∧piE T a n=0:=by
 unfold piL piE;rw[if_pos h,if_pos ⟨h,by rw[hp];rfl⟩,hp];exact⟨rfl,rfl⟩
theorem AF{T:Tb}{a n:Int}(hp:pcs T a n.toNat=none):piL T a n=[]∧piE T a n=4:=by
 unfold piL piE;rw[hp];exact⟨by split<;>rfl,if_neg fun e=>absurd e.2 (by simp)⟩
theorem pi_out{T:Tb}{a n:Int}(h:¬InWt a n):piL T a n=[]∧piE T a n=4:=by
 unfold piL piE;rw[if_neg h,if_neg fun e=>h e.1];exact⟨rfl,rfl⟩
structure PcOk(T:Tb)(a:Int)(k:Nat)(L:List Sq):Prop where
 all:∀j (h:j<L.length),0≤L[j].1∧1≤L[j].2.1∧L[j].1 % 512+L[j].2.1≤512∧L[j].1 / 512=tbF T (a / 512+j)∧0≤tbF T (a / 512+j)
 sum:(L.map fun s=>s.2.1).sum=k
 last:(k=0∧L=[])∨∃L0 s,L=L0++[s]∧s.1 % 512+s.2.1=a+k - 512 * (a / 512+L0.length)∧0<k
theorem PcOk.snoc{T:Tb}{a:Int}{L:List Sq}{s:Sq}(h:∀j (h:j<L.length),0≤L[j].1∧1≤L[j].2.1∧L[j].1 % 512+L[j].2.1≤512∧L[j].1 / 512=tbF T (a / 512+j)∧0≤tbF T (a / 512+j))(hs:0≤s.1∧1≤s.2.1∧s.1 % 512+s.2.1≤512∧s.1 / 512=tbF T (a / 512+L.length)∧0≤tbF T (a / 512+L.length)):
  ∀j (h:j<(L++[s]).length),0≤(L++[s])[j].1∧1≤(L++[s])[j].2.1∧(L++[s])[j].1 % 512+(L++[s])[j].2.1≤512∧(L++[s])[j].1 / 512=tbF T (a / 512+j)∧0≤tbF T (a / 512+j):=fun j hj=>by
 rw[List.length_append,List.length_singleton] at hj;by_cases e:j<L.length
 ·rw[List.getElem_append_left e];exact h j e
 ·obtain rfl:j=L.length:=by omega
  simpa using hs
theorem lz{T:Tb}{a:Int}(ha:0≤a):∀(k:Nat) (L:List Sq),pcs T a k=some L→PcOk T a k L
 |0,L,h=>by
  unfold pcs at h;simp only[Option.some.injEq] at h;subst h;exact⟨fun j h=>by simp at h,rfl,.inl ⟨rfl,rfl⟩⟩
 |k+1,L,h=>by
  cases hp:pcs T a k with
  |none=>rw[gb hp (by omega)] at h;cases h
  |some M=>
   have ih:=lz ha k M hp;by_cases hf:tbF T ((a+k) / 512)<0
   ·rw[fZ hf (by omega)] at h;cases h
   by_cases hk:k=0∨(a+k) % 512=0
   ·rw[ig hp hf hk] at h;simp only[Option.some.injEq] at h;subst h;have hpage:(a+k) / 512=a / 512+M.length∧(k=0→(a+k) % 512=a % 512):=by
     rcases ih.last with⟨rfl,rfl⟩|⟨L0,s,rfl,h1,h2⟩
     ·simp
     ·have h0:(a+k) % 512=0:=by rcases hk with e|e;omega;exact e
      have h3:=(ih.all L0.length (by simp)).2.2.1;have h4:=(ih.all L0.length (by simp)).2.1;simp only[List.getElem_concat_length] at h3 h4;rw[List.length_append,List.length_singleton];refine⟨?_,fun e=>by omega⟩;omega
    rw[hpage.1] at hf ⊢;refine⟨PcOk.snoc ih.all ⟨?_,by show(1:Int)≤1;omega,?_,?_,by omega⟩,?_,.inr ⟨M,_,rfl,?_,by omega⟩⟩
    ·show 0≤tbF T (a / 512+M.length) * 512+(a+k) % 512
     generalize tbF T (a / 512+M.length)=q at *;omega
    ·show(tbF T (a / 512+M.length) * 512+(a+k) % 512) % 512+1≤512;generalize tbF T (a / 512+M.length)=q at *;omega
    ·show(tbF T (a / 512+M.length) * 512+(a+k) % 512) / 512=_;generalize tbF T (a / 512+M.length)=q at *;omega
    ·rw[List.map_append,List.sum_append,ih.sum];simp
    ·show(tbF T (a / 512+M.length) * 512+(a+k) % 512) % 512+1=a+((k+1:Nat):Int) - 512 * (a / 512+M.length);have:=hpage.1;generalize tbF T (a / 512+M.length)=q at *;omega
   ·rw[eg hp hf hk] at h;simp only[Option.some.injEq] at h;subst h;rcases ih.last with⟨rfl,_⟩|⟨L0,s,rfl,h1,h2⟩
    ·exact absurd (.inl rfl) hk
    ·rw[dq];have h3:=ih.all L0.length (by simp);simp only[List.getElem_concat_length] at h3;have hd:∀j (h:j<L0.length),0≤L0[j].1∧1≤L0[j].2.1∧L0[j].1 % 512+L0[j].2.1≤512∧L0[j].1 / 512=tbF T (a / 512+j)∧0≤tbF T (a / 512+j):=fun j hj=>by
      have:=ih.all j (by simp;omega)
      rwa [List.getElem_append_left hj] at this
     refine⟨PcOk.snoc hd ⟨h3.1,?_,?_,h3.2.2.2⟩,?_,.inr ⟨L0,_,rfl,?_,by omega⟩⟩
     ·show 1≤s.2.1+1;omega
     ·show s.1 % 512+(s.2.1+1)≤512;omega
     ·have:=ih.sum;rw[List.map_append,List.sum_append] at this ⊢;simp only[List.map_cons,List.map_nil,List.sum_cons,List.sum_nil] at this ⊢;omega
     ·show s.1 % 512+(s.2.1+1)=_;omega
theorem PcOk.apart{T:Tb}(ok:TbOk T){a:Int}{k:Nat}{L:List Sq}(h:PcOk T a k L){i j:Nat}(hi:i<L.length)(hj:j<L.length)(e:L[i].1 / 512=L[j].1 / 512):i=j:=by
 obtain⟨_,_,_,a4,a5⟩:=h.all i hi;obtain⟨_,_,_,b4,b5⟩:=h.all j hj;rw[a4,b4] at e;have m1:=ok.aP (v:=a / 512+i) (by omega);have m2:=ok.aP (v:=a / 512+j) (by omega);have h1:=aV ok m1;have h2:=aV ok m2;rw[e] at h1;omega
theorem PcOk.held{T:Tb}(ok:TbOk T){a:Int}{k:Nat}{L:List Sq}(h:PcOk T a k L){j:Nat}(hj:j<L.length):¬tbH T (L[j].1 / 512)<0:=by
 obtain⟨_,_,_,b4,b5⟩:=h.all j hj;have m:=ok.aP (v:=a / 512+j) (by omega);rw[b4,aV ok m];have:=(ok.at_ _ m).1;simp at this;omega
def fF(T:Tb)(v:Int):Option Int:=if tbF T v<0 then none else some (tbF T v)
def fH(T:Tb)(p:Int):Option Int:=if tbH T p<0 then none else some (tbH T p)
section
variable{T:Tb}{v p z:Int}
theorem ju(ok:TbOk T):fF T v=some p↔(v,p)∈T:=by
 unfold fF;constructor
 ·intro h;split at h
  ·cases h
  ·rename_i hf;have:=ok.aP hf;simp only[Option.some.injEq] at h;rw[h] at this;exact this
 ·intro h;have e:=aN ok h;have:=(ok.at_ _ h).2;simp only at this;rw[e,if_neg (by omega)]
theorem pY(ok:TbOk T):fH T p=some v↔(v,p)∈T:=by
 unfold fH;constructor
 ·intro h;split at h
  ·cases h
  ·rename_i hf;have:=ok.zx hf;simp only[Option.some.injEq] at h;rw[h] at this;exact this
 ·intro h;have e:=aV ok h;have:=(ok.at_ _ h).1;simp only at this;rw[e,if_neg (by omega)]
theorem jY{x y:Option Int}(h:∀a,x=some a↔y=some a):x=y:=by
 cases x with
 |none=>
  cases y with
  |none=>rfl
  |some b=>exact absurd ((h b).2 rfl) (by simp)
 |some a=>exact((h a).1 rfl).symm
theorem zF(ok:TbOk T)(v:Int):tbF T v=(fF T v).getD (-1):=by
 unfold fF;split
 ·rename_i h;rw[(ok.eO h).1];rfl
 ·rfl
theorem fH_get(ok:TbOk T)(p:Int):tbH T p=(fH T p).getD (-1):=by
 unfold fH;split
 ·rename_i h;rw[(ok.mw h).1];rfl
 ·rfl
theorem zE(ok:TbOk T)(ok2:TbOk (tbI T v p))(hv:tbF T v<0)(z:Int):fF (tbI T v p) z=if z=v then some p else fF T z:=jY fun a=>by
 rw[ju ok2,bL];by_cases e:z=v
 ·subst e;rw[if_pos rfl];constructor
  ·rintro(h|h)
   ·simp at h;rw[h]
   ·exact absurd rfl ((ok.eO hv).2 _ h)
  ·intro h;simp only[Option.some.injEq] at h;exact .inl (by rw[h])
 ·rw[if_neg e,ju ok];constructor
  ·rintro(h|h)
   ·simp at h;exact absurd h.1 e
   ·exact h
  ·exact .inr
theorem zD(ok:TbOk T)(ok2:TbOk (tbI T v p))(hp:tbH T p<0)(z:Int):fH (tbI T v p) z=if z=p then some v else fH T z:=jY fun a=>by
 rw[pY ok2,bL];by_cases e:z=p
 ·subst e;rw[if_pos rfl];constructor
  ·rintro(h|h)
   ·simp at h;rw[h]
   ·exact absurd rfl ((ok.mw hp).2 _ h)
  ·intro h;simp only[Option.some.injEq] at h;exact .inl (by rw[h])
 ·rw[if_neg e,pY ok];constructor
  ·rintro(h|h)
   ·simp at h;exact absurd h.2 e
   ·exact h
  ·exact .inr
theorem kj{x:Int×Int}:x∈tbU T v↔x∈T∧x.1≠v:=by unfold tbU;simp
theorem fF_rem(ok:TbOk T)(ok2:TbOk (tbU T v))(z:Int):fF (tbU T v) z=if z=v then none else fF T z:=jY fun a=>by
 rw[ju ok2,kj];by_cases e:z=v
 ·subst e;simp
 ·rw[if_neg e,ju ok];simp[e]
theorem fH_rem(ok:TbOk T)(ok2:TbOk (tbU T v))(hv:¬tbF T v<0)(z:Int):fH (tbU T v) z=if z=tbF T v then none else fH T z:=jY fun a=>by
 rw[pY ok2,kj];have hm:=ok.aP hv;by_cases e:z=tbF T v
 ·rw[if_pos e];constructor
  ·rintro⟨h1,h2⟩;rw[e] at h1;have q1:=aV ok h1;have q2:=aV ok hm;simp only at h2;omega
  ·intro h;cases h
 ·rw[if_neg e,pY ok];constructor
  ·exact fun h=>h.1
  ·intro h;refine⟨h,fun h2=>e ?_⟩;simp only at h2;rw[h2] at h;exact(aN ok h).symm
end
theorem vO{T:Tb}{v:Int}(ok:TbOk T)(hv:tbF T v<0):tbU T v=T:=List.filter_eq_self.2 fun x hx=>by simpa using (ok.eO hv).2 x hx
theorem oD:∀{T:Tb} {v:Int},TbOk T→¬tbF T v<0→(tbU T v).length+1=T.length
 |[],v,_,h=>absurd (show(-1:Int)<0 by decide) h
 |x::r,v,ok,h=>by
  unfold tbU;by_cases e:x.1=v
  ·have hr:r.filter (fun y=>decide (y.1≠v))=r:=List.filter_eq_self.2 fun y hy=>by
    have:=(List.pairwise_cons.1 ok.up).1 y hy;simp;omega
   rw[List.filter_cons_of_neg (by simp[e]),hr];simp
  ·have h2:¬tbF r v<0:=by unfold tbF at h;rw[if_neg e] at h;exact h
   have:=oD ok.tail h2;rw[List.filter_cons_of_pos (by simp[e])];simp only[List.length_cons];unfold tbU at this;omega
theorem pf{T:Tb}{a:Int}{k:Nat}{L:List Sq}(h:pcs T a k=some L)(hk:k=0∨(a+k) % 512=0)(hf:¬tbF T ((a+k) / 512)<0):∀m:Nat,(a+k) % 512+((m+1:Nat):Int)≤512→pcs T a (k+(m+1))=some (L++[(tbF T ((a+k) / 512) * 512+(a+k) % 512,((m+1:Nat):Int),false)])
 |0,_=>ig h hf hk
 |m+1,hm=>by
  have ih:=pf h hk hf m (by omega);have e1:(a+((k+(m+1):Nat):Int)) / 512=(a+k) / 512:=by omega
  have e2:(a+((k+(m+1):Nat):Int)) % 512=(a+k) % 512+(m+1):=by omega
  have:=eg ih (by rw[e1];exact hf) (by omega);rw[dq] at this;rw[show k+(m+1+1)=k+(m+1)+1 by omega,this];simp only[Option.some.injEq,List.append_cancel_left_eq,List.cons.injEq,Prod.mk.injEq,and_true,true_and];omega
end Go.Proofs.YtndhbnhobhkmaaaGreatDoor
namespace Go.Proofs.YtndhbnhobhkmaaaGreatDoor
open Go.RowKit
def Og(w:World)(m:Option Nat)(f:Int→Option Int)(cnt:Nat):Prop:=(m=none∧(∀x,f x=none)∧cnt=0)∨∃B,m=some B∧Oi w B cnt f cnt
def Tw(w:World)(t:Nat)(m1 m2:Option Nat):Prop:=w.heap[t]? =some (.cells #[.map m1,.map m2] 199 (0,0))
section
variable{w w':World}{t:Nat}{m m1 m2:Option Nat}{f:Int→Option Int}{cnt:Nat}
theorem Og.carry{S:Nat→Prop}(h:Og w m f cnt)(fr:Fr S w w')(hn:∀B,m=some B→¬S B):Og w' m f cnt:=by
 rcases h with h|⟨B,e,h⟩
 ·exact .inl h
 ·exact .inr ⟨B,e,h.carry fr (hn B e)⟩
theorem Og.fM(h:Og w m f cnt){x:Int}(hx:I64 x):(Instr.lookup 197 (.map m) (.int .i64 x) true).run Tryz.prog w=.ok (.tuple #[.int .i64 ((f x).getD 0),.bool (f x).isSome]) w:=by
 have hw:(Lit.int .i64 x).wf=true:=aB hx.1 hx.2;rcases h with⟨rfl,e,rfl⟩|⟨B,rfl,h⟩
 ·rw[e x];exact Maps.look_nil true bg Tryz.underlying197 (dV w) (bG hw)
 ·exact h.fM hw
theorem Tw.lt(h:Tw w t m1 m2):t<w.heap.size:=(Array.getElem?_eq_some_iff.1 h).1
theorem Tw.carry{S:Nat→Prop}(h:Tw w t m1 m2)(f:Fr S w w')(hn:¬S t):Tw w' t m1 m2:=(f.block t h.lt hn).trans h
theorem Tw.c0(h:Tw w t m1 m2):w.cell? ⟨t,0,none⟩=some (.map m1):=by unfold Tw at h;simp[World.cell?,h]
theorem Tw.c1(h:Tw w t m1 m2):w.cell? ⟨t,1,none⟩=some (.map m2):=by unfold Tw at h;simp[World.cell?,h]
theorem Tw.fz(h:Tw w t m1 m2)(j:Nat):w.frozen? ⟨t,j,none⟩=false:=by unfold Tw at h;simp[World.frozen?,h]
theorem Tw.set0(h:Tw w t m1 m2)(x:Option Nat):Tw (w.setCell ⟨t,0,none⟩ (.map x)) t x m2:=by unfold Tw at h ⊢;simp[World.setCell,Array.getElem?_modify,h]
theorem Tw.set1(h:Tw w t m1 m2)(x:Option Nat):Tw (w.setCell ⟨t,1,none⟩ (.map x)) t m1 x:=by unfold Tw at h ⊢;simp[World.setCell,Array.getElem?_modify,h]
end
structure Tn(t:Nat)(T:Tb)(w:World)(Z:Nat→Prop)(m1 m2:Option Nat):Prop where
 c:Tw w t m1 m2
 o1:Og w m1 (fF T) T.length
 o2:Og w m2 (fH T) T.length
 nn:m1=none↔m2=none
 zt:Z t
 z1:∀B,m1=some B→Z B∧B≠t
 z2:∀B,m2=some B→Z B∧B≠t
 ne:∀B,m1=some B→m2≠some B
 lt:∀i,Z i→i<w.heap.size
def Tm(t:Nat)(T:Tb)(w:World)(Z:Nat→Prop):Prop:=∃m1 m2,Tn t T w Z m1 m2
theorem Tm.good(t:Nat)(T:Tb):Good (Tm t T):=
 ⟨fun h f hs=>by
  obtain⟨m1,m2,h⟩:=h;exact⟨m1,m2,h.c.carry f (hs _ h.zt),h.o1.carry f fun B e=>hs _ (h.z1 B e).1,h.o2.carry f fun B e=>hs _ (h.z2 B e).1,h.nn,h.zt,h.z1,h.z2,h.ne,fun i hi=>Nat.lt_of_lt_of_le (h.lt i hi) f.size⟩,
 fun h k1 k2=>by
  obtain⟨m1,m2,h⟩:=h;exact⟨m1,m2,h.c,h.o1,h.o2,h.nn,k1 _ h.zt,fun B e=>⟨k1 _ (h.z1 B e).1,(h.z1 B e).2⟩,fun B e=>⟨k1 _ (h.z2 B e).1,(h.z2 B e).2⟩,h.ne,k2⟩⟩
theorem sk:∀{T:Tb} {v p:Int},TbOk T→¬tbF T v<0→tbI (tbU T v) v p=tbW T v p
 |[],v,p,_,h=>absurd (show(-1:Int)<0 by decide) h
 |x::r,v,p,ok,h=>by
  by_cases e:x.1=v
  ·have hr:∀y∈r,v<y.1:=fun y hy=>by have:=(List.pairwise_cons.1 ok.up).1 y hy;omega
   have h1:tbU (x::r) v=r:=by
    unfold tbU;rw[List.filter_cons_of_neg (by simp[e]),List.filter_eq_self.2 fun y hy=>by have:=hr y hy;simp;omega]
   have h2:tbW (x::r) v p=(v,p)::r:=by
    unfold tbW;rw[List.map_cons,if_pos e,e];congr 1;have:=List.map_congr_left (l:=r) (f:=fun x:Int×Int=>if x.1=v then(x.1,p) else x) (g:=id) fun y hy=>by have:=hr y hy;rw[if_neg (by omega)];rfl
    rw[this,List.map_id]
   rw[h1,h2];cases r with
   |nil=>rfl
   |cons y s=>
    unfold tbI;rw[if_neg (by have:=hr y (by simp);omega)]
  ·have h2:¬tbF r v<0:=by unfold tbF at h;rw[if_neg e] at h;exact h
   have hx:x.1<v:=(List.pairwise_cons.1 ok.up).1 _ (ok.tail.aP h2);have ih:=sk (p:=p) ok.tail h2;have h1:tbU (x::r) v=x::tbU r v:=by
    unfold tbU;rw[List.filter_cons_of_pos (by simp[e])]
   rw[h1];unfold tbI;rw[if_pos hx,ih];unfold tbW;rw[List.map_cons,if_neg e]
theorem Tb.few{T:Tb}(ok:TbOk T):T.length≤6144:=by
 have key:∀(U:Tb) (lo:Int),U.Pairwise (fun x y=>x.1<y.1)→(∀x∈U,lo≤x.1∧x.1≤6399)→lo≤6400→(U.length:Int)≤6400 - lo:=by
  intro U
  induction U with
  |nil=>intro lo _ _ h;simp;omega
  |cons x r ih=>
   intro lo hp ha hl;have hx:=ha x (by simp);have:=ih (x.1+1) (List.pairwise_cons.1 hp).2 (fun y hy=>by have:=(List.pairwise_cons.1 hp).1 y hy;have:=ha y (by simp[hy]);omega) (by omega);simp only[List.length_cons];omega
 have:=key T 256 ok.up (fun x hx=>(ok.at_ x hx).1) (by omega);omega
theorem nM{T:Tb}(ok:TbOk T){ss:List Int}(hp:ss.Perm (T.map Prod.fst)):ss.mergeSort (fun x y=>decide (x≤y))=T.map Prod.fst:=by
 have tr:∀a b c:Int,decide (a≤b)=true→decide (b≤c)=true→decide (a≤c)=true:=fun a b c h1 h2=>by simp only[decide_eq_true_eq] at *;omega
 have to:∀a b:Int,(decide (a≤b)||decide (b≤a))=true:=fun a b=>by simp only[Bool.or_eq_true,decide_eq_true_eq];omega
 refine List.Perm.eq_of_pairwise (le:=fun a b=>decide (a≤b)=true) (fun a b _ _ h1 h2=> ?_) (List.pairwise_mergeSort tr to ss) ?_ ((List.mergeSort_perm ss _).trans hp)
 ·simp only[decide_eq_true_eq] at h1 h2;omega
 ·refine List.pairwise_map.2 (ok.up.imp fun{x y} h=> ?_);simp only[decide_eq_true_eq];omega
end Go.Proofs.YtndhbnhobhkmaaaGreatDoor
namespace Go.Proofs.YtndhbnhobhkmaaaGreatDoor
open Ieee
def geB(x c:Nat):Bool:=FloatKind.f64.format.order x c==some .gt||FloatKind.f64.format.order x c==some .eq
def ltB(x c:Nat):Bool:=FloatKind.f64.format.order x c==some .lt
def whB(x:Nat)(L T:Int):Bool:=geB x (fb L)&&ltB x (fb T)&&(match floatToIntVal .f64 x .i64 with|some q=>FloatKind.f64.format.order (fb q) x==some .eq |none=>false)
theorem jT(x:Nat)(L T:Int)(hL0:0≤L)(hL:L<9007199254740992)(hT0:0≤T)(hT:T<9007199254740992)(h1:geB x (fb L)=true)(h2:ltB x (fb T)=true):
  ∃q:Int,floatToIntVal .f64 x .i64=some q∧L≤q∧q<T:=by
 have i0:=Is.fb L (by omega);have iT:=Is.fb T (by omega);have h1':((double.read x).order (double.read (fb L))==some .gt||(double.read x).order (double.read (fb L))==some .eq)=true:=h1;have h2':((double.read x).order (double.read (fb T))==some .lt)=true:=h2;clear h1 h2;unfold floatToIntVal;show ∃q:Int,(match (double.read x).toInt .zero with|some n=>if IntKind.i64.min≤n∧n≤IntKind.i64.max then some n else none|none=>none)=some q∧_;generalize double.read x=d at *;cases d with
 |infinity s=>
  obtain⟨s',m',i',K',e',_⟩:=i0;obtain⟨s2,m2,i2,K2,e2,_⟩:=iT;rw[e'] at h1';rw[e2] at h2';cases s<;>simp[Datum.order] at h1' h2'
 |nan s f=>simp[Datum.order] at h1'
 |number s m i=>
  have hK:0≤i+((-i).toNat:Int):=by omega
  rw[bk hK i0] at h1';rw[bk hK iT] at h2';simp only[Option.some_beq_some] at h1' h2';rw[iM,decide_eq_true_eq] at h1';have h2':signed s m (i+((-i).toNat:Int)).toNat<T * 2 ^ (-i).toNat:=by
   have:=eq_of_beq h2';rw[Int.compare_eq_lt] at this;exact this
  rw[show(i+((-i).toNat:Int)).toNat=i.toNat by omega] at h1' h2';rw[cd];generalize (-i).toNat=K at *;have e1:IntKind.i64.min= -9223372036854775808:=by decide+kernel
  have e2:IntKind.i64.max=9223372036854775807:=by decide+kernel
  have eL:(L * 2 ^ K)=((L.toNat * 2 ^ K:Nat):Int):=by
   rw[Int.natCast_mul,Int.natCast_pow,show((L.toNat:Nat):Int)=L by omega];rfl
  have eT:(T * 2 ^ K)=((T.toNat * 2 ^ K:Nat):Int):=by
   rw[Int.natCast_mul,Int.natCast_pow,show((T.toNat:Nat):Int)=T by omega];rfl
  rw[eL] at h1';rw[eT] at h2';have hq:L≤signed s (m * 2 ^ i.toNat / 2 ^ K) 0∧signed s (m * 2 ^ i.toNat / 2 ^ K) 0<T:=by
   unfold signed at h1' h2' ⊢;rw[Nat.shiftLeft_eq] at h1' h2';rw[Nat.shiftLeft_zero];cases s
   ·rw[if_neg (by decide)] at h1' h2' ⊢;have a1:L.toNat≤m * 2 ^ i.toNat / 2 ^ K:=(Nat.le_div_iff_mul_le (Nat.two_pow_pos K)).2 (by omega);have a2:m * 2 ^ i.toNat / 2 ^ K<T.toNat:=(Nat.div_lt_iff_lt_mul (Nat.two_pow_pos K)).2 (by omega);generalize m * 2 ^ i.toNat / 2 ^ K=z at *;omega
   ·rw[if_pos rfl] at h1' h2' ⊢;have hz:m * 2 ^ i.toNat=0:=by omega
    rw[hz] at h2' ⊢;have hLz:L.toNat * 2 ^ K=0:=by omega
    have hL2:L.toNat=0:=by
     rcases Nat.mul_eq_zero.1 hLz with e|e
     ·exact e
     ·have:=Nat.two_pow_pos K;omega
    have hT2:T.toNat≠0:=fun e=>by rw[e,Nat.zero_mul] at h2';omega
    rw[Nat.zero_div];omega
  generalize signed s (m * 2 ^ i.toNat / 2 ^ K) 0=q at *;refine⟨q,?_,hq.1,hq.2⟩;simp only[e1,e2];rw[if_pos (by omega)]
theorem xL:(4643211215818981376:Nat)=fb 256:=by decide+kernel
theorem pX:(4663758889118859264:Nat)=fb 6400:=by decide+kernel
theorem xK:(4647714815446351872:Nat)=fb 512:=by decide+kernel
end Go.Proofs.YtndhbnhobhkmaaaGreatDoor
