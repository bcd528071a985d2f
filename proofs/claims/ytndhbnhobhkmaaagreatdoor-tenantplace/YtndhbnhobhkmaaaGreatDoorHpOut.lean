/-
  Local pages go over into another window: in what order the program does so, mathematics; its own calls carry and outside.
  Which local pages lie in no colour of a window: the heap's own call outside.
-/
import Derived.Test.YtndhbnhobhkmaaaGreatDoorHpTopA
set_option maxRecDepth 20000
set_option maxHeartbeats 1000000
namespace Go.Proofs.YtndhbnhobhkmaaaGreatDoor
open Go.RowKit
open An
section
variable{k n q:Nat}{W:List Int}{m:Ms}{T:Tb}{L:List Hd}{v:Int}
theorem wR(h:Cq.inW k W q=false)(has:List Bool):Cq.aW k (Cq.giS has (q:Int)) W=Cq.aW k has W:=by
 funext p;unfold Cq.aW;by_cases e:p=q
 ·subst e;rw[h];simp
 ·have:(Cq.giS has (q:Int)).getD p true=has.getD p true:=by
   unfold Cq.giS;split
   ·rw[List.getD_eq_getElem?_getD,Int.toNat_natCast,List.getElem?_set_ne (fun e2=>e e2.symm),←List.getD_eq_getElem?_getD]
   ·rfl
  rw[this]
theorem tak_gi(h:Cq.inW k W q=false)(has:List Bool):Cq.takV k (Cq.giS has (q:Int)) W=Cq.takV k has W∧Cq.takS k (Cq.giS has (q:Int)) W=Cq.giS (Cq.takS k has W) (q:Int):=by
 have hl:(Cq.giS has (q:Int)).length=has.length:=Cq.jt _ _;have hP:Cq.takP k (Cq.giS has (q:Int)) W=Cq.takP k has W:=by unfold Cq.takP;rw[wR h,hl]
 refine⟨by unfold Cq.takV;rw[hP,hl],?_⟩;have hne:Cq.takP k has W<has.length→Cq.takP k has W≠q:=fun hlt e=>by
  rcases Cq.bF (Cq.aW k has W) has.length with⟨_,h2,_⟩|⟨h1,_⟩
  ·have h2:Cq.aW k has W (Cq.takP k has W)=true:=h2;rw[e] at h2;unfold Cq.aW at h2;rw[h] at h2;simp at h2
  ·have h1:Cq.takP k has W=has.length:=h1;omega
 unfold Cq.takS;rw[hP];generalize Cq.takP k has W=P at *;unfold Cq.giS;rw[List.length_set];by_cases hq:q<has.length
 ·rw[if_pos ⟨by omega,by omega⟩,if_pos ⟨by omega,by omega⟩,Int.toNat_natCast];by_cases hp:P<has.length
  ·exact List.set_comm _ _ (fun e=>hne hp e.symm)
  ·have a1:(has.set q false).set P true=has.set q false:=List.set_eq_of_length_le (by rw[List.length_set];omega);have a2:has.set P true=has:=List.set_eq_of_length_le (by omega);rw[a1,a2]
 ·rw[if_neg (by omega),if_neg (by omega)]
theorem Aa(h:Cq.inW k W q=false):∀(n:Nat) (has:List Bool),tkH k W n (Cq.giS has (q:Int))=Cq.giS (tkH k W n has) (q:Int)∧tkL k W n (Cq.giS has (q:Int))=tkL k W n has
 |0,_=>⟨rfl,rfl⟩
 |n+1,has=>by
  obtain⟨e1,e2⟩:=tak_gi h has;obtain⟨i1,i2⟩:=Aa h n (Cq.takS k has W);rw[tkH,tkH,tkL,tkL,e2,e1,i1,i2];exact⟨rfl,rfl⟩
theorem qR(l:List Int)(m:Ms)(T:Tb)(L:List Hd)(i:Nat)(hi:i<l.length):aw k W (l.take (i+1)) m T L=dF k W l[i] (aw k W (l.take i) m T L).1 (aw k W (l.take i) m T L).2.1 (aw k W (l.take i) m T L).2.2:=by
 induction l generalizing m T L i with
 |nil=>simp at hi
 |cons p r ih=>
  cases i with
  |zero=>simp[aw]
  |succ i=>
   simp only[List.length_cons] at hi;simp only[List.take_succ_cons,aw,List.getElem_cons_succ];exact ih _ _ _ i (by omega)
theorem sj:∀(T:Tb) (p u:Int),u≠v→tbF (tbW T v p) u=tbF T u
 |[],_,_,_=>rfl
 |x::r,p,u,h=>by
  have ih:=sj r p u h;unfold tbW at ih ⊢;rw[List.map_cons];unfold tbF;rw[ih];by_cases e:x.1=v
  ·rw[if_pos e,if_neg (by show ¬x.1=u;rw[e];exact fun e2=>h e2.symm),if_neg (by rw[e];exact fun e2=>h e2.symm)]
  ·rw[if_neg e]
theorem lM(m:Ms)(T:Tb)(L:List Hd){u:Int}(h:u≠v):tbF (dF k W v m T L).2.1 u=tbF T u:=by
 unfold dF;split
 ·rfl
 ·show tbF (tbS T v _) u=_
  unfold tbS;split
  ·exact sj _ _ _ h
  ·rfl
theorem ir:∀(vs:List Int) (m:Ms) (T:Tb) (L:List Hd),vs.Nodup→aw k W vs m T L=aw k W (vs.filter fun v=> !Cq.inW k W (tbF T v).toNat) m T L
 |[],_,_,_,_=>rfl
 |v::r,m,T,L,nd=>by
  rw[List.nodup_cons] at nd;by_cases e:Cq.inW k W (tbF T v).toNat=true
  ·rw[List.filter_cons_of_neg (by rw[e];simp)];have:dF k W v m T L=(m,T,L):=if_pos e;rw[aw,this];exact ir r m T L nd.2
  ·rw[List.filter_cons_of_pos (by simpa using e)];rw[aw,aw,ir r _ _ _ nd.2];congr 1;apply List.filter_congr;intro u hu;have hne:u≠v:=fun e2=>nd.1 (by rw[←e2];exact hu)
   rw[lM _ _ _ hne]
theorem lO:∀(vs:List Int) (m:Ms) (T:Tb) (L:List Hd) {u:Int},u∉vs→tbF (aw k W vs m T L).2.1 u=tbF T u
 |[],_,_,_,_,_=>rfl
 |v::r,m,T,L,u,h=>by
  simp only[List.mem_cons,not_or] at h;rw[aw,lO r _ _ _ h.2,lM _ _ _ h.1]
theorem mv_at{vs:List Int}(nd:vs.Nodup)(ho:∀v∈vs,Cq.inW k W (tbF T v).toNat=false)(m:Ms)(L:List Hd){j:Nat}(hj:j<vs.length):
  tbF (aw k W (vs.take j) m T L).2.1 vs[j]=tbF T vs[j]∧
  aw k W (vs.take (j+1)) m T L=(⟨Cq.giS (Cq.takS k (aw k W (vs.take j) m T L).1.has W) (tbF T vs[j]),over (over (aw k W (vs.take j) m T L).1.bs ((Cq.takV k (aw k W (vs.take j) m T L).1.has W).toNat * 512) (win (aw k W (vs.take j) m T L).1.bs ((tbF T vs[j]).toNat * 512))) ((tbF T vs[j]).toNat * 512) (nz 512),(aw k W (vs.take j) m T L).1.ss++[(tbF T vs[j] * 512,512,false),(Cq.takV k (aw k W (vs.take j) m T L).1.has W * 512,512,true),(tbF T vs[j] * 512,512,true)]⟩,tbS (aw k W (vs.take j) m T L).2.1 vs[j] (Cq.takV k (aw k W (vs.take j) m T L).1.has W),hMv (aw k W (vs.take j) m T L).2.2 vs[j] ((Cq.takV k (aw k W (vs.take j) m T L).1.has W).toNat * 512)):=by
 have hn:vs[j]∉vs.take j:=fun e=>by
  obtain⟨i,hi,e2⟩:=List.mem_iff_getElem.1 e;rw[List.length_take] at hi;rw[List.getElem_take] at e2;have:=(List.getElem_inj nd).1 e2;omega
 have hf:=lO (k:=k) (W:=W) (vs.take j) m T L hn;refine⟨hf,?_⟩;rw[qR vs m T L j hj];unfold dF;rw[hf,if_neg (by rw[ho _ (List.getElem_mem hj)];simp)]
theorem pB{vs:List Int}(nd:vs.Nodup)(ho:∀v∈vs,Cq.inW k W (tbF T v).toNat=false)(hp:∀v∈vs,0≤tbF T v)(m:Ms)(L:List Hd):∀j,j≤vs.length→(tkL k W vs.length m.has).drop j=tkL k W (vs.length - j) (aw k W (vs.take j) m T L).1.has
 |0,_=>by simp[aw]
 |j+1,h=>by
  have ih:=pB nd ho hp m L j (by omega);obtain⟨_,e⟩:=mv_at nd ho m L (j:=j) (by omega);rw[e];have hm:=List.getElem_mem (l:=vs) (n:=j) (by omega);have h2:=ho _ hm;have h3:tbF T vs[j]=((tbF T vs[j]).toNat:Int):=by have:=hp _ hm;omega
  rw[h3,(Aa h2 _ _).2];rw[show vs.length - j=(vs.length - (j+1))+1 by omega,tkL] at ih;have hd:(tkL k W vs.length m.has).drop (j+1)=((tkL k W vs.length m.has).drop j).tail:=by rw[List.tail_drop]
  rw[hd,ih];rfl
theorem pD{C:Nat→Prop}(hC:∀q,Cq.inW k W q=true→C q):∀(vs:List Int) (m:Ms) (T:Tb) (L:List Hd) (W0:List Int) (ln:Nat→List Int),HpOk C m ⟨W0,T,L,ln⟩→MsOk m→vs.Nodup→(∀v∈vs,¬tbF T v<0)→(∀v∈vs,Cq.inW k W (tbF T v).toNat=false)→vs.length≤Cq.frI k m.has W→Cq.frI k (aw k W vs m T L).1.has W+vs.length=Cq.frI k m.has W
 |[],_,_,_,_,_,_,_,_,_,_,_=>rfl
 |v::r,m,T,L,W0,ln,h,ok,nd,hv,ho,hf=>by
  rw[List.length_cons] at hf ⊢;rw[List.nodup_cons] at nd;have o:=zc hC h ok (v:=v) (hv v (by simp)) (.inr (by omega));have hne:∀u∈r,u≠v:=fun u hu e=>nd.1 (e▸hu)
  have hfr:=o.fr;rw[ho v (by simp)] at hfr;simp only[Bool.false_eq_true,if_false] at hfr;have ih:=pD hC r _ _ _ W0 ln (o.ok W0 ln h) o.ms nd.2 (fun u hu=>by rw[o.far u (hne u hu)];exact hv u (List.mem_cons_of_mem _ hu)) (fun u hu=>by rw[o.far u (hne u hu)];exact ho u (List.mem_cons_of_mem _ hu)) (by omega);rw[aw];omega
def mvP(pg:Nat→Option (Nat×Pg))(v b:Nat):Nat→Option (Nat×Pg):=match pg v with
 |none=>pg
 |some y=>fset pg v (some (y.1,y.2.at b))
theorem zd{pg:Nat→Option (Nat×Pg)}{v b u:Nat}(e:u≠v):mvP pg v b u=pg u:=by
 unfold mvP;cases pg v with
 |none=>rfl
 |some y=>exact aL _ _ e
theorem bm.mv{R:Rs}{Wd:List Int}{ln:Nat→List Int}{v b:Nat}{p:Int}(r:bm R ⟨Wd,T,L,ln⟩)(hv:v<6400):bm ⟨R.W,tbS R.T v p,R.sh,R.ln,mvP R.pg v b,R.cnt⟩ ⟨Wd,tbS T v p,hMv L v b,ln⟩:=by
 have key:∀u g,u<6400→((∃p,mvP R.pg v b u=some (p,g))↔∃y∈hMv L v b,y.kind≤7∧lo y.kind y.slot=(u:Int)∧y.pg=g):=fun u g hu=>by
  have hr:=r.pg u;by_cases e:u=v
  ·subst e;unfold mvP;cases hp:R.pg u with
   |none=>
    dsimp only;rw[hp];constructor
    ·rintro⟨p,h⟩;cases h
    ·rintro⟨y,hy,h1,h2,h3⟩;obtain⟨x,hx,rfl⟩:=bE.1 hy;rw[(au _ x).1] at h1 h2;rw[(au _ x).2.1] at h2;obtain⟨p,h4⟩:=(hr x.pg hu).2 ⟨x,hx,h1,h2,rfl⟩;rw[hp] at h4;cases h4
   |some z=>
    dsimp only;rw[aq];constructor
    ·rintro⟨p,h⟩;simp only[Option.some.injEq,Prod.mk.injEq] at h;obtain⟨x,hx,h1,h2,h3⟩:=(hr z.2 hu).1 ⟨z.1,hp⟩;refine⟨mvd u b x,bE.2 ⟨x,hx,rfl⟩,by rw[(au _ x).1];exact h1,by rw[(au _ x).1,(au _ x).2.1];exact h2,?_⟩;unfold mvd;rw[if_pos ⟨h1,h2⟩,←h.2,←h3]
    ·rintro⟨y,hy,h1,h2,h3⟩;obtain⟨x,hx,rfl⟩:=bE.1 hy;rw[(au _ x).1] at h1 h2;rw[(au _ x).2.1] at h2;obtain⟨p,h4⟩:=(hr x.pg hu).2 ⟨x,hx,h1,h2,rfl⟩;rw[hp] at h4;simp only[Option.some.injEq] at h4;subst h4;refine⟨p,?_⟩;rw[←h3];unfold mvd;rw[if_pos ⟨h1,h2⟩]
  ·rw[zd e,hr g hu];constructor
   ·rintro⟨x,hx,h1,h2,h3⟩;refine⟨mvd v b x,bE.2 ⟨x,hx,rfl⟩,by rw[(au _ x).1];exact h1,by rw[(au _ x).1,(au _ x).2.1];exact h2,?_⟩;unfold mvd;rw[if_neg fun k=>e (by have:=k.2;rw[h2] at this;omega)];exact h3
   ·rintro⟨y,hy,h1,h2,h3⟩;obtain⟨x,hx,rfl⟩:=bE.1 hy;rw[(au _ x).1] at h1 h2;rw[(au _ x).2.1] at h2;refine⟨x,hx,h1,h2,?_⟩;unfold mvd at h3;rw[if_neg fun k=>e (by have:=k.2;rw[h2] at this;omega)] at h3;exact h3
 refine⟨r.W,by show tbS R.T v p=tbS T v p;rw[r.T],fun c hc=> ?_,r.ln,key,fun u hu=> ?_,?_⟩
 ·rw[r.sh c hc];exact oM (pS _).symm c
 ·show mvP R.pg v b u=none
  rw[zd (by omega)];exact r.hi u hu
 ·show R.cnt=pgN (mvP R.pg v b)
  rw[r.cn];unfold mvP;cases hy:R.pg v with
  |none=>rfl
  |some y=>exact(pa (by rw[hy];rfl)).symm
end
section
variable{W w:World}{x:Px}{M:Ms}{R:Rs}{O:World→(Nat→Prop)→Prop}{ts:List (World→(Nat→Prop)→Prop)}
theorem BE(cx:Cx W O)(h:aa W w (hl x M R O ts))(ok:TbOk R.T){v p o:Nat}(hv:v<6400)(hsw:SwOk R.T v p)(ho:tbF R.T v=o)(hp:p * 512+512≤M.bs.length)(hq:o * 512+512≤M.bs.length)(hk:M.ss.length≤990000)(hft:∀y,R.pg v=some y→y.2.Fit M.bs.length):
  Calls Tryz.prog 104 #[.pointer (some ⟨x.h,0,none⟩),.int .i64 (v:Int),.int .i64 (p:Int)] w fun e w'=>e=.returned (.tuple #[])∧aa W w' (hl x ⟨Cq.giS M.has (o:Int),over (over M.bs (p * 512) (win M.bs (o * 512))) (o * 512) (nz 512),M.ss++[((o:Int) * 512,512,false),((p:Int) * 512,512,true),((o:Int) * 512,512,true)]⟩ ⟨R.W,tbS R.T v p,R.sh,R.ln,mvP R.pg v (p * 512),R.cnt⟩ O ts):=by
 have hle:=rR h;have hiv:I64 (v:Int):=⟨by omega,by omega⟩;have c3:=di (aI h);have H1:=hid (zK h ok hiv (p:=(p:Int)) ⟨by omega,by omega⟩);have e1:tbSV R.T v p=(o:Int):=by unfold tbSV;rw[if_pos hsw,ho]
 have e2:tbSE R.T v p=0:=by unfold tbSE;rw[if_neg (fun e=>e hsw.1),if_neg hsw.2.1,if_pos hsw.2.2]
 rw[e1,e2] at H1;have wl:(win M.bs (o * 512)).length=512:=bu hq;have hb1:(over M.bs (p * 512) (win M.bs (o * 512))).length=M.bs.length:=al _ _ _ (by rw[wl];exact hp);have hb2:(over (over M.bs (p * 512) (win M.bs (o * 512))) (o * 512) (nz 512)).length=M.bs.length:=by rw[al _ _ _ (by rw[aC,hb1];exact hq),hb1]
 have HC:Hid (∀w1,aa W w1 (hl x M ⟨R.W,tbS R.T v p,R.sh,R.ln,R.pg,R.cnt⟩ O ts)→Calls Tryz.prog 146 #[.pointer (some ⟨x.a,0,none⟩),.int .i64 ((p:Int) * 512),.int .i64 ((o:Int) * 512),.int .i64 512] w1 fun e w'=>e=.returned (.int .i64 0)∧aa W w' (hl x ⟨M.has,over M.bs (p * 512) (win M.bs (o * 512)),M.ss++[((o:Int) * 512,512,false)]++[((p:Int) * 512,512,true)]⟩ ⟨R.W,tbS R.T v p,R.sh,R.ln,R.pg,R.cnt⟩ O ts)):=fun w1 h1=>zP h1 hp hq (by omega)
 have HW:Hid (∀w1,aa W w1 (hl x ⟨M.has,over M.bs (p * 512) (win M.bs (o * 512)),M.ss++[((o:Int) * 512,512,false)]++[((p:Int) * 512,512,true)]⟩ ⟨R.W,tbS R.T v p,R.sh,R.ln,R.pg,R.cnt⟩ O ts)→Calls Tryz.prog 147 #[.pointer (some ⟨x.h,0,none⟩),.int .i64 (o:Int)] w1 fun e w'=>e=.returned (.tuple #[])∧aa W w' (hl x ⟨Cq.giS M.has (o:Int),over (over M.bs (p * 512) (win M.bs (o * 512))) (o * 512) (nz 512),M.ss++[((o:Int) * 512,512,false),((p:Int) * 512,512,true),((o:Int) * 512,512,true)]⟩ ⟨R.W,tbS R.T v p,R.sh,R.ln,R.pg,R.cnt⟩ O ts)):=fun w1 h1=>by
  have:=zv cx h1 (p:=o) (by rw[hb1];exact hq) (by simp;omega);simp only[List.append_assoc,List.cons_append,List.nil_append] at this;exact this
 have HL:Hid (∀w1 M1 T1,aa W w1 (hl x M1 ⟨R.W,T1,R.sh,R.ln,R.pg,R.cnt⟩ O ts)→w1.cell? ⟨x.h,36,none⟩=some (.map (some x.pb))∧(Instr.lookup 143 (.map (some x.pb)) (.int .i64 (v:Int)) true).run Tryz.prog w1=.ok (.tuple #[ptV ((R.pg v).map Prod.fst),.bool ((R.pg v).map Prod.fst).isSome]) w1):=fun w1 M1 T1 h1=>by
  have lk:=(h1.op17 8 rfl).fM (x:=(v:Int)) (jE hiv);rw[ed rfl] at lk;exact⟨ml (aI h1),lk⟩
 have w1:=pw (x:=(p:Int) * 512) (by omega);have w2:=pw (x:=(o:Int) * 512) (by omega);have HM:Hid (∀w1 q g,R.pg v=some (q,g)→aa W w1 (hl x ⟨Cq.giS M.has (o:Int),over (over M.bs (p * 512) (win M.bs (o * 512))) (o * 512) (nz 512),M.ss++[((o:Int) * 512,512,false),((p:Int) * 512,512,true),((o:Int) * 512,512,true)]⟩ ⟨R.W,tbS R.T v p,R.sh,R.ln,R.pg,R.cnt⟩ O ts)→Calls Tryz.prog 148 #[.pointer (some ⟨q,0,none⟩),.int .i64 ((p:Int) * 512)] w1 fun e w'=>e=.returned (.int .i64 0)∧aa W w' (hl x ⟨Cq.giS M.has (o:Int),over (over M.bs (p * 512) (win M.bs (o * 512))) (o * 512) (nz 512),M.ss++[((o:Int) * 512,512,false),((p:Int) * 512,512,true),((o:Int) * 512,512,true)]⟩ ⟨R.W,tbS R.T v p,R.sh,R.ln,fset R.pg v (some (q,g.at (p * 512))),R.cnt⟩ O ts)):=fun w1 q g e h1=>by
  have hfit:Fits (over (over M.bs (p * 512) (win M.bs (o * 512))) (o * 512) (nz 512)).length ((p:Int) * 512):=by rw[hb2];exact⟨by omega,by omega,by omega⟩
  have:=zN h1 (cx.at h1) hv e (by show g.Fit (over _ _ _).length;rw[hb2];exact hft _ e) (b:=(p:Int) * 512) ⟨by omega,by omega⟩;unfold pmE pmS at this;rw[if_pos hfit,if_pos hfit,show((p:Int) * 512).toNat=p * 512 by omega] at this;exact this
 clear h ok hsw ho hp hq hk hft hle hiv e1 e2 wl hb1 hb2 cx;unfold mvP;cases hpg:R.pg v with
 |none=>
  rw[hpg] at HL;simp only[Option.map_none,ptV] at HL ⊢;clear HM;generalize (v:Int)=v' at *;generalize (p:Int)=p' at *;generalize (o:Int)=o' at *;generalize hp5:p' * 512=p5 at *;generalize ho5:o' * 512=o5 at *;go_enter Tryz.func104,Tryz.ntmps104;go_wp2_with fail;refine H1.out.mono ?_;rintro e u1 ⟨rfl,h1⟩;have c0:=js (aI h1);have H2:=hid (HC.out _ h1);clear h1 H1 HC c3;go_wp2_with fail;refine H2.out.mono ?_;rintro e u2 ⟨rfl,h2⟩;have H3:=hid (HW.out _ h2);clear h2 H2 HW c0;go_wp2_with fail;refine H3.out.mono ?_;rintro e u3 ⟨rfl,h3⟩;obtain⟨cp,lk⟩:=HL.out _ _ _ h3;have T3:=hid h3;clear h3 H3 HL;go_wp2;go_end0;exact⟨rfl,T3.out⟩
 |some y=>
  obtain⟨q,g⟩:=y;rw[hpg] at HL;simp only[Option.map_some,ptV] at HL ⊢;have HM2:Hid _:=fun w1=>HM.out w1 q g hpg
  clear HM;generalize (v:Int)=v' at *;generalize (p:Int)=p' at *;generalize (o:Int)=o' at *;generalize hp5:p' * 512=p5 at *;generalize ho5:o' * 512=o5 at *;go_enter Tryz.func104,Tryz.ntmps104;go_wp2_with fail;refine H1.out.mono ?_;rintro e u1 ⟨rfl,h1⟩;have c0:=js (aI h1);have H2:=hid (HC.out _ h1);clear h1 H1 HC c3;go_wp2_with fail;refine H2.out.mono ?_;rintro e u2 ⟨rfl,h2⟩;have H3:=hid (HW.out _ h2);clear h2 H2 HW c0;go_wp2_with fail;refine H3.out.mono ?_;rintro e u3 ⟨rfl,h3⟩;obtain⟨cp,lk⟩:=HL.out _ _ _ h3;have H4:=hid (HM2.out _ h3);clear h3 H3 HL HM2;go_wp2_with fail;refine H4.out.mono ?_;rintro e u4 ⟨rfl,h4⟩;have T4:=hid h4;clear h4 H4;go_wp2;go_end0;exact⟨rfl,T4.out⟩
end
def outs(k:Nat)(W:List Int)(T:Tb)(l:List Int):List Int:=l.filter fun v=> !Cq.inW k W (tbF T v).toNat
theorem tw(k:Nat)(W:List Int)(T:Tb)(l:List Int)(z:Nat)(hz:z<l.length):outs k W T (l.take (z+1))=outs k W T (l.take z)++(if Cq.inW k W (tbF T l[z]).toNat=true then[] else[l[z]]):=by
 unfold outs;rw[List.take_succ_eq_append_getElem hz,List.filter_append];congr 1;by_cases e:Cq.inW k W (tbF T l[z]).toNat=true
 ·rw[if_pos e,List.filter_cons_of_neg (by rw[e];simp)];rfl
 ·rw[if_neg e,List.filter_cons_of_pos (by simpa using e)];rfl
theorem po(k:Nat)(W:List Int)(T:Tb)(l:List Int):(outs k W T l).length≤l.length:=List.length_filter_le _ _
theorem BA{k q:Nat}{W:List Int}:decide (((q % k:Nat):Int)∈W)=Cq.inW k W q:=by
 unfold Cq.inW;cases h:W.any fun x=>x==((q % k:Nat):Int)
 ·rw[decide_eq_false_iff_not];intro e;rw[List.any_eq_false] at h;exact h _ e (by simp)
 ·rw[decide_eq_true_iff];rw[List.any_eq_true] at h;obtain⟨x,hx,e⟩:=h;rw[beq_iff_eq] at e;rw[←e];exact hx
section
variable{W w:World}{x:Px}{M:Ms}{R:Rs}{O:World→(Nat→Prop)→Prop}{ts:List (World→(Nat→Prop)→Prop)}
theorem uh(cx:Cx W O)(h:aa W w (hl x M R O ts))(ok:TbOk R.T)(hp:∀y∈R.T,0≤y.2∧y.2.toNat<M.has.length)(_hc:M.has.length≤4096)(ht:R.T.length≤4096){j:Nat}{ad:Option Addr}{l:List Int}(hj:fT x M.bs M.ss R O ts j ad l)(hm:l.length≤100000)(cap:Nat):
  Calls Tryz.prog 102 #[.pointer (some ⟨x.h,0,none⟩),.slice ad l.length cap] w fun e w'=>∃ad1 ad' cap',e=.returned (.slice ad' (outs x.k l R.T (R.T.map Prod.fst)).length cap')∧aa W w' (hl x M R O (ts++[Lv ad1 (R.T.map Prod.fst)]++[Lv ad' (outs x.k l R.T (R.T.map Prod.fst))])):=by
 have c3:=di (aI h);have H1:=hid (yB h ok);have HF:Hid (∀w1 ts1,aa W w1 (hl x M R O ts1)→∀v,I64 v→Calls Tryz.prog 142 #[.pointer (some ⟨x.t,0,none⟩),.int .i64 v] w1 fun e w'=>e=.returned (.int .i64 (tbF R.T v))∧aa W w' (hl x M R O ts1)):=fun w1 ts1 h1 v hv=>(rI h1 ok hv).mono fun _ _ ⟨he,f⟩=>⟨he,h1.kept f⟩
 have HC:Hid (∀w1 ts1,aa W w1 (hl x M R O ts1)→∀p,Calls Tryz.prog 98 #[.pointer (some ⟨x.m,0,none⟩),.int .i64 p] w1 fun e w'=>e=.returned (.int .i64 (Cq.colI M.has.length x.k p))∧aa W w' (hl x M R O ts1)):=fun w1 ts1 h1 p=>(vA h1 (cx.at h1) p).mono fun _ _ ⟨he,f⟩=>⟨he,h1.kept f⟩
 have HH:Hid (∀w1 z,aa W w1 (hl x M R O (ts++z))→∀c,Calls Tryz.prog 99 #[.slice ad l.length cap,.int .i64 c] w1 fun e w'=>e=.returned (.bool (decide (c∈l)))∧aa W w' (hl x M R O (ts++z))):=fun w1 z h1 c=>(Cq.nT cap (h1.nums j (hj.2 M.has z)) hm c).mono fun _ _ ⟨he,hw⟩=>⟨he,hw▸h1⟩
 have HV:Hid (∀z (hz:z<(R.T.map Prod.fst).length),I64 (R.T.map Prod.fst)[z]∧decide (Cq.colI M.has.length x.k (tbF R.T (R.T.map Prod.fst)[z])∈l)=Cq.inW x.k l (tbF R.T (R.T.map Prod.fst)[z]).toNat):=fun z hz=>by
  have hz2:z<R.T.length:=by simpa using hz
  have hm:=List.getElem_mem hz2;have e1:(R.T.map Prod.fst)[z]=R.T[z].1:=by simp
  have hv:=(ok.at_ _ hm).1;have hq:=hp _ hm;rw[e1,aN (v:=R.T[z].1) (p:=R.T[z].2) ok hm];refine⟨by unfold VOk at hv;exact⟨by omega,by omega⟩,?_⟩;rw[←BA];unfold Cq.colI;rw[if_pos ⟨hq.1,by omega⟩]
 have hlen:(R.T.map Prod.fst).length≤4096:=by simpa using ht
 have HS:Hid (∀z (hz:z<(R.T.map Prod.fst).length),outs x.k l R.T ((R.T.map Prod.fst).take (z+1))=outs x.k l R.T ((R.T.map Prod.fst).take z)++(if Cq.inW x.k l (tbF R.T (R.T.map Prod.fst)[z]).toNat=true then[] else[(R.T.map Prod.fst)[z]])):=fun z hz=>tw _ _ _ _ z hz
 have HB:Hid (∀z,(outs x.k l R.T ((R.T.map Prod.fst).take z)).length≤4096):=fun z=>Nat.le_trans (po _ _ _ _) (Nat.le_trans (List.length_take_le' _ _) hlen)
 have HE:Hid (outs x.k l R.T ((R.T.map Prod.fst).take (R.T.map Prod.fst).length)=outs x.k l R.T (R.T.map Prod.fst)):=by show _=_;rw[List.take_length]
 have H0:Hid (outs x.k l R.T ((R.T.map Prod.fst).take 0)=[]):=rfl;clear h ok hp ht hj hm cx _hc;generalize R.T.map Prod.fst=L at *;generalize hOO:(fun z=>outs x.k l R.T (L.take z))=OO at *;have hO:∀z,outs x.k l R.T (L.take z)=OO z:=fun z=>congrFun hOO z
 simp only[hO] at HS HB HE H0;rw[←HE.out];clear hO hOO HE;go_enter Tryz.func102,Tryz.ntmps102;go_wp2_with fail;refine H1.out.mono ?_;rintro e w1 ⟨ad1,cap1,rfl,h1⟩;have T1:Hid (aa W w1 (hl x M R O ((ts++[Lv ad1 L])++[Rw 0 (.slice none 0 0) (OO 0)]))):=by rw[H0.out];exact aa.more h1 (Rw.good ..) (Rw.empty 0 w1) (Fr.refl _ _) fun _ e=>e.elim
 clear h1 H1 c3 H0;have HH2:Hid (∀w1 y r,aa W w1 (hl x M R O ((ts++[Lv ad1 L])++[Rw 0 y r]))→∀c,Calls Tryz.prog 99 #[.slice ad l.length cap,.int .i64 c] w1 fun e w'=>e=.returned (.bool (decide (c∈l)))∧aa W w' (hl x M R O ((ts++[Lv ad1 L])++[Rw 0 y r]))):=fun w1 y r h1 c=>by
  rw[List.append_assoc] at h1 ⊢;exact HH.out w1 _ h1 c
 clear HH;have hix:∀y r,(hl x M R O ((ts++[Lv ad1 L])++[Rw 0 y r]))[ts.length+10]? =some (Lv ad1 L):=fun y r=>by
  show((ts++[Lv ad1 L])++[Rw 0 y r])[ts.length]? =_;simp
 have HIX:=hid hix;clear hix;go_wp2_with fail;go_loopw [5,14] (fun y i wr=>∃z:Nat,z≤L.length∧i=.int .i64 z∧Hid (aa W wr (hl x M R O ((ts++[Lv ad1 L])++[Rw 0 y (OO z)])))) (fun _ i _=>L.length - (intOf i).toNat)
 case atStart=>exact⟨0,by omega,rfl,T1⟩
 case round=>
  clear T1;obtain⟨z,hz,rfl,T⟩:=hrel;by_cases hlt:z<L.length
  ·obtain⟨bb,off,rfl,hbb,hc1⟩:=T.out.nums (ts.length+10) (HIX.out _ _) z hlt;obtain⟨hv,hcol⟩:=HV.out z hlt;have HSz:=hid (HS.out z hlt);have HBz:=hid (HB.out z);have HFz:=hid fun w1 ts1 h1=>HF.out w1 ts1 h1 _ hv
   have TD:=hid (T.out.kept (Fr.refl _ _).drew);have d1:=eJ (aI TD.out);have d3:=di (aI TD.out);clear HV HS HF HB T hv;generalize L[z]=v at *;generalize tbF R.T v=pv at *;have HCz:=hid fun w1 ts1 h1=>HC.out w1 ts1 h1 pv
   have HHz:=hid fun w1 y r h1=>HH2.out w1 y r h1 (Cq.colI M.has.length x.k pv)
   rw[hcol] at HHz;clear hcol HC HH2;generalize Cq.colI M.has.length x.k pv=cv at *;generalize Cq.inW x.k l pv.toNat=bv at *;generalize hoz:OO z=oz at *;generalize hoz1:OO (z+1)=oz1 at *;clear hoz;have HOZ:=hid hoz1;clear hoz1;go_wp2_with fail;go_region_held3 (fun w'=>w'.cell? ⟨x.h,1,none⟩=some (.pointer (some ⟨x.m,0,none⟩))∧w'.cell? ⟨x.h,3,none⟩=some (.pointer (some ⟨x.t,0,none⟩))) (first|exact⟨by assumption,by assumption⟩|go_keep) (first|(go_at_call 99;refine(HHz.out _ _ _ U2.out).mono ?_;rintro e u3 ⟨rfl,g3⟩;have U3:=hid g3;have f1:=eJ (aI g3);have f3:=di (aI g3);clear g3)|(go_at_call 98;refine(HCz.out _ _ U1.out).mono ?_;rintro e u2 ⟨rfl,g2⟩;have U2:=hid g2;have e1:=eJ (aI g2);have e3:=di (aI g2);clear g2)|(go_at_call 142;refine(HFz.out _ _ TD.out).mono ?_;rintro e u1 ⟨rfl,g1⟩;have U1:=hid g1;have c1:=eJ (aI g1);have c3:=di (aI g1);clear g1));clear TD HFz HCz HHz d1 d3 U1 U2 e1 e3 c1 c3 f1 f3;cases bv with
   |true=>
    have U4:Hid (aa W u3 (hl x M R O ((ts++[Lv (some ⟨bb,off,none⟩) L])++[Rw 0 u5 (OO (z+1))]))):=by
     rw[HOZ.out,HSz.out];simp only[if_true,List.append_nil];exact U3.out
    clear U3 HSz HOZ;go_wp2;go_roundw
    case rel=>exact⟨z+1,by omega,by go_num,U4⟩
    case measure=>simp[intOf];omega
   |false=>
    have HR:=hid (U3.out.push ((ts++[Lv (some ⟨bb,off,none⟩) L]).length+10) cA).1;go_wp2_with (at_builtin;refine oY rfl (.tmp 32) (.tmp 34) rfl 0 _ _ v rfl (HR.out.alloc _) u3.heap.size rfl (by simp) (by have:=HBz.out;omega) (by omega) ?_);intro g cap6 w6 hown hg hw6;have U4:Hid (aa W w6 (hl x M R O ((ts++[Lv (some ⟨bb,off,none⟩) L])++[Rw 0 (.slice (some ⟨g,0,none⟩) (oz.length+1) cap6) (OO (z+1))]))):=by
     have:=(U3.out.push ((ts++[Lv (some ⟨bb,off,none⟩) L]).length+10) cA).2 ((Fr.refl _ _).alloc _) hown rfl hg (hw6.imp id fun e=>by rw[e];simp);rw[pP] at this;rw[HOZ.out,HSz.out];simp only[Bool.false_eq_true,if_false];exact this
    clear hown hg hw6 HR U3 HSz HOZ;generalize oz.length+1=ln at *;go_wp2;go_roundw
    case rel=>exact⟨z+1,by omega,by go_num,U4⟩
    case measure=>simp[intOf];omega
  ·obtain rfl:z=L.length:=by omega
   go_wp2;obtain⟨ad2,cap2,rfl,T2⟩:=uB T.out;have T3:=hid T2;clear T2;go_ret;exact⟨ad1,ad2,cap2,by simp,T3.out⟩
end
end Go.Proofs.YtndhbnhobhkmaaaGreatDoor
