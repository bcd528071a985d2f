/-
  What the calls of package tenant do: New.
  The document's own examples stand, so the laws are awake.
-/
import Derived.Test.YtndhbnhobhkmaaaGreatDoorTnMath
set_option maxRecDepth 20000
set_option maxHeartbeats 4000000
namespace Go.Proofs.YtndhbnhobhkmaaaGreatDoor
open Go.RowKit
open An
theorem aa.order{W w:World}{ts ts':List (World→(Nat→Prop)→Prop)}(h:aa W w ts)(f g:Nat→Nat)(hf:∀j,j<ts.length→f j<ts'.length∧g (f j)=j)(hg:∀j,j<ts'.length→g j<ts.length∧f (g j)=j∧ts'[j]? =ts[g j]?):aa W w ts':=by
 obtain⟨o,h1,h2,h3,h4⟩:=h;have key:∀i,o i≠0→(if o i=0 then 0 else f (o i - 1)+1)=f (o i - 1)+1:=fun i hi=>if_neg hi
 refine⟨fun i=>if o i=0 then 0 else f (o i - 1)+1,⟨h1.nw,fun i hi=>h1.dom i fun e=>hi (if_pos e)⟩,fun i=> ?_,fun P hP=> ?_,fun j P hj=> ?_⟩
 ·by_cases e:o i=0
  ·simp[e]
  ·simp only[key i e];have:=h2 i;have:=(hf (o i - 1) (by omega)).1;omega
 ·obtain⟨j,hj,rfl⟩:=List.getElem_of_mem hP;have:=(hg j hj).2.2;rw[List.getElem?_eq_getElem hj] at this;exact h3 _ (List.mem_of_getElem? this.symm)
 ·have hjl:=(List.getElem?_eq_some_iff.1 hj).1;obtain⟨g1,g2,g3⟩:=hg j hjl;rw[hj] at g3;refine(h3 P (List.mem_of_getElem? g3.symm)).mono (h4 (g j) P g3.symm) (fun i hi=> ?_) (fun i hi=> ?_)
  ·show(if o i=0 then 0 else f (o i - 1)+1)=j+1;unfold lab at hi;rw[key i (by omega),hi];simp[g2]
  ·have hi':(if o i=0 then 0 else f (o i - 1)+1)=j+1:=hi;have:o i≠0:=fun e=>by rw[if_pos e] at hi';omega
   exact(h1.dom i this).2
theorem aa.rot{W w:World}{Q:World→(Nat→Prop)→Prop}(ls rs:List (World→(Nat→Prop)→Prop))(h:aa W w (ls++rs++[Q])):aa W w (ls++Q::rs):=by
 refine h.order (fun j=>if j<ls.length then j else if j=ls.length+rs.length then ls.length else j+1) (fun j=>if j<ls.length then j else if j=ls.length then ls.length+rs.length else j - 1) (fun j hj=> ?_) fun j hj=> ?_
 ·simp only[List.length_append,List.length_cons,List.length_nil] at hj ⊢;constructor
  ·split
   ·omega
   ·split<;>omega
  ·by_cases h1:j<ls.length
   ·simp[h1]
   ·by_cases h2:j=ls.length+rs.length
    ·simp only[if_neg h1,if_pos h2,Nat.lt_irrefl,if_false,if_true];omega
    ·simp only[if_neg h1,if_neg h2,if_neg (show ¬j+1<ls.length by omega),if_neg (show ¬j+1=ls.length by omega)];omega
 ·simp only[List.length_append,List.length_cons,List.length_nil] at hj ⊢;by_cases h1:j<ls.length
  ·simp only[if_pos h1];refine⟨by omega,trivial,?_⟩;rw[List.getElem?_append_left h1,List.append_assoc,List.getElem?_append_left h1]
  ·by_cases h2:j=ls.length
   ·subst h2;simp only[if_neg h1,if_true];refine⟨by omega,?_,?_⟩
    ·rw[if_neg (by omega)]
    ·simp
   ·simp only[if_neg h1,if_neg h2];refine⟨by omega,?_,?_⟩
    ·rw[if_neg (by omega),if_neg (by omega)];omega
    ·rw[List.getElem?_append_right (by omega),List.append_assoc,List.getElem?_append_right (by omega),List.getElem?_append_left (by omega)];obtain⟨d,rfl⟩:∃d,j=ls.length+1+d:=⟨j - ls.length - 1,by omega⟩;rw[show ls.length+1+d - ls.length=d+1 by omega,show ls.length+1+d - 1 - ls.length=d by omega];rfl
section
variable{w:World}{a m k:Nat}{U:Nat→Prop}{M:Ms}{W:List Int}{ad:Option Addr}{cap:Nat}
theorem y_newk(h:Both (Ac a m k M) (Lv ad W) w U)(gr:G17 w)(fu:cO U)(_ms:MsOk M)(_h1:1≤k)(_h2:k≤32)(hW:W.length≤17592186044416):Calls Tryz.prog 56 #[.pointer (some ⟨a,0,none⟩),.pointer (some ⟨m,0,none⟩),.slice ad W.length cap] w fun e w'=>∃h t U',e=.returned (.tuple #[.pointer (some ⟨h,0,none⟩),.int .i64 0])∧Both (Hs a m h t k M ⟨W,[],[],fun _=>[]⟩) (Lv ad W) w' U'∧Gw w w' U U':=by
 have cx:=jr gr fu;have hlt:=h.lt;have T0:=(aa.begin (Both.good (Ac.good ..) (Lv.good ..)) h hlt).da 0 (P:=Ac a m k M) (Q:=Lv ad W) rfl (Ac.good ..) (Lv.good ..);have H1:Hid (Calls Tryz.prog 94 #[.slice ad W.length cap] w fun e w'=>∃ad' cap',e=.returned (.slice ad' W.length cap')∧aa (Bare w) w' [Ac a m k M,Old w U,Lv ad W,Lv ad' W]):=(cl17 cap (T0.nums 2 rfl) hW).mono fun e w' ⟨⟨ad',cap',he,hn,hb⟩,f⟩=>⟨ad',cap',he,T0.more (Lv.good _ _) (Lv.new hn) f fun i ⟨⟨off,e⟩,h0⟩=>⟨hb i off e,(Lv.new hn).2.2 i ⟨⟨off,e⟩,h0⟩⟩⟩
 have H2:Hid (∀w1 ad',aa (Bare w) w1 [Ac a m k M,Old w U,Lv ad W,Lv ad' W]→Calls Tryz.prog 95 #[] w1 fun e w'=>∃t,e=.returned (.pointer (some ⟨t,0,none⟩))∧aa (Bare w) w' [Ac a m k M,Old w U,Lv ad W,Lv ad' W,Tm t []]):=fun w1 ad' h1=>(yf w1).mono fun e w' ⟨t,Z,he,k1,k2,k3⟩=>⟨t,he,h1.more (Tm.good t []) k1 k2 k3⟩
 have H3:Hid (∀w1 ad' cap' t,aa (Bare w) w1 [Ac a m k M,Old w U,Lv ad W,Lv ad' W,Tm t []]→Calls Tryz.prog 96 #[.pointer (some ⟨w1.heap.size,0,none⟩)] (w1.alloc (gob (.pointer (some ⟨a,0,none⟩)) (.pointer (some ⟨m,0,none⟩)) (.slice ad' W.length cap') (.pointer (some ⟨t,0,none⟩)) (fun _=>.pointer none) (fun _=>.pointer none) (.map none))) fun e w'=>e=.returned (.int .i64 0)∧∃U',Both (Hs a m w1.heap.size t k M ⟨W,[],[],fun _=>[]⟩) (Lv ad W) w' U'∧Gw w w' U U'):=fun w1 ad' cap' t h1=>by
  have h2:=(h1.blk (gob (.pointer (some ⟨a,0,none⟩)) (.pointer (some ⟨m,0,none⟩)) (.slice ad' W.length cap') (.pointer (some ⟨t,0,none⟩)) (fun _=>.pointer none) (fun _=>.pointer none) (.map none))).swapAt 2 5 rfl rfl (by decide);refine(nX cx (b:=w1.heap.size) h2).mono ?_;rintro e w' ⟨he,A,B,N',pb,h3⟩;refine⟨he,?_⟩;have h4:=h3.da 0 (P:=Am 111 a M.bs M.ss) (Q:=Ct m k M.has) rfl (Am.good ..) (Ct.good ..);have h5:=h4.swapAt 3 9 rfl rfl (by decide);have h6:=h5.swapAt 5 9 rfl rfl (by decide);have h7:aa (Bare w) w' ([Am 111 a M.bs M.ss,Old w U,Blk w1.heap.size (gob (.pointer (some ⟨a,0,none⟩)) (.pointer (some ⟨m,0,none⟩)) (.slice ad' W.length cap') (.pointer (some ⟨t,0,none⟩)) (pvp 24 A (fun _=>.pointer none)) (pvp 8 N' (fun _=>.pointer none)) (.map (some pb))),Ct m k M.has,Tm t [],Lv ad' W,Fam 24 (shp 24 A B),Fam 8 (lnp 8 N'),Mg pb 0 (fun _=>none)]++[Lv ad W]):=h6;obtain⟨x',⟨e1,e2,e3,e4,e5⟩,h8⟩:=begun (x:=⟨a,m,w1.heap.size,t,k,ad',cap',A,B,N',pb⟩) (h7.join 1 (P:=Old w U) rfl);have h9:=(Hz.closed h8).da 1 (P:=Old w U) (Q:=Lv ad W) rfl (Old.good ..) (Lv.good ..);have h10:=aa.join (ts:=[Hz x' M _,Old w U]) h9 0 rfl;obtain⟨U',p1,p2⟩:=aa.finish (ts:=[]) h10 hlt;obtain⟨Z1,Y1,z1,z2⟩:=p1;have:=z1.back (gV (Wd:=W));rw[e1,e2,e3,e4,e5] at this;exact⟨U',⟨Z1,Y1,this,z2⟩,p2⟩
 clear T0 cx hlt h gr fu hW;generalize W.length=wl at *;go_enter Tryz.func56,Tryz.ntmps56;go_wp2_with fail;refine H1.out.mono ?_;rintro e w1 ⟨ad',cap',rfl,h1⟩;have H4:=hid (H2.out _ _ h1);clear h1 H1 H2;go_wp2_with fail;refine H4.out.mono ?_;rintro e w2 ⟨t,rfl,h2⟩;have H5:=hid (H3.out _ _ cap' _ h2);clear h2 H3 H4;go_wp2_with fail;refine H5.out.mono ?_;rintro e w3 ⟨rfl,U',k1,k2⟩;have T3:=hid (And.intro k1 k2);clear k1 k2 H5;go_wp2;go_ret2;exact⟨w2.heap.size,t,U',by simp,T3.out⟩
end
section
variable{W w:World}{ts:List (World→(Nat→Prop)→Prop)}{a m k:Nat}{M:Ms}{l:List Int}{ad:Option Addr}{cap:Nat}
theorem yS(q:aa W w ts)(gr:G17 W)(j:Nat)(hj:ts[j]? =some (Both (Ac a m k M) (Lv ad l)))(ms:MsOk M)(h1:1≤k)(h2:k≤32)(hl:l.length≤17592186044416):Calls Tryz.prog 56 #[.pointer (some ⟨a,0,none⟩),.pointer (some ⟨m,0,none⟩),.slice ad l.length cap] w fun e w'=>∃h t,e=.returned (.tuple #[.pointer (some ⟨h,0,none⟩),.int .i64 0])∧aa W w' (ts.set j (Both (Hs a m h t k M ⟨l,[],[],fun _=>[]⟩) (Lv ad l))):=by
 obtain⟨Z,p1,p0,p2⟩:=q.turn j hj;exact(y_newk p1 (gr.fr q.nw.fr) (gx gr fun i hi=>(p0 i hi).1) ms h1 h2 hl).mono fun e w' ⟨h,t,U',he,r,f⟩=>⟨h,t,he,p2 _ w' U' (Both.good (Hs.good ..) (Lv.good ..)) r f⟩
def newT(M:Ms)(l:List Int)(i n q:Int):TnS:=⟨M,⟨l,[],[],fun _=>[]⟩,⟨i,n,[]⟩,Qt.newQ (okA q 0) (okB q 0),fun _=>none,0⟩
theorem tH(g:aa W w (Both (Ac a m k M) (Lv ad l)::ts))(gr:G17 W)(ms:MsOk M)(h1:1≤k)(h2:k≤32)(hl:l.length≤17592186044416){i n q:Int}(hi:¬((0≤i∧i≤7)∧1≤n∧n≤17592186044416)):Calls Tryz.prog 25 #[.pointer (some ⟨a,0,none⟩),.pointer (some ⟨m,0,none⟩),.int .i64 i,.int .i64 n,.int .i64 q,.slice ad l.length cap] w fun e w'=>∃h t,e=.returned (.tuple #[.pointer none,.int .i64 12])∧aa W w' (Both (Hs a m h t k M ⟨l,[],[],fun _=>[]⟩) (Lv ad l)::ts):=by
 have H1:=hid (yS (cap:=cap) g gr 0 rfl ms h1 h2 (by omega));have H2:=hid fun w=>Ka.xl hi w
 clear g gr ms h1 h2 hi;generalize l.length=ll at *;go_enter Tryz.func25,Tryz.ntmps25;go_wp2_with fail;refine H1.out.mono ?_;rintro e w1 ⟨h,t,rfl,g1⟩;have G1:=hid g1;clear g1 H1;go_wp2_with fail;refine(H2.out _).mono ?_;rintro e w2 ⟨rfl,f2⟩;have G2:=hid (G1.out.kept f2);clear f2 G1 H2;go_wp2;go_ret2;exact⟨h,t,by simp,G2.out⟩
theorem pF(g:aa W w (Both (Ac a m k M) (Lv ad l)::ts))(gr:G17 W)(ms:MsOk M)(h1:1≤k)(h2:k≤32)(hM:M.has.length≤4096)(hl:l.length≤17592186044416){i n q:Int}(hi:(0≤i∧i≤7)∧1≤n∧n≤17592186044416){E:Int}(hE:fitE 0 q q (pgI M.has.length k l)=E):Calls Tryz.prog 25 #[.pointer (some ⟨a,0,none⟩),.pointer (some ⟨m,0,none⟩),.int .i64 i,.int .i64 n,.int .i64 q,.slice ad l.length cap] w fun e w'=>∃x:Tp,(x.a=a∧x.m=m∧x.k=k∧x.id=i∧x.pk=q)∧e=.returned (.tuple #[.pointer (if E=0 then some ⟨x.T,0,none⟩ else none),.int .i64 E])∧aa W w' (tnl x (newT M l i n q) (Lv ad l::ts)):=by
 have H1:Hid (Calls Tryz.prog 56 #[.pointer (some ⟨a,0,none⟩),.pointer (some ⟨m,0,none⟩),.slice ad l.length cap] w fun e w'=>∃h t,e=.returned (.tuple #[.pointer (some ⟨h,0,none⟩),.int .i64 0])∧aa W w' (Hs a m h t k M ⟨l,[],[],fun _=>[]⟩::Lv ad l::ts)):=(yS (cap:=cap) g gr 0 rfl ms h1 h2 (by omega)).mono fun e w' ⟨h,t,he,g1⟩=>⟨h,t,he,by
  have g2:=g1.da 0 (P:=Hs a m h t k M ⟨l,[],[],fun _=>[]⟩) (Q:=Lv ad l) rfl (Hs.good ..) (Lv.good ..);exact aa.rot [Hs a m h t k M ⟨l,[],[],fun _=>[]⟩] ts g2⟩
 have H2:Hid (∀w h t,aa W w (Hs a m h t k M ⟨l,[],[],fun _=>[]⟩::Lv ad l::ts)→Calls Tryz.prog 57 #[.int .i64 i,.int .i64 n] w fun e w'=>∃c,e=.returned (.tuple #[.pointer (some ⟨c,0,none⟩),.int .i64 0])∧aa W w' (Hs a m h t k M ⟨l,[],[],fun _=>[]⟩::Kc c ⟨i,n,[]⟩::Lv ad l::ts)):=fun w h t g=>(zi g gr hi).mono fun e w' ⟨c,he,g1⟩=>⟨c,he,aa.rot [Hs a m h t k M ⟨l,[],[],fun _=>[]⟩] (Lv ad l::ts) g1⟩
 have H3:Hid (∀w h t c,aa W w (Hs a m h t k M ⟨l,[],[],fun _=>[]⟩::Kc c ⟨i,n,[]⟩::Lv ad l::ts)→Calls Tryz.prog 58 #[.int .i64 q] w fun e w'=>∃y,e=.returned (.tuple #[.pointer (some ⟨y,0,none⟩),.int .i64 0])∧aa W w' (Hs a m h t k M ⟨l,[],[],fun _=>[]⟩::Kc c ⟨i,n,[]⟩::Qq y (Qt.newQ (okA q 0) (okB q 0))::Lv ad l::ts)):=fun w h t c g=>(qM g q).mono fun e w' ⟨y,he,g1⟩=>⟨y,he,aa.rot [Hs a m h t k M ⟨l,[],[],fun _=>[]⟩,Kc c ⟨i,n,[]⟩] (Lv ad l::ts) g1⟩
 have H4:Hid (∀w h t c y,aa W w (Hs a m h t k M ⟨l,[],[],fun _=>[]⟩::Kc c ⟨i,n,[]⟩::Qq y (Qt.newQ (okA q 0) (okB q 0))::Lv ad l::ts)→aa W ((w.alloc (.map #[] 0)).alloc (tob ⟨w.heap.size+1,a,m,h,t,k,c,y,w.heap.size,i,q⟩)) (tnl ⟨w.heap.size+1,a,m,h,t,k,c,y,w.heap.size,i,q⟩ (newT M l i n q) (Lv ad l::ts))):=fun w h t c y g=>by
  have g1:=aa.rot [Hs a m h t k M ⟨l,[],[],fun _=>[]⟩,Kc c ⟨i,n,[]⟩,Qq y (Qt.newQ (okA q 0) (okB q 0))] (Lv ad l::ts) g.objs;have g2:=g1.blk (tob ⟨w.heap.size+1,a,m,h,t,k,c,y,w.heap.size,i,q⟩);rw[World.size_alloc] at g2;exact aa.rot [Hs a m h t k M ⟨l,[],[],fun _=>[]⟩,Kc c ⟨i,n,[]⟩,Qq y (Qt.newQ (okA q 0) (okB q 0)),Ot w.heap.size (fun _=>none) 0] (Lv ad l::ts) g2
 have H5:Hid (∀w (x:Tp),x.m=m→x.k=k→aa W w (tnl x (newT M l i n q) (Lv ad l::ts))→Calls Tryz.prog 59 #[.pointer (some ⟨m,0,none⟩),.slice ad l.length cap] w fun e w'=>e=.returned (.int .i64 (pgI M.has.length k l))∧aa W w' (tnl x (newT M l i n q) (Lv ad l::ts))):=fun w x em ek gi=>by
  subst em ek;have hct:∀w1,Fr (fun _=>False) w w1→∃Z,Cq.Cm w1 x.m Z x.k M.has:=fun w1 f=>by
   have g0:=gi.kept f;obtain⟨U,p,_⟩:=g0.get 0 rfl;obtain⟨Z1,q1,_⟩:=Both.fst' p;obtain⟨Z2,q2,_⟩:=Both.snd q1;obtain⟨Z0,q3,_⟩:=q2.into (gr.fr g0.nw.fr).2;exact⟨Z0,q3⟩
  exact(tG cap (fun w1 c f=>by obtain⟨Z,hz⟩:=hct w1 f;exact Cq.eV hz c) (fun w1 f=>by obtain⟨Z,hz⟩:=hct w1 f;exact(Cq.zE hz).mono fun _ _ ⟨he,_,f⟩=>⟨he,f⟩) hM h1 h2 (gi.nums 5 rfl) hl).mono fun e w' ⟨he,f⟩=>⟨he,gi.kept f.fr⟩
 have H6:Hid (∀w (x:Tp),x.pk=q→aa W w (tnl x (newT M l i n q) (Lv ad l::ts))→Calls Tryz.prog 36 #[.pointer (some ⟨x.T,0,none⟩),.int .i64 q,.int .i64 (pgI M.has.length k l)] w fun e w'=>e=.returned (.int .i64 E)∧aa W w' (tnl x (newT M l i n q) (Lv ad l::ts))):=fun w x ep g=>by
  have h:=lN g gr q (pgI M.has.length k l);rw[ep] at h;rw[show fitE (newT M l i n q).s.cb q q (pgI M.has.length k l)=E from hE] at h;exact h
 clear g gr ms h1 h2 hi hE hM hl;generalize hS:newT M l i n q=S at *;generalize pgI M.has.length k l=pg at *;generalize hll:l.length=ll at *;generalize Qt.newQ (okA q 0) (okB q 0)=nq at *;clear hS hll;go_enter Tryz.func25,Tryz.ntmps25;go_wp2_with fail;refine H1.out.mono ?_;rintro e w1 ⟨hp,t,rfl,g1⟩;have G1:=hid g1;clear g1 H1;go_wp2_with fail;refine(H2.out _ _ _ G1.out).mono ?_;rintro e w2 ⟨c,rfl,g2⟩;have G2:=hid g2;clear g2 G1 H2;go_wp2_with fail;refine(H3.out _ _ _ _ G2.out).mono ?_;rintro e w3 ⟨y,rfl,g3⟩;have G3:=hid (H4.out _ _ _ _ _ g3);clear g3 G2 H3 H4;have hmm:= @run_makeMap Tryz.prog;go_wp2_with fail;refine(H5.out _ ⟨w3.heap.size+1,a,m,hp,t,k,c,y,w3.heap.size,i,q⟩ rfl rfl G3.out).mono ?_;rintro e w4 ⟨rfl,g4⟩;have G4:=hid g4;clear g4 G3 H5;go_wp2_with fail;refine(H6.out _ ⟨w3.heap.size+1,a,m,hp,t,k,c,y,w3.heap.size,i,q⟩ rfl G4.out).mono ?_;rintro e w5 ⟨rfl,g5⟩;have G5:=hid g5;clear g5 G4 H6;by_cases hE:E=0
 ·subst hE;go_wp2;go_ret2;exact⟨⟨w3.heap.size+1,a,m,hp,t,k,c,y,w3.heap.size,i,q⟩,⟨rfl,rfl,rfl,rfl,rfl⟩,by simp,G5.out⟩
 ·go_wp2;go_ret2;exact⟨⟨w3.heap.size+1,a,m,hp,t,k,c,y,w3.heap.size,i,q⟩,⟨rfl,rfl,rfl,rfl,rfl⟩,by simp,G5.out⟩
end
theorem Hc.tk{k:Nat}{S:TnS}(h:Hc k S.M S.H)(n:Int)(hs:S.M.ss.length≤800000):Hc k (tkS k S n).M (tkS k S n).H∧(tkS k S n).M.ss.length≤S.M.ss.length+2:=by
 have hm:=h.zc n hs;have hb:Hc k (blS k (tk1 S n) n).M (blS k (tk1 S n) n).H∧(blS k (tk1 S n) n).M.ss.length≤S.M.ss.length+2:=by
  unfold blS;split
  ·exact⟨h,by show S.M.ss.length≤_;omega⟩
  ·exact hm
 unfold tkS;split
 ·exact⟨h,by omega⟩
 ·split
  ·split
   ·exact hb
   ·exact hb
  ·exact⟨h,by show S.M.ss.length≤_;omega⟩
def am:Ms:=⟨List.replicate 32 false,List.replicate (32 * 512) 0,[]⟩
def aw0:TnS:=newT am [0] 0 1 100
def aw1a:TnS:=tkS 2 aw0 40
def aw1:TnS:=owS aw1a 393216 40
def awx:Int:=Ka.grV aw1a.c 393216
def aw2a:TnS:=tkS 2 aw1 40
def aw2:TnS:=owS aw2a 393264 40
def awy:Int:=Ka.grV aw2a.c 393264
def aw3:TnS:=tkS 2 aw2 1
def aw4:TnS:=ctS aw3 393216 48 48
def aw5:TnS:=tkS 2 aw4 49
def aw6:TnS:={ aw5 with M:=⟨aw5.M.has,vwB aw5.H.T aw5.M.bs 393262 [97,98],vwT aw5.H.T aw5.M.bs.length aw5.M.ss 393262 2⟩ }
def aw7:TnS:={ aw6 with M:=⟨aw6.M.has,aw6.M.bs,vrT aw6.H.T aw6.M.bs.length aw6.M.ss 393261 3⟩ }
def aw8:TnS:=rlS aw7 393264 2 0 1 0 48
theorem aw_0:fitE 0 100 100 (pgI 32 2 [0])=0:=by decide+kernel
theorem aw_1:tkE 2 aw0 40=0∧tkV 2 aw0 40=393216∧Ka.grE aw1a.c 393216=0∧aw1a.s.cb=48:=by decide+kernel
theorem aw_2:tkE 2 aw1 40=0∧tkV 2 aw1 40=393264∧Ka.grE aw2a.c 393264=0∧aw2a.s.cb=96∧aw1.n=1:=by decide+kernel
theorem aw_3:tkE 2 aw2 1=3∧aw3.s.cb=96∧aw2.n=2:=by decide+kernel
theorem aw_4:Ka.fiE aw3.c awx 4=0∧Ka.fiV aw3.c awx 4=393216∧aw3.f 393216=some (40,48)∧ag 48=48∧0≤ofI 48∧aw3.n=2∧0≤awx∧awx≤18446744073709551615:=by decide+kernel
theorem aw_5:Ka.fiE aw4.c awx 4=0∧Ka.fiV aw4.c awx 4=393216∧aw4.f 393216=some (48,48)∧ag 49=64∧0≤ofI 49∧tkE 2 aw4 49=3∧aw5.s.cb=96:=by decide+kernel
theorem aw_6:Ka.fiE aw5.c awx 2=0∧Ka.fiV aw5.c awx 2=393216∧aw5.f 393216=some (48,48)∧vwE aw5.H.T aw5.M.bs.length 393262 2=0∧adI 2 0 0=393216∧(ah 2).toNat=48:=by decide+kernel
theorem aw_7:Ka.fiE aw6.c awx 1=0∧Ka.fiV aw6.c awx 1=393216∧aw6.f 393216=some (48,48)∧vwE aw6.H.T aw6.M.bs.length 393261 3=0∧vrV aw6.H.T aw6.M.bs 393261 3=[0,97,98]∧aw6.s.cb=96:=by decide+kernel
theorem aw_8:Ka.fiE aw7.c awy 4=0∧Ka.fiV aw7.c awy 4=393264∧aw7.f 393264=some (40,48)∧aw8.s.cb=48∧adI 2 0 1=393264∧0≤awy∧awy≤18446744073709551615:=by decide+kernel
theorem aw_had:HadB aw5.H.L 2 0 0:=by
 unfold HadB;decide+kernel
theorem hc_0:Hc 2 aw0.M aw0.H:=uB (n:=32) (k:=2) (by decide) (by simp)
theorem hc_1:Hc 2 aw1.M aw1.H∧aw1.M.ss.length≤2:=hc_0.tk 40 (Nat.zero_le _)
theorem hc_2:Hc 2 aw2.M aw2.H∧aw2.M.ss.length≤4:=by have h:=hc_1;have:=h.1.tk 40 (by omega);exact⟨this.1,Nat.le_trans this.2 (by omega)⟩
theorem hc_3:Hc 2 aw3.M aw3.H∧aw3.M.ss.length≤6:=by have h:=hc_2;have:=h.1.tk 1 (by omega);exact⟨this.1,Nat.le_trans this.2 (by omega)⟩
theorem hc_4:Hc 2 aw4.M aw4.H∧aw4.M.ss.length≤6:=hc_3
theorem hc_5:Hc 2 aw5.M aw5.H∧aw5.M.ss.length≤8:=by have h:=hc_4;have:=h.1.tk 49 (by omega);exact⟨this.1,Nat.le_trans this.2 (by omega)⟩
theorem hc_6:Hc 2 aw6.M aw6.H∧aw6.M.ss.length≤42:=by
 have h:=hc_5;have h5:=h.2;have hl:=(mz h.1.ok.tp.tb aw5.M.bs.length aw5.M.ss 393262 (n:=2) (by omega)).2;have hw:=h.1.wrote aw_had (f:=46) (ds:=[97,98]) (ss':=vwT aw5.H.T aw5.M.bs.length aw5.M.ss 393262 2) (by show 48≤(ah 2).toNat;rw[aw_6.2.2.2.2.2];exact Nat.le_refl _) (by omega);have e:adI ((2:Nat):Int) ((0:Nat):Int) ((0:Nat):Int)=393216:=aw_6.2.2.2.2.1;rw[e,show(393216:Int)+((46:Nat):Int)=393262 from rfl] at hw;have e2:aw6.M=⟨aw5.M.has,vwB aw5.H.T aw5.M.bs 393262 [97,98],vwT aw5.H.T aw5.M.bs.length aw5.M.ss 393262 2⟩:=by unfold aw6;rfl
 have e3:aw6.H=aw5.H:=by unfold aw6;rfl
 rw[e2,e3];exact⟨hw,by dsimp only;omega⟩
theorem hc_7:Hc 2 aw7.M aw7.H∧aw7.M.ss.length≤76:=by
 have h:=hc_6;have h5:=h.2;have hl:=(mz h.1.ok.tp.tb aw6.M.bs.length aw6.M.ss 393261 (n:=3) (by omega)).1;have e2:aw7.M=⟨aw6.M.has,aw6.M.bs,vrT aw6.H.T aw6.M.bs.length aw6.M.ss 393261 3⟩:=by unfold aw7;rfl
 have e3:aw7.H=aw6.H:=by unfold aw7;rfl
 rw[e2,e3];exact⟨h.1.notes (by omega),by dsimp only;omega⟩
theorem vo{W w:World}(h:Nw W w)(gr:G17 W):Calls Tryz.prog 8 #[] w fun e w'=>e=.returned (.bool true)∧Nw W w':=by
 have HT:=hid (aa.start h);have H0:Hid (∀w,aa W w []→Calls Tryz.prog 24 #[.int .i64 16384] w fun e w'=>∃a,e=.returned (.tuple #[.pointer (some ⟨a,0,none⟩),.int .i64 0])∧aa W w' [Am 111 a am.bs am.ss]):=fun w h=>sV h 16384 (by omega)
 have H1:Hid (∀w a,aa W w [Am 111 a am.bs am.ss]→Calls Tryz.prog 23 #[.agg #[.int .i64 32,.int .i64 2]] w fun e w'=>∃m,e=.returned (.tuple #[.pointer (some ⟨m,0,none⟩),.int .i64 0])∧aa W w' [Ac a m 2 am]):=fun w a h=>(q_map h gr (n:=32) (k:=2) (by decide)).mono fun e w' ⟨m,he,h2⟩=>⟨m,he,aa.join (ts:=[Am 111 a am.bs am.ss]) h2 0 rfl⟩
 have H2:Hid (∀w a m,aa W w [Ac a m 2 am]→Calls Tryz.prog 25 #[.pointer (some ⟨a,0,none⟩),.pointer (some ⟨m,0,none⟩),.int .i64 0,.int .i64 1,.int .i64 100,.slice (some ⟨w.heap.size,0,none⟩) 1 1] (w.alloc (.cells #[.int .i64 0] 3)) fun e w'=>∃x:Tp,x.k=2∧e=.returned (.tuple #[.pointer (some ⟨x.T,0,none⟩),.int .i64 0])∧aa W w' (tnl x aw0 [Lv (some ⟨w.heap.size,0,none⟩) [0]])):=fun w a m h=>by
  have q:=aa.list h [0] (T:=3) (by simp);have q:=aa.join (ts:=[Ac a m 2 am]) q 0 rfl;exact(pF (l:=[0]) (cap:=1) (ts:=[]) q gr hc_0.ms (by omega) (by omega) (by decide) (by simp) (by omega) aw_0).mono fun e w' ⟨x,hx,he,h2⟩=>⟨x,hx.2.2.1,he,h2⟩
 have H3:Hid (∀w (x:Tp) ts,x.k=2→aa W w (tnl x aw0 ts)→Calls Tryz.prog 26 #[.pointer (some ⟨x.T,0,none⟩),.int .i64 40] w fun e w'=>e=.returned (ans 0 awx 393216 0 ⟨#[]⟩ 48)∧aa W w' (tnl x aw1 ts)):=fun w x ts hk g=>by
  obtain⟨e1,e2,e3,e4⟩:=aw_1;have h:=dM (n:=40) g gr (by rw[hk];exact hc_0) (by decide) (by rw[hk];exact e1) (by rw[hk,e2];decide) (by show _<maxLen;unfold maxLen;decide);rw[show tkS x.k aw0 40=aw1a by rw[hk];rfl,show tkV x.k aw0 40=393216 by rw[hk];exact e2,e3,e4] at h;exact h
 have H4:Hid (∀w (x:Tp) ts,x.k=2→aa W w (tnl x aw1 ts)→Calls Tryz.prog 26 #[.pointer (some ⟨x.T,0,none⟩),.int .i64 40] w fun e w'=>e=.returned (ans 0 awy 393264 0 ⟨#[]⟩ 96)∧aa W w' (tnl x aw2 ts)):=fun w x ts hk g=>by
  obtain⟨e1,e2,e3,e4,e5⟩:=aw_2;have h:=dM (n:=40) g gr (by rw[hk];exact hc_1.1) (by decide) (by rw[hk];exact e1) (by rw[hk,e2];decide) (by show _<maxLen;unfold maxLen;omega);rw[show tkS x.k aw1 40=aw2a by rw[hk];rfl,show tkV x.k aw1 40=393264 by rw[hk];exact e2,e3,e4] at h;exact h
 have H5:Hid (∀w (x:Tp) ts,x.k=2→aa W w (tnl x aw2 ts)→Calls Tryz.prog 26 #[.pointer (some ⟨x.T,0,none⟩),.int .i64 1] w fun e w'=>e=.returned (ans 3 0 0 0 ⟨#[]⟩ 96)∧aa W w' (tnl x aw3 ts)):=fun w x ts hk g=>by
  obtain⟨e1,e2,e3⟩:=aw_3;have h:=ij (n:=1) g gr (by rw[hk];exact hc_2.1) (by decide) (by rw[hk,e1];decide);rw[show tkE x.k aw2 1=3 by rw[hk];exact e1,show tkS x.k aw2 1=aw3 by rw[hk];rfl,e2] at h;exact h
 have H6:Hid (∀w (x:Tp) ts,x.k=2→aa W w (tnl x aw3 ts)→Calls Tryz.prog 21 #[.pointer (some ⟨x.T,0,none⟩),.int .u64 awx,.int .i64 48] w fun e w'=>e=.returned (ans 0 awx 393216 0 ⟨#[]⟩ 96)∧aa W w' (tnl x aw4 ts)):=fun w x ts hk g=>by
  obtain⟨e1,e2,e3,e4,e5,e6,e7,e8⟩:=aw_4;have h:=db (S1:=aw4) (n:=48) g gr e7 e8 e1 e5 (y:=(40,48)) (by rw[e2];decide) (by rw[e2];exact e3) (by decide) (by rw[e4];decide) rfl fun w ts g=>by
   rw[e2];exact pG (n:=48) g (by decide) (by show _<maxLen;unfold maxLen;omega) e3 (by decide)
  rw[e2,aw_3.2.1] at h;exact h
 have H7:Hid (∀w (x:Tp) ts,x.k=2→aa W w (tnl x aw4 ts)→Calls Tryz.prog 21 #[.pointer (some ⟨x.T,0,none⟩),.int .u64 awx,.int .i64 49] w fun e w'=>e=.returned (ans 3 0 0 0 ⟨#[]⟩ 96)∧aa W w' (tnl x aw5 ts)):=fun w x ts hk g=>by
  obtain⟨e1,e2,e3,e4,e5,e6,e7⟩:=aw_5;have h:=dG (n:=49) g gr (by rw[hk];exact hc_4.1) aw_4.2.2.2.2.2.2.1 aw_4.2.2.2.2.2.2.2 e1 e5 (y:=(48,48)) (by rw[e2];decide) (by rw[e2];exact e3) (by decide) (by rw[e4];decide) (by decide) (by rw[hk,e6];decide);rw[show tkE x.k aw4 49=3 by rw[hk];exact e6,show tkS x.k aw4 49=aw5 by rw[hk];rfl,e7] at h;exact h
 have H8:Hid (∀w (x:Tp) ts,x.k=2→aa W w (tnl x aw5 ts)→Calls Tryz.prog 19 #[.pointer (some ⟨x.T,0,none⟩),.int .u64 awx,.int .i64 46,.string ⟨#[97,98]⟩] w fun e w'=>e=.returned (ans 0 0 0 0 ⟨#[]⟩ 96)∧aa W w' (tnl x aw6 ts)):=fun w x ts hk g=>by
  obtain⟨e1,e2,e3,e4,_⟩:=aw_6;have h:=je (fr:=46) (av:=393262) (d:=⟨#[97,98]⟩) g (by rw[hk];exact hc_5.1) (b:=awx) (fun w ts g=>by
   have h:=nK (r:=2) (fr:=46) (n:=2) g aw_4.2.2.2.2.2.2.1 aw_4.2.2.2.2.2.2.2 (by omega) (by decide) e1 (by rw[e2];omega) (y:=(48,48)) (by rw[e2];exact e3) (by decide);rw[e2] at h;exact h) (by decide) (by decide)
  rw[show vwE aw5.H.T aw5.M.bs.length 393262 ((⟨#[97,98]⟩:ByteArray).size:Int)=0 from e4,aw_5.2.2.2.2.2.2] at h;exact h
 have H9:Hid (∀w (x:Tp) ts,x.k=2→aa W w (tnl x aw6 ts)→Calls Tryz.prog 17 #[.pointer (some ⟨x.T,0,none⟩),.int .u64 awx,.int .i64 45,.int .i64 3] w fun e w'=>e=.returned (ans 0 0 0 0 ⟨#[0,97,98]⟩ 96)∧aa W w' (tnl x aw7 ts)):=fun w x ts hk g=>by
  obtain⟨e1,e2,e3,e4,e5,e6⟩:=aw_7;have h:=lJ (fr:=45) (av:=393261) (n:=3) g (by rw[hk];exact hc_6.1) (b:=awx) (fun w ts g=>by
   have h:=nK (r:=1) (fr:=45) (n:=3) g aw_4.2.2.2.2.2.2.1 aw_4.2.2.2.2.2.2.2 (by omega) (by decide) e1 (by rw[e2];omega) (y:=(48,48)) (by rw[e2];exact e3) (by decide);rw[e2] at h;exact h) (by decide) (by decide) (by decide)
  rw[e4,e5,e6] at h;exact h
 have H10:Hid (∀w (x:Tp) ts,x.k=2→aa W w (tnl x aw7 ts)→Calls Tryz.prog 20 #[.pointer (some ⟨x.T,0,none⟩),.int .u64 awy] w fun e w'=>e=.returned (ans 0 0 0 0 ⟨#[]⟩ 48)∧aa W w' (tnl x aw8 ts)):=fun w x ts hk g=>by
  obtain⟨e1,e2,e3,e4,e5,e6,e7⟩:=aw_8;have h:=lL g gr (by rw[hk];exact hc_7.1) e6 e7 e1 (kd:=2) (s:=0) (i:=1) (E:=0) (by rw[e2];exact .inl ⟨rfl,by decide,e5⟩) (by rw[e2];decide) (y:=(40,48)) (by rw[e2];exact e3) (by decide);rw[e2] at h;rw[show(rlS aw7 393264 2 0 1 0 48).s.cb=48 from e4] at h;exact h
 clear h gr;go_enter Tryz.func8,Tryz.ntmps8;go_wp2_with fail;refine(H0.out _ HT.out).mono ?_;rintro e w1 ⟨a,rfl,h1⟩;have T1:=hid h1;clear h1 HT H0;go_wp2_with fail;refine(H1.out _ _ T1.out).mono ?_;rintro e w2 ⟨m,rfl,h2⟩;have T2:=hid h2;clear h2 T1 H1;go_wp2_with fail;refine(H2.out _ _ _ T2.out).mono ?_;rintro e w3 ⟨x,hk,rfl,h3⟩;have T3:=hid h3;clear h3 T2 H2;have HK:=hid hk;clear hk;go_wp2_with fail;refine(H3.out _ _ _ HK.out T3.out).mono ?_;rintro e w4 ⟨rfl,h4⟩;have T4:=hid h4;clear h4 T3 H3;go_wp2_with fail;refine(H4.out _ _ _ HK.out T4.out).mono ?_;rintro e w5 ⟨rfl,h5⟩;have T5:=hid h5;clear h5 T4 H4;go_wp2_with fail;refine(H5.out _ _ _ HK.out T5.out).mono ?_;rintro e w6 ⟨rfl,h6⟩;have T6:=hid h6;clear h6 T5 H5;have B6:Hid (aa W (((w6.alloc (.cells #[.int .i64 0,.int .u64 awx,.int .i64 393216,.int .i64 0,.string ⟨#[]⟩,.int .i64 48] 43)).alloc (.cells #[.int .i64 0,.int .u64 awy,.int .i64 393264,.int .i64 0,.string ⟨#[]⟩,.int .i64 96] 43)).alloc (.cells #[.int .i64 3,.int .u64 0,.int .i64 0,.int .i64 0,.string ⟨#[]⟩,.int .i64 96] 43)) (tnl x aw3 [Lv (some ⟨w2.heap.size,0,none⟩) [0],Blk w6.heap.size (.cells #[.int .i64 0,.int .u64 awx,.int .i64 393216,.int .i64 0,.string ⟨#[]⟩,.int .i64 48] 43 (0,0)),Blk (w6.heap.size+1) (.cells #[.int .i64 0,.int .u64 awy,.int .i64 393264,.int .i64 0,.string ⟨#[]⟩,.int .i64 96] 43 (0,0)),Blk (w6.heap.size+1+1) (.cells #[.int .i64 3,.int .u64 0,.int .i64 0,.int .i64 0,.string ⟨#[]⟩,.int .i64 96] 43 (0,0))])):=by
  have q:=((T6.out.blk (.cells #[.int .i64 0,.int .u64 awx,.int .i64 393216,.int .i64 0,.string ⟨#[]⟩,.int .i64 48] 43)).blk (.cells #[.int .i64 0,.int .u64 awy,.int .i64 393264,.int .i64 0,.string ⟨#[]⟩,.int .i64 96] 43)).blk (.cells #[.int .i64 3,.int .u64 0,.int .i64 0,.int .i64 0,.string ⟨#[]⟩,.int .i64 96] 43);simp only[World.size_alloc] at q;exact q
 clear T6;go_wp2_with fail;refine(H6.out _ _ _ HK.out B6.out).mono ?_;rintro e w7 ⟨rfl,h7⟩;have T7:=hid h7;clear h7 B6 H6;have B7:Hid (aa W (w7.alloc (.cells #[.int .i64 0,.int .u64 awx,.int .i64 393216,.int .i64 0,.string ⟨#[]⟩,.int .i64 96] 43)) (tnl x aw4 [Lv (some ⟨w2.heap.size,0,none⟩) [0],Blk w6.heap.size (.cells #[.int .i64 0,.int .u64 awx,.int .i64 393216,.int .i64 0,.string ⟨#[]⟩,.int .i64 48] 43 (0,0)),Blk (w6.heap.size+1) (.cells #[.int .i64 0,.int .u64 awy,.int .i64 393264,.int .i64 0,.string ⟨#[]⟩,.int .i64 96] 43 (0,0)),Blk (w6.heap.size+1+1) (.cells #[.int .i64 3,.int .u64 0,.int .i64 0,.int .i64 0,.string ⟨#[]⟩,.int .i64 96] 43 (0,0)),Blk w7.heap.size (.cells #[.int .i64 0,.int .u64 awx,.int .i64 393216,.int .i64 0,.string ⟨#[]⟩,.int .i64 96] 43 (0,0))])):=T7.out.blk (.cells #[.int .i64 0,.int .u64 awx,.int .i64 393216,.int .i64 0,.string ⟨#[]⟩,.int .i64 96] 43);clear T7;have x0:=ae (B7.out.cells 6 rfl) 1 rfl;have xf0:=an (B7.out.cells 6 rfl) 1;have x1:=ae (B7.out.cells 7 rfl) 1 rfl;have xf1:=an (B7.out.cells 7 rfl) 1;go_wp2_with fail;refine(H7.out _ _ _ HK.out B7.out).mono ?_;rintro e w8 ⟨rfl,h8⟩;have T8:=hid h8;clear h8 B7 H7 x0 xf0 x1 xf1
 have B8:Hid (aa W (w8.alloc (.cells #[.int .i64 3,.int .u64 0,.int .i64 0,.int .i64 0,.string ⟨#[]⟩,.int .i64 96] 43)) (tnl x aw5 [Lv (some ⟨w2.heap.size,0,none⟩) [0],Blk w6.heap.size (.cells #[.int .i64 0,.int .u64 awx,.int .i64 393216,.int .i64 0,.string ⟨#[]⟩,.int .i64 48] 43 (0,0)),Blk (w6.heap.size+1) (.cells #[.int .i64 0,.int .u64 awy,.int .i64 393264,.int .i64 0,.string ⟨#[]⟩,.int .i64 96] 43 (0,0)),Blk (w6.heap.size+1+1) (.cells #[.int .i64 3,.int .u64 0,.int .i64 0,.int .i64 0,.string ⟨#[]⟩,.int .i64 96] 43 (0,0)),Blk w7.heap.size (.cells #[.int .i64 0,.int .u64 awx,.int .i64 393216,.int .i64 0,.string ⟨#[]⟩,.int .i64 96] 43 (0,0)),Blk w8.heap.size (.cells #[.int .i64 3,.int .u64 0,.int .i64 0,.int .i64 0,.string ⟨#[]⟩,.int .i64 96] 43 (0,0))])):=T8.out.blk (.cells #[.int .i64 3,.int .u64 0,.int .i64 0,.int .i64 0,.string ⟨#[]⟩,.int .i64 96] 43);clear T8;have x0:=ae (B8.out.cells 6 rfl) 1 rfl;have xf0:=an (B8.out.cells 6 rfl) 1;have x1:=ae (B8.out.cells 7 rfl) 1 rfl;have xf1:=an (B8.out.cells 7 rfl) 1;go_wp2_with fail;refine(H8.out _ _ _ HK.out B8.out).mono ?_;rintro e w9 ⟨rfl,h9⟩;have T9:=hid h9;clear h9 B8 H8 x0 xf0 x1 xf1
 have B9:Hid (aa W (w9.alloc (.cells #[.int .i64 0,.int .u64 0,.int .i64 0,.int .i64 0,.string ⟨#[]⟩,.int .i64 96] 43)) (tnl x aw6 [Lv (some ⟨w2.heap.size,0,none⟩) [0],Blk w6.heap.size (.cells #[.int .i64 0,.int .u64 awx,.int .i64 393216,.int .i64 0,.string ⟨#[]⟩,.int .i64 48] 43 (0,0)),Blk (w6.heap.size+1) (.cells #[.int .i64 0,.int .u64 awy,.int .i64 393264,.int .i64 0,.string ⟨#[]⟩,.int .i64 96] 43 (0,0)),Blk (w6.heap.size+1+1) (.cells #[.int .i64 3,.int .u64 0,.int .i64 0,.int .i64 0,.string ⟨#[]⟩,.int .i64 96] 43 (0,0)),Blk w7.heap.size (.cells #[.int .i64 0,.int .u64 awx,.int .i64 393216,.int .i64 0,.string ⟨#[]⟩,.int .i64 96] 43 (0,0)),Blk w8.heap.size (.cells #[.int .i64 3,.int .u64 0,.int .i64 0,.int .i64 0,.string ⟨#[]⟩,.int .i64 96] 43 (0,0)),Blk w9.heap.size (.cells #[.int .i64 0,.int .u64 0,.int .i64 0,.int .i64 0,.string ⟨#[]⟩,.int .i64 96] 43 (0,0))])):=T9.out.blk (.cells #[.int .i64 0,.int .u64 0,.int .i64 0,.int .i64 0,.string ⟨#[]⟩,.int .i64 96] 43);clear T9;have x0:=ae (B9.out.cells 6 rfl) 1 rfl;have xf0:=an (B9.out.cells 6 rfl) 1;have x1:=ae (B9.out.cells 7 rfl) 1 rfl;have xf1:=an (B9.out.cells 7 rfl) 1;go_wp2_with fail;refine(H9.out _ _ _ HK.out B9.out).mono ?_;rintro e w10 ⟨rfl,h10⟩;have T10:=hid h10;clear h10 B9 H9 x0 xf0 x1 xf1
 have B10:Hid (aa W (w10.alloc (.cells #[.int .i64 0,.int .u64 0,.int .i64 0,.int .i64 0,.string ⟨#[0,97,98]⟩,.int .i64 96] 43)) (tnl x aw7 [Lv (some ⟨w2.heap.size,0,none⟩) [0],Blk w6.heap.size (.cells #[.int .i64 0,.int .u64 awx,.int .i64 393216,.int .i64 0,.string ⟨#[]⟩,.int .i64 48] 43 (0,0)),Blk (w6.heap.size+1) (.cells #[.int .i64 0,.int .u64 awy,.int .i64 393264,.int .i64 0,.string ⟨#[]⟩,.int .i64 96] 43 (0,0)),Blk (w6.heap.size+1+1) (.cells #[.int .i64 3,.int .u64 0,.int .i64 0,.int .i64 0,.string ⟨#[]⟩,.int .i64 96] 43 (0,0)),Blk w7.heap.size (.cells #[.int .i64 0,.int .u64 awx,.int .i64 393216,.int .i64 0,.string ⟨#[]⟩,.int .i64 96] 43 (0,0)),Blk w8.heap.size (.cells #[.int .i64 3,.int .u64 0,.int .i64 0,.int .i64 0,.string ⟨#[]⟩,.int .i64 96] 43 (0,0)),Blk w9.heap.size (.cells #[.int .i64 0,.int .u64 0,.int .i64 0,.int .i64 0,.string ⟨#[]⟩,.int .i64 96] 43 (0,0)),Blk w10.heap.size (.cells #[.int .i64 0,.int .u64 0,.int .i64 0,.int .i64 0,.string ⟨#[0,97,98]⟩,.int .i64 96] 43 (0,0))])):=T10.out.blk (.cells #[.int .i64 0,.int .u64 0,.int .i64 0,.int .i64 0,.string ⟨#[0,97,98]⟩,.int .i64 96] 43);clear T10;have x0:=ae (B10.out.cells 6 rfl) 1 rfl;have xf0:=an (B10.out.cells 6 rfl) 1;have x1:=ae (B10.out.cells 7 rfl) 1 rfl;have xf1:=an (B10.out.cells 7 rfl) 1;go_wp2_with fail;refine(H10.out _ _ _ HK.out B10.out).mono ?_;rintro e w11 ⟨rfl,h11⟩;have T11:=hid h11;clear h11 B10 H10 x0 xf0 x1 xf1
 have B11:Hid (aa W (w11.alloc (.cells #[.int .i64 0,.int .u64 0,.int .i64 0,.int .i64 0,.string ⟨#[]⟩,.int .i64 48] 43)) (tnl x aw8 [Lv (some ⟨w2.heap.size,0,none⟩) [0],Blk w6.heap.size (.cells #[.int .i64 0,.int .u64 awx,.int .i64 393216,.int .i64 0,.string ⟨#[]⟩,.int .i64 48] 43 (0,0)),Blk (w6.heap.size+1) (.cells #[.int .i64 0,.int .u64 awy,.int .i64 393264,.int .i64 0,.string ⟨#[]⟩,.int .i64 96] 43 (0,0)),Blk (w6.heap.size+1+1) (.cells #[.int .i64 3,.int .u64 0,.int .i64 0,.int .i64 0,.string ⟨#[]⟩,.int .i64 96] 43 (0,0)),Blk w7.heap.size (.cells #[.int .i64 0,.int .u64 awx,.int .i64 393216,.int .i64 0,.string ⟨#[]⟩,.int .i64 96] 43 (0,0)),Blk w8.heap.size (.cells #[.int .i64 3,.int .u64 0,.int .i64 0,.int .i64 0,.string ⟨#[]⟩,.int .i64 96] 43 (0,0)),Blk w9.heap.size (.cells #[.int .i64 0,.int .u64 0,.int .i64 0,.int .i64 0,.string ⟨#[]⟩,.int .i64 96] 43 (0,0)),Blk w10.heap.size (.cells #[.int .i64 0,.int .u64 0,.int .i64 0,.int .i64 0,.string ⟨#[0,97,98]⟩,.int .i64 96] 43 (0,0)),Blk w11.heap.size (.cells #[.int .i64 0,.int .u64 0,.int .i64 0,.int .i64 0,.string ⟨#[]⟩,.int .i64 48] 43 (0,0))])):=T11.out.blk (.cells #[.int .i64 0,.int .u64 0,.int .i64 0,.int .i64 0,.string ⟨#[]⟩,.int .i64 48] 43);clear T11;have y6_1:=ae (B11.out.cells 6 rfl) 1 rfl;have y6_2:=ae (B11.out.cells 6 rfl) 2 rfl;have y6_5:=ae (B11.out.cells 6 rfl) 5 rfl;have y7_5:=ae (B11.out.cells 7 rfl) 5 rfl;have y8_0:=ae (B11.out.cells 8 rfl) 0 rfl;have y9_0:=ae (B11.out.cells 9 rfl) 0 rfl
 have y9_1:=ae (B11.out.cells 9 rfl) 1 rfl;have y10_0:=ae (B11.out.cells 10 rfl) 0 rfl;have y11_0:=ae (B11.out.cells 11 rfl) 0 rfl;have y12_4:=ae (B11.out.cells 12 rfl) 4 rfl;have T12:=hid B11.out.nw;clear B11;go_wp2;go_ret;exact⟨by simp,T12.out⟩
end Go.Proofs.YtndhbnhobhkmaaaGreatDoor
