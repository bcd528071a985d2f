/-
  Handles that were given out: a row of the law's own; which one a call takes.
  A realloc stays in its place, with its handle, just when the new size costs no more than the block: the walk of the law TenantPlace.
  From the row's condition, what both tables (class.units, math/bits) read as when the call begins, to what the walks ask of them.
-/
import Derived.Test.YtndhbnhobhkmaaaGreatDoorTnCall
import Derived.ProofKit
import Derived.OpenShut
import Derived.LaidMore
import Derived.Stop.Joined
import Derived.Lib.LaidTab
set_option maxRecDepth 20000
set_option maxHeartbeats 1000000
namespace Go.Proofs.YtndhbnhobhkmaaaGreatDoor
open Go.RowKit
open An
theorem modu(x:Int)(m:Nat)(M:Int)(hM:M=(m:Int))(h0:0<m)(h1:m≤65536):∃n:Nat,wrap64 ((IntKind.u64.wrap x).tmod M)=(n:Int)∧n<m:=by
 subst hM;have hu:0≤IntKind.u64.wrap x:=by rw[IntKind.wrap_u64];omega
 have he:(IntKind.u64.wrap x).tmod (m:Int)=(IntKind.u64.wrap x) % (m:Int):=Int.tmod_eq_emod_of_nonneg hu;have h2:=Int.emod_nonneg (IntKind.u64.wrap x) (b:=(m:Int)) (by omega);have h3:=Int.emod_lt_of_pos (IntKind.u64.wrap x) (b:=(m:Int)) (by omega);refine⟨((IntKind.u64.wrap x) % (m:Int)).toNat,?_,by omega⟩;rw[he];generalize (IntKind.u64.wrap x) % (m:Int)=z at *;unfold wrap64;omega
def uc(l:List Int):List Value:=l.map fun x=>Value.int .u64 x
theorem vI:∃i,Tryz.prog.info? 37=some i∧i.zero=some (.int .u64 0)∧i.size=1∧i.bytes=8:=by
 have h:(Tryz.prog.info? 37).map (fun i=>(i.zero,i.size,i.bytes))=some (some (.int .u64 0),1,8):=by kernel_rfl
 cases hq:Tryz.prog.info? 37 with
 |none=>rw[hq] at h;cases h
 |some i=>
  rw[hq] at h;simp only[Option.map_some,Option.some.injEq,Prod.mk.injEq] at h;exact⟨i,rfl,h.1,h.2.1,h.2.2⟩
abbrev Wd(l:List Int):Prop:=∀x∈l,U64 x
theorem rS{a b:Int}(ha:0≤a∧a≤18446744073709551615)(hb:0≤b∧b≤18446744073709551615):0≤Go.bits .xor .u64 a b∧Go.bits .xor .u64 a b≤18446744073709551615:=by
 obtain⟨x,rfl⟩:∃x:Nat,a=(x:Int):=⟨a.toNat,by omega⟩;obtain⟨z,rfl⟩:∃z:Nat,b=(z:Int):=⟨b.toNat,by omega⟩;have h:=Nat.xor_lt_two_pow (n:=64) (x:=x) (y:=z) (by omega) (by omega);rw[bits_xor_u64_nat x z (by omega) (by omega)];omega
def Ru(base:Nat)(y:Value)(l:List Int)(w:World)(Z:Nat→Prop):Prop:=w.ownsRow base 37 1 y l.length (uc l)∧(∀g,y.ownBlock=some g→Z g)∧∀i,Z i→i<w.heap.size
theorem Ru.good(base:Nat)(y:Value)(l:List Int):Good (Ru base y l):=
 ⟨fun h f hs=>⟨du h.1 f fun x e=>hs x (h.2.1 x e),h.2.1,fun i hi=>Nat.lt_of_lt_of_le (h.2.2 i hi) f.size⟩,fun h h1 h2=>⟨h.1,fun g e=>h1 g (h.2.1 g e),h2⟩⟩
theorem Ru.empty(base:Nat)(w:World):Ru base (.slice none 0 0) [] w (fun _=>False):=⟨⟨rfl,.inl ⟨rfl,rfl⟩⟩,fun g e=>by simp[Value.ownBlock] at e,fun _ e=>e.elim⟩
theorem Ru.grow{base g m m2 cap:Nat}{y:Value}{l:List Int}{x:Int}{w w':World}{Z:Nat→Prop}(h:Ru base y l w Z){w0:World}(f:Fr (fun _=>False) w w0)(hown:w'.ownsRow base 37 1 (.slice (some ⟨g,0,none⟩) m cap) m2 (uc l++[.int .u64 x]))(hm:m2=l.length+1)(hg:w0.grownBy w' y.ownBlock)(hw:y.ownBlock=some g∨w.heap.size≤g):∃Z',Ru base (.slice (some ⟨g,0,none⟩) m cap) (l++[x]) w' Z'∧Gw w w' Z Z':=by
 have hs:=f.size;have hlt:∀i,(Z i∨i=g)→i<w'.heap.size:=fun i hi=>by
  rcases hi with hi|rfl
  ·have:=h.2.2 i hi;have:=hg.size;omega
  ·exact(hown.lt i rfl).2
 refine⟨fun i=>Z i∨i=g,⟨by subst hm;rw[List.length_append,show uc (l++[x])=uc l++[.int .u64 x] by simp[uc]];exact hown,fun g' e=>.inr (by simpa [Value.ownBlock] using e.symm),hlt⟩,⟨fun _=>.inl,fun i hi=> ?_,hlt,(f.mono fun _ _ e=>e.elim).grown hg fun k e=>.inl (h.2.1 k e)⟩⟩;rcases hi with hi|rfl
 ·exact .inl hi
 ·rcases hw with e|e
  ·exact .inl (h.2.1 i e)
  ·exact .inr e
theorem aa.AD{W w:World}{ts:List (World→(Nat→Prop)→Prop)}(h:aa W w ts)(j:Nat){base:Nat}{y:Value}{l:List Int}(hj:ts[j]? =some (Ru base y l)):w.ownsRow base 37 1 y l.length (uc l)∧∀{w0 w':World} {g m m2 cap:Nat} {x:Int},Fr (fun _=>False) w w0→w'.ownsRow base 37 1 (.slice (some ⟨g,0,none⟩) m cap) m2 (uc l++[.int .u64 x])→m2=l.length+1→w0.grownBy w' y.ownBlock→(y.ownBlock=some g∨w.heap.size≤g)→aa W w' (ts.set j (Ru base (.slice (some ⟨g,0,none⟩) m cap) (l++[x]))):=by
 obtain⟨U,h1,_,h2⟩:=h.turn j hj;refine⟨h1.1,fun f ho hm hg hw=> ?_⟩;obtain⟨Z',r1,r2⟩:=h1.grow f ho hm hg hw;exact h2 _ _ Z' (Ru.good _ _ _) r1 r2
theorem push1u{w:World}{ops:Array Oper}{rest:List Oper}{o:Oper}{a:Act}{Q:Exit→Act→World→Prop}(hgd:o.guard=none)(s x:Operand)
  (ho:o.op=.call { callee:=.builtin .append,args:=#[s,x],argTypes:=#[36,36] })
  (base:Nat)(y:Value)(ys:List Int)(z:Int)(hs:a.eval s=y)(hown:w.ownsRow base 37 1 y ys.length (uc ys))
  (B:Nat)(hx:a.eval x=.slice (some ⟨B,0,none⟩) 1 1)(hz:w.cell? ⟨B,0,none⟩=some (.int .u64 z))(hl:ys.length<100000)(hbase:base≤w.heap.size)
  (h:∀g cap w',w'.ownsRow base 37 1 (.slice (some ⟨g,0,none⟩) (ys.length+1) cap) (ys.length+1) (uc ys++[.int .u64 z])→w.grownBy w' y.ownBlock→(y.ownBlock=some g∨g=w.heap.size)→wpList Tryz.prog ops Q rest (a.put o.dst (.slice (some ⟨g,0,none⟩) (ys.length+1) cap)) w'):wpList Tryz.prog ops Q (o::rest) a w:=by
 obtain⟨i0,hi,hz0,hz1,hz2⟩:=vI;refine aE hgd s x 36 ho base 37 i0 (.int .u64 0) 1 8 Tryz.underlying36 hi hz0 hz1 hz2 rfl (by decide) y ys.length (uc ys) hs hown ⟨B,0,none⟩ 1 1 (by decide) [.int .u64 z] hx rfl ?_ ?_ (by unfold maxLen;omega) (by omega) hbase ?_
 ·intro j u hj
  match j,hj with
  |0,hj=>simp at hj;subst hj;simpa [Addr.add] using hz
 ·intro u hu;simp at hu;subst hu;rfl
 ·intro g cap w' hown' hg hw;exact h g cap w' hown' hg hw
theorem Au{w:World}{base:Nat}{y:Value}{l:List Int}(h:w.ownsRow base 37 1 y l.length (uc l)):∃ad cap,y=.slice ad l.length cap∧∀i (hi:i<l.length),∃g,ad=some ⟨g,0,none⟩∧w.cell? ⟨g,i,none⟩=some (.int .u64 l[i]):=by
 rcases h.2 with⟨e1,e2⟩|⟨g,cap,cur,e1,hb,hc,h3,_⟩
 ·exact⟨none,0,by rw[e2];exact e1,fun i hi=>by omega⟩
 ·refine⟨_,cap,e1,fun i hi=>⟨g,rfl,?_⟩⟩;have:=h.cells (g:=g) (by rw[e1];rfl) i (.int .u64 l[i]) (by simp[uc,hi])
  rwa [add_plain,Nat.zero_add] at this
theorem wG{w:World}{base:Nat}{y:Value}{l:List Int}(h:w.ownsRow base 37 1 y l.length (uc l))(hw:Wd l)(hl:l.length≤1000){o:O18}(ht:U64 o.tu):Calls Tryz.prog 10 #[y,.agg o.cs] w fun e w'=>(∃hh,U64 hh∧e=.returned (.int .u64 hh))∧Fr (fun _=>False) w w':=by
 obtain⟨kd,n,m0,pk,tu,d,ad0,cap0,W0⟩:=o;have h':(w.alloc (.cells #[.int .i64 kd,.int .i64 n,.int .i64 m0,.int .i64 pk,.int .u64 tu,.string d,.slice ad0 W0.length cap0] 39)).ownsRow base 37 1 y l.length (uc l):=du h ((Fr.refl (fun _=>False) _).alloc _) fun _ _=>id
 obtain⟨ad,cap,rfl,hc⟩:=Au h';unfold O18.cs;simp only at ht ⊢;generalize W0.length=wl at *;by_cases h0:l.length=0
 ·rw[h0];clear h0 hc hl h h' hw;go_enter Tryz.func10,Tryz.ntmps10;go_wp2;go_ret;exact⟨⟨tu,ht,by simp⟩,(Fr.refl _ _).alloc _⟩
 ·obtain⟨q,hq,hql⟩:=modu pk l.length l.length rfl (by omega) (by omega);obtain⟨g,rfl,hg⟩:=hc q hql;have hx:=rS (hw _ (List.getElem_mem hql)) ht;clear h hc h' hw;generalize l[q]=x at *;generalize l.length=m at *;have hb:((m:Int)==0)=false:=by simp;omega
  have hw0:IntKind.u64.wrap (m:Int)=(m:Int):=by rw[IntKind.wrap_u64];omega
  have HX:=hid hx;have HT:=hid ht;clear hx ht;generalize hbx:Go.bits .xor .u64 x tu=bx at *;go_enter Tryz.func10,Tryz.ntmps10;go_wp2;go_quiet (simp only[hw0,hq,hbx]);go_wp2;go_ret;exact⟨⟨bx,HX.out,by simp⟩,((Fr.refl _ _).alloc _).drewN nq⟩
section
variable{W w:World}{x:Tp}{S:TnS}{ts:List (World→(Nat→Prop)→Prop)}
theorem si(g:aa W w (tnl x S ts))(ob:Obj):aa W (w.alloc ob) (tnl x S (Blk w.heap.size ob::ts)):=aa.rot [Hs x.a x.m x.h x.t x.k S.M S.H,Kc x.c S.c,Qq x.q S.s,Ot x.B S.f S.n,Blk x.T (tob x)] ts (g.blk ob)
theorem vM(g:aa W w (tnl x S ts)):aa W w (tnl x S (Ru W.heap.size (.slice none 0 0) []::ts)):=aa.rot [Hs x.a x.m x.h x.t x.k S.M S.H,Kc x.c S.c,Qq x.q S.s,Ot x.B S.f S.n,Blk x.T (tob x)] ts (g.more (Z:=fun _=>False) (Ru.good ..) (Ru.empty _ _) (Fr.refl _ _) fun _ e=>e.elim)
theorem mF(f:Int→Option (Int×Int)):∀(zs:List Int) (k:Nat) (hk:k<zs.length),csum f (zs.take (k+1))=csum f (zs.take k)+((f zs[k]).getD (0,0)).2
 |a::r,0,_=>by simp[csum]
 |a::r,k+1,h=>by
  have hk:k<r.length:=by simpa using h
  have:=mF f r k hk;show _+csum f (r.take (k+1))=_+csum f (r.take k)+((f r[k]).getD (0,0)).2;rw[this];omega
theorem vh{b:Nat}(ok:TnOk x S b){zs:List Int}(hz:∀a,a∈zs↔(S.f a).isSome=true){wb:World}{bad:Option Addr}(h:Bk.BkAt wb bad (zs.map (dU S.f))):∀k,k<(zs.map (dU S.f)).length→∃(B off:Nat) (av sz us:Int),bad=some ⟨B,off,none⟩∧B<wb.heap.size∧wb.cell? ⟨B,off+k * 3,none⟩=some (.int .i64 av)∧wb.cell? ⟨B,off+k * 3+1,none⟩=some (.int .i64 sz)∧wb.cell? ⟨B,off+k * 3+2,none⟩=some (.int .i64 us)∧1≤sz∧sz≤us∧us≤8192∧ag us=us∧csum S.f (zs.take (k+1))=csum S.f (zs.take k)+us:=by
 intro k hk;have hk2:k<zs.length:=by simpa using hk
 obtain⟨B,off,e1,e2,e3,e4,e5⟩:=h k hk;obtain⟨y,hy⟩:=Option.isSome_iff_exists.1 ((hz _).1 (List.getElem_mem hk2));obtain⟨c,s,j,_,_,hc,_,hu,y1,y2,y3,y4,_⟩:=ok.obj hy;simp only[List.getElem_map,dU,hy,Option.getD_some] at e3 e4 e5;have e6:=mF S.f zs k hk2;rw[hy,Option.getD_some] at e6;refine⟨B,off,_,_,_,e1,e2,e3,e4,e5,y1,y2,y4,?_,e6⟩;rw[cy y.2 (by omega) y4,hu,wF c (by omega) (by omega)]
end
theorem iH(E hd ad n:Int)(d:ByteArray)(cg:Int)(w:World):(Instr.field 43 (ans E hd ad n d cg) 0).run Tryz.prog w=.ok (.int .i64 E) w∧(Instr.field 43 (ans E hd ad n d cg) 3).run Tryz.prog w=.ok (.int .i64 n) w:=⟨by kernel_rfl,by kernel_rfl⟩
theorem qH{w:World}(gr:G17 w){P K q id se:Int}{ad0:Option Addr}{cap0:Nat}{W0:List Int}(hc:CfgT w ⟨P,K,q,id,se,ad0,cap0,W0⟩){ad:Option Addr}{cap:Nat}{l:List O18}(ho:OpsT w ad l)(hl:l.length≤maxLen):Calls Tryz.prog 6 #[.agg #[.int .i64 P,.int .i64 K,.int .i64 q,.int .i64 id,.int .i64 se,.slice ad0 W0.length cap0],.slice ad l.length cap] w fun e w'=>e=.returned (.bool true)∧Nw w w':=by
 have HA:Hid (∀w1 ts,aa w w1 ts→Calls Tryz.prog 8 #[] w1 fun e w'=>e=.returned (.bool true)∧aa w w' ts):=fun w1 ts h=>(vn (Nw.start w1) (gr.fr h.nw.fr)).mono fun e w' ⟨he,f⟩=>⟨he,h.kept f.fr⟩
 have G0:Hid (aa w (w.alloc (.cells #[.int .i64 P,.int .i64 K,.int .i64 q,.int .i64 id,.int .i64 1,.slice ad0 W0.length cap0] 26)) [Blk w.heap.size (.cells #[.int .i64 P,.int .i64 K,.int .i64 q,.int .i64 id,.int .i64 1,.slice ad0 W0.length cap0] 26 (0,0))]):=(aa.start (Nw.start w)).blk (.cells #[.int .i64 P,.int .i64 K,.int .i64 q,.int .i64 id,.int .i64 1,.slice ad0 W0.length cap0] 26);have hc1:CfgT w ⟨P,K,q,id,1,ad0,cap0,W0⟩:=⟨hc.p,hc.k,hc.q,hc.id,by show I64 1;decide,hc.W,hc.lW⟩;have HM:Hid (∀w1 ts,aa w w1 ts→Calls Tryz.prog 7 #[.agg #[.int .i64 P,.int .i64 K,.int .i64 q,.int .i64 id,.int .i64 1,.slice ad0 W0.length cap0]] w1 fun e w'=>oj w ts ⟨P,K,q,id,1,ad0,cap0,W0⟩ e w'):=fun w1 ts h=>wU h gr hc1
 have HLO:Hid (∀w1 ts,aa w w1 ts→Calls Tryz.prog 9 #[.agg #[.int .i64 P,.int .i64 K,.int .i64 q,.int .i64 id,.int .i64 1,.slice ad0 W0.length cap0],.slice ad l.length cap] w1 fun e w'=>LongR ⟨P,K,q,id,1,ad0,cap0,W0⟩ l e∧aa w w' ts):=fun w1 ts h=>(wW (ho.fr h.nw.fr) (hc1.fr h.nw.fr) hl).mono fun e w' ⟨he,f⟩=>⟨he,h.kept f⟩
 have GR:=hid gr;have HO:=hid ho;have hlW:W0.length≤17592186044416:=hc.lW;have hid1:I64 id:=hc.id;clear hc gr hc1 ho;go_enter Tryz.func6,Tryz.ntmps6;go_wp2_with fail;refine(HM.out _ _ G0.out).mono ?_;rintro e w1 (⟨v1,v2,v3,E,hE,rfl,g1⟩|⟨nP,kk,x,a,m,adx,B,ob,cf,eP,eK,ek,eid,epk,hfit,hi,rfl,g1⟩)
 ·have G1:=hid g1;clear g1 G0 HM;go_wp2_with fail;refine(HA.out _ _ G1.out).mono ?_;rintro e w2 ⟨rfl,g2⟩;have G2:=hid g2;clear g2 G1;go_wp2_with fail;refine(HA.out _ _ G2.out).mono ?_;rintro e w3 ⟨rfl,g3⟩;have G3:=hid g3;clear g3 G2 HA;go_wp2;go_ret;exact⟨by simp,G3.out.nw⟩
 ·have G1:=hid g1;simp only at eP eK eid epk hfit hi;subst eP eK;clear g1 G0 HM;go_wp2_with fail;refine(HA.out _ _ G1.out).mono ?_;rintro e w2 ⟨rfl,g2⟩;have G2:=hid g2;have c0:w2.cell? ⟨w.heap.size,0,none⟩=some (.int .i64 (nP:Int)):=ae (g2.cells 7 rfl) 0 rfl;have c1:w2.cell? ⟨w.heap.size,1,none⟩=some (.int .i64 (kk:Int)):=ae (g2.cells 7 rfl) 1 rfl;have c2:w2.cell? ⟨w.heap.size,2,none⟩=some (.int .i64 q):=ae (g2.cells 7 rfl) 2 rfl;have c3:w2.cell? ⟨w.heap.size,3,none⟩=some (.int .i64 id):=ae (g2.cells 7 rfl) 3 rfl;have c4:w2.cell? ⟨w.heap.size,4,none⟩=some (.int .i64 1):=ae (g2.cells 7 rfl) 4 rfl;have c5:w2.cell? ⟨w.heap.size,5,none⟩=some (.slice ad0 W0.length cap0):=ae (g2.cells 7 rfl) 5 rfl;clear g2 G1;have HL2:=hid (HLO.out _ _ G2.out);clear HLO;generalize hnW:W0.length=nW at HL2 c5;generalize hnl:l.length=nl at *;go_wp2_with fail;refine HL2.out.mono ?_;rintro e w3 ⟨⟨lb,rfl,hsh⟩,g3⟩;have G3:=hid g3;clear g3 G2 HL2 c0 c1 c2 c3 c4 c5;cases lb with
  |true=>
   clear hsh;go_wp2_with fail;refine(HA.out _ _ G3.out).mono ?_;rintro e w4 ⟨rfl,g4⟩;have G4:=hid g4;clear g4 G3 HA;go_wp2;go_ret;exact⟨by simp,G4.out.nw⟩
  |false=>
   have HS:=hid (hsh rfl);have hT:TnOk x (newT (mN nP) W0 id 1 q) 0:=by
    refine tn_new (by rw[ek];exact cf) hlW (by have h5:=hfit;exact h5) (by rw[eid];exact hi.1) eid (by have h5:=HS.out.P;simp only at h5;omega)
   have g4:=vM G3.out;have HSO:Hid (∀i (hi:i<l.length),l[i].W.length≤100000):=fun i hi=>by have:=(HS.out.ops i hi).1;omega
   have hl150:l.length≤150:=HS.out.len;have hf0:=fun a b c d e f w=>(iH a b c d e f w).1
   have hf3:=fun a b c d e f w=>(iH a b c d e f w).2
   generalize hts:(Lv adx W0::Blk B ob::_)=ts at g4;have G4:=hid g4;have HT:=hid hT;clear hsh HA g4 G3 hts hT HS eid epk hfit hi cf ek hlW hid1;go_wp2;go_loopw [9,40] (fun y iv wr=>∃(i:Nat) (x':Tp) (S':TnS) (gl:List Int),i≤l.length∧iv=.int .i64 i∧gl.length≤i∧x'.T=x.T∧Hid (Wd gl∧TnOk x' S' (1536 * i))∧Hid (aa w wr (tnl x' S' (Ru w.heap.size y gl::ts)))) (fun _ iv _=>l.length - (intOf iv).toNat)
   case atStart=>exact⟨0,x,_,[],by omega,rfl,by simp,rfl,⟨fun _ h=>(by cases h),HT.out⟩,G4⟩
   case round=>
    obtain⟨i,x',S',gl,hi,rfl,hgl,hxT,HI,HG⟩:=hrel;clear HT G4;by_cases hlt:i<l.length
    ·have hR:oi w l[i]:=by
      obtain⟨_,_,_,_,_,_,_,_,_,_,_,h⟩:=HO.out i hlt;exact h
     obtain⟨bb,off,rfl,hbb,hc1,hc2,hc3,hc4,hc5,hc6,hc7,_⟩:=HO.out.fr HG.out.nw.fr i hlt;have hoW:=HSO.out i hlt;generalize l[i]=o at hc1 hc2 hc3 hc4 hc5 hc6 hc7 hR hoW;obtain⟨kd,n,mm,pk,tu,ds,oad,ocap,oW⟩:=o;simp only at hc1 hc2 hc3 hc4 hc5 hc6 hc7 hoW;have htu:U64 tu:=hR.tu;have HOF:Hid (∀w1 S x' ts y,aa w w1 (tnl x' S (Blk wr.heap.size (.cells #[.int .i64 kd,.int .i64 n,.int .i64 mm,.int .i64 pk,.int .u64 tu,.string ds,.slice oad oW.length ocap] 39)::Ru w.heap.size y gl::ts))→Calls Tryz.prog 10 #[y,.agg #[.int .i64 kd,.int .i64 n,.int .i64 mm,.int .i64 pk,.int .u64 tu,.string ds,.slice oad oW.length ocap]] w1 fun e w'=>(∃hh,U64 hh∧e=.returned (.int .u64 hh))∧aa w w' (tnl x' S (Blk wr.heap.size (.cells #[.int .i64 kd,.int .i64 n,.int .i64 mm,.int .i64 pk,.int .u64 tu,.string ds,.slice oad oW.length ocap] 39)::Ru w.heap.size y gl::ts))):=fun w1 S x' ts y g=>(wG (o:=⟨kd,n,mm,pk,tu,ds,oad,ocap,oW⟩) (g.AD 6 rfl).1 HI.out.1 (by omega) htu).mono fun e w' ⟨he,f⟩=>⟨he,g.kept f⟩
     have HUS:Hid (∀w1 ts hh,U64 hh→aa w w1 (tnl x' S' ts)→Calls Tryz.prog 13 #[.pointer (some ⟨x'.T,0,none⟩),.int .u64 hh] w1 fun e w'=>(∃E,e=.returned (ans E 0 0 (usN S' hh) ⟨#[]⟩ S'.s.cb))∧aa w w' (tnl x' S' ts)):=fun w1 ts hh h0 g=>kZ g HI.out.2 h0
     have HCA:Hid (∀w1 ts hh,U64 hh→aa w w1 (tnl x' S' ts)→Calls Tryz.prog 14 #[.pointer (some ⟨x'.T,0,none⟩),.agg #[.int .i64 kd,.int .i64 n,.int .i64 mm,.int .i64 pk,.int .u64 tu,.string ds,.slice oad oW.length ocap],.int .u64 hh] w1 (ba w x' ts (1536 * i) (fun E hd=>kd=4→E=0→(hd=hh↔ag n≤usN S' hh)))):=fun w1 ts hh h0 g=>Ch (o:=⟨kd,n,mm,pk,tu,ds,oad,ocap,oW⟩) g GR.out HI.out.2 (by omega) h0 hR hoW
     have HG2:=hid (si HG.out (.cells #[.int .i64 kd,.int .i64 n,.int .i64 mm,.int .i64 pk,.int .u64 tu,.string ds,.slice oad oW.length ocap] 39));have k0:(wr.alloc (.cells #[.int .i64 kd,.int .i64 n,.int .i64 mm,.int .i64 pk,.int .u64 tu,.string ds,.slice oad oW.length ocap] 39)).cell? ⟨wr.heap.size,0,none⟩=some (.int .i64 kd):=ae (HG2.out.cells 5 rfl) 0 rfl;have k1:(wr.alloc (.cells #[.int .i64 kd,.int .i64 n,.int .i64 mm,.int .i64 pk,.int .u64 tu,.string ds,.slice oad oW.length ocap] 39)).cell? ⟨wr.heap.size,1,none⟩=some (.int .i64 n):=ae (HG2.out.cells 5 rfl) 1 rfl;have k2:(wr.alloc (.cells #[.int .i64 kd,.int .i64 n,.int .i64 mm,.int .i64 pk,.int .u64 tu,.string ds,.slice oad oW.length ocap] 39)).cell? ⟨wr.heap.size,2,none⟩=some (.int .i64 mm):=ae (HG2.out.cells 5 rfl) 2 rfl;have k3:(wr.alloc (.cells #[.int .i64 kd,.int .i64 n,.int .i64 mm,.int .i64 pk,.int .u64 tu,.string ds,.slice oad oW.length ocap] 39)).cell? ⟨wr.heap.size,3,none⟩=some (.int .i64 pk):=ae (HG2.out.cells 5 rfl) 3 rfl;have k4:(wr.alloc (.cells #[.int .i64 kd,.int .i64 n,.int .i64 mm,.int .i64 pk,.int .u64 tu,.string ds,.slice oad oW.length ocap] 39)).cell? ⟨wr.heap.size,4,none⟩=some (.int .u64 tu):=ae (HG2.out.cells 5 rfl) 4 rfl;have k5:(wr.alloc (.cells #[.int .i64 kd,.int .i64 n,.int .i64 mm,.int .i64 pk,.int .u64 tu,.string ds,.slice oad oW.length ocap] 39)).cell? ⟨wr.heap.size,5,none⟩=some (.string ds):=ae (HG2.out.cells 5 rfl) 5 rfl
     have k6:(wr.alloc (.cells #[.int .i64 kd,.int .i64 n,.int .i64 mm,.int .i64 pk,.int .u64 tu,.string ds,.slice oad oW.length ocap] 39)).cell? ⟨wr.heap.size,6,none⟩=some (.slice oad oW.length ocap):=ae (HG2.out.cells 5 rfl) 6 rfl;have HB7:Hid (∀w1 x' S' ts,aa w w1 (tnl x' S' (Blk wr.heap.size (.cells #[.int .i64 kd,.int .i64 n,.int .i64 mm,.int .i64 pk,.int .u64 tu,.string ds,.slice oad oW.length ocap] 39)::ts))→w1.cell? ⟨wr.heap.size,0,none⟩=some (.int .i64 kd)∧w1.cell? ⟨wr.heap.size,1,none⟩=some (.int .i64 n)∧w1.cell? ⟨wr.heap.size,2,none⟩=some (.int .i64 mm)∧w1.cell? ⟨wr.heap.size,3,none⟩=some (.int .i64 pk)∧w1.cell? ⟨wr.heap.size,4,none⟩=some (.int .u64 tu)∧w1.cell? ⟨wr.heap.size,5,none⟩=some (.string ds)∧w1.cell? ⟨wr.heap.size,6,none⟩=some (.slice oad oW.length ocap)):=fun w1 x' S' ts g=>⟨ae (g.cells 5 rfl) 0 rfl,ae (g.cells 5 rfl) 1 rfl,ae (g.cells 5 rfl) 2 rfl,ae (g.cells 5 rfl) 3 rfl,ae (g.cells 5 rfl) 4 rfl,ae (g.cells 5 rfl) 5 rfl,ae (g.cells 5 rfl) 6 rfl⟩
     have HXT:=hid hxT;rw[hxT] at HUS HCA;clear HO HSO hR hoW htu hxT HG;go_wp2_with fail;generalize wr.alloc (.cells #[.int .i64 kd,.int .i64 n,.int .i64 mm,.int .i64 pk,.int .u64 tu,.string ds,.slice oad oW.length ocap] 39)=w4 at *;refine(HOF.out _ _ _ _ _ HG2.out).mono ?_;rintro e w5 ⟨⟨hh,hhu,rfl⟩,g5⟩;have G5:=hid g5;clear k0 k1 k2 k3 k4 k5 k6 g5 HG2 HOF;go_wp2_with fail;refine(HUS.out _ _ _ hhu G5.out).mono ?_;rintro e w6 ⟨⟨E0,rfl⟩,g6⟩;have G6:=hid g6;obtain⟨k0,k1,k2,k3,k4,k5,k6⟩:=HB7.out _ _ _ _ g6;clear g6 G5 HUS;go_wp2_with fail;refine(HCA.out _ _ _ hhu G6.out).mono ?_;rintro e w7 ⟨x2,S2,E,hd,av,nn,dd,cg,b1,b2,b3,b4,rfl,g7⟩;have B7:=hid (si g7 (.cells #[.int .i64 E,.int .u64 hd,.int .i64 av,.int .i64 nn,.string dd,.int .i64 cg] 43));clear G6 g7 HCA k0 k1 k2 k3 k4 k5 k6;have HK:=hid (And.intro b1 (And.intro (b2.trans HXT.out) b3));have HC4:Hid (∀w1,aa w w1 (tnl x2 S2 (Blk w7.heap.size (.cells #[.int .i64 E,.int .u64 hd,.int .i64 av,.int .i64 nn,.string dd,.int .i64 cg] 43)::Blk wr.heap.size (.cells #[.int .i64 kd,.int .i64 n,.int .i64 mm,.int .i64 pk,.int .u64 tu,.string ds,.slice oad oW.length ocap] 39)::Ru w.heap.size u9 gl::ts))→(w1.cell? ⟨w7.heap.size,0,none⟩=some (.int .i64 E)∧w1.cell? ⟨w7.heap.size,1,none⟩=some (.int .u64 hd)∧w1.cell? ⟨wr.heap.size,0,none⟩=some (.int .i64 kd)∧w1.cell? ⟨wr.heap.size,1,none⟩=some (.int .i64 n))):=fun w1 g=>⟨ae (g.cells 5 rfl) 0 rfl,ae (g.cells 5 rfl) 1 rfl,ae (g.cells 6 rfl) 0 rfl,ae (g.cells 6 rfl) 1 rfl⟩
     have HCH:Hid (∀w1,aa w w1 (tnl x2 S2 (Blk w7.heap.size (.cells #[.int .i64 E,.int .u64 hd,.int .i64 av,.int .i64 nn,.string dd,.int .i64 cg] 43)::Blk wr.heap.size (.cells #[.int .i64 kd,.int .i64 n,.int .i64 mm,.int .i64 pk,.int .u64 tu,.string ds,.slice oad oW.length ocap] 39)::Ru w.heap.size u9 gl::ts))→Calls Tryz.prog 15 #[.int .i64 n] w1 fun e w'=>e=.returned (.int .i64 (ag n))∧aa w w' (tnl x2 S2 (Blk w7.heap.size (.cells #[.int .i64 E,.int .u64 hd,.int .i64 av,.int .i64 nn,.string dd,.int .i64 cg] 43)::Blk wr.heap.size (.cells #[.int .i64 kd,.int .i64 n,.int .i64 mm,.int .i64 pk,.int .u64 tu,.string ds,.slice oad oW.length ocap] 39)::Ru w.heap.size u9 gl::ts))):=fun w1 g=>(oU n (K.start (GR.out.fr g.nw.fr).1)).mono fun e w' ⟨h1,h2⟩=>⟨h1,g.kept h2.fr⟩
     have hcase:kd≠4∨(kd=4∧E≠0)∨(kd=4∧E=0∧(hd=hh∧ag n≤usN S' hh))∨(kd=4∧E=0∧(hd≠hh∧¬ag n≤usN S' hh)):=by
      by_cases e1:kd=4
      ·by_cases e2:E=0
       ·have:=b4 e1 e2;by_cases e3:hd=hh
        ·exact .inr (.inr (.inl ⟨e1,e2,e3,this.1 e3⟩))
        ·exact .inr (.inr (.inr ⟨e1,e2,e3,fun k=>e3 (this.2 k)⟩))
       ·exact .inr (.inl ⟨e1,e2⟩)
      ·exact .inl e1
     clear b1 b2 b3 b4;generalize ag n=cI at *;generalize usN S' hh=uN at *;have gd:=B7.out.kept ((Fr.refl _ _).drew);obtain⟨p0,p1,p2,p3⟩:=HC4.out _ B7.out;obtain⟨q0,q1,q2,q3⟩:=HC4.out _ gd;have GD:=hid gd;have HCD:=hid (HCH.out _ gd);clear gd HCH;go_wp2_with fail;generalize w7.alloc (.cells #[.int .i64 E,.int .u64 hd,.int .i64 av,.int .i64 nn,.string dd,.int .i64 cg] 43)=w8 at *;generalize (Obj.cells #[.int .i64 E,.int .u64 hd,.int .i64 av,.int .i64 nn,.string dd,.int .i64 cg] 43)=oA at *;generalize (Obj.cells #[.int .i64 kd,.int .i64 n,.int .i64 mm,.int .i64 pk,.int .u64 tu,.string ds,.slice oad oW.length ocap] 39)=oO at *;have HBL:Hid (∀w1 ts,aa w w1 (tnl x2 S2 ts)→Calls Tryz.prog 18 #[.pointer (some ⟨x.T,0,none⟩)] w1 fun e w'=>∃y zs,zs.Nodup∧(∀a,a∈zs↔(S2.f a).isSome=true)∧S2.s.cb=csum S2.f zs∧e=.returned y∧Bk.Gr3 w1 w' y (zs.map (dU S2.f))∧aa w w' (tnl x2 S2 ts)):=fun w1 ts g=>by
      rw[←HK.out.2.1];exact wO g HK.out.1
     have HCB:Hid (∀w1 ts,aa w w1 (tnl x2 S2 ts)→Calls Tryz.prog 11 #[.pointer (some ⟨x.T,0,none⟩)] w1 fun e w'=>e=.returned (.int .i64 S2.s.cb)∧aa w w' (tnl x2 S2 ts)):=fun w1 ts g=>by
      rw[←HK.out.2.1];exact eG g
     rcases hcase with e1|⟨rfl,e2⟩|⟨rfl,rfl,rfl,e3⟩|⟨rfl,rfl,e3,e4⟩
     focus
      have x1:(kd==4)=false:=by simp[e1]
      have x2:decide (kd=4)=false:=by simp[e1]
      go_quiet (fail);have G9:=hid (B7.out.kept ((Fr.refl _ _).drewN nq));generalize w8.drewN nq=w9 at *;clear x1 x2
     rotate_left
     focus
      have x1:(E==0)=false:=by simp[e2]
      have x2:decide (E=0)=false:=by simp[e2]
      go_quiet (fail);have G9:=hid (B7.out.kept ((Fr.refl _ _).drewN nq));generalize w8.drewN nq=w9 at *;clear x1 x2
     rotate_left
     focus
      have x1:decide (cI≤uN)=true:=by simp[e3]
      go_region_held3 (fun w'=>w'.cell? ⟨w7.heap.size,0,none⟩=some (.int .i64 0)∧w'.cell? ⟨w7.heap.size,1,none⟩=some (.int .u64 hd)∧w'.cell? ⟨wr.heap.size,0,none⟩=some (.int .i64 4)∧w'.cell? ⟨wr.heap.size,1,none⟩=some (.int .i64 n)) (first|exact⟨by with_reducible assumption,by with_reducible assumption,by with_reducible assumption,by with_reducible assumption⟩|go_keep) (first|(go_at_call 15;refine HCD.out.mono ?_;rintro e w9 ⟨rfl,g9⟩;obtain⟨r0,r1,r2,r3⟩:=HC4.out _ g9;have G9:=hid g9;clear g9));clear r0 r1 r2 r3
     rotate_left
     focus
      have x1:decide (cI≤uN)=false:=by simp;omega
      have x9:(hd==hh)=false:=by simp[e3]
      go_region_held3 (fun w'=>w'.cell? ⟨w7.heap.size,0,none⟩=some (.int .i64 0)∧w'.cell? ⟨w7.heap.size,1,none⟩=some (.int .u64 hd)∧w'.cell? ⟨wr.heap.size,0,none⟩=some (.int .i64 4)∧w'.cell? ⟨wr.heap.size,1,none⟩=some (.int .i64 n)) (first|exact⟨by with_reducible assumption,by with_reducible assumption,by with_reducible assumption,by with_reducible assumption⟩|go_keep) (first|(go_at_call 15;refine HCD.out.mono ?_;rintro e w9 ⟨rfl,g9⟩;obtain⟨r0,r1,r2,r3⟩:=HC4.out _ g9;have G9:=hid g9;clear g9));clear r0 r1 r2 r3
     rotate_left
     all_goals
      clear p0 p1 p2 p3 q0 q1 q2 q3 GD B7 HCD HB7;go_wp2_with fail;refine(HBL.out _ _ G9.out).mono ?_;rintro e w10 ⟨yb,zs,z1,z2,z3,rfl,hgr,g10⟩;obtain⟨bad,bcap,rfl⟩:=hgr.form;have HGR:=hid hgr;have G10:=hid g10;have HZ:=hid (And.intro z1 (And.intro z2 z3));clear hgr g10 G9 HBL z1 z2 z3;have HFB:=hid (vh HK.out.1 HZ.out.2.1 HGR.out.vU.1);have hfew:(zs.map (dU S2.f)).length≤4096:=by
       have h5:=HK.out.1.few;obtain⟨ks,h6,h7,h8,_⟩:=HK.out.1.ks;have h9:zs.Perm ks:=(List.perm_ext_iff_of_nodup HZ.out.1 h6).2 fun a=>(HZ.out.2.1 a).trans (h7 a).symm
       rw[List.length_map,h9.length_eq];omega
      have HLN:Hid ((zs.map (dU S2.f)).length=zs.length):=List.length_map _;clear HGR;generalize (zs.map (dU S2.f)).length=N at *;go_wp2;go_loopw [15,78] (fun sv iv w'=>∃(k:Nat),k≤N∧iv=.int .i64 (k:Int)∧sv=.int .i64 (csum S2.f (zs.take k))∧Hid (0≤csum S2.f (zs.take k)∧csum S2.f (zs.take k)≤8192 * k)∧Hid (Fr (fun _=>False) w10 w')) (fun _ iv _=>N - (intOf iv).toNat)
      case atStart=>exact⟨0,by omega,by simp,by simp[csum],⟨by simp[csum],by simp[csum]⟩,Fr.refl _ _⟩
      case round=>
       obtain⟨k,hk,rfl,rfl,hcs,HF⟩:=hrel;by_cases hlt2:k<N
       ·obtain⟨Bb,of2,av2,sz,us,rfl,hBb,d0,d1,d2,s1,s2,s3,s4,s5⟩:=HFB.out k hlt2;have e0:=(World.cell?_of_block (HF.out.block Bb hBb (fun e=>e))).trans d0;have e1:=(World.cell?_of_block (HF.out.block Bb hBb (fun e=>e))).trans d1;have e2:=(World.cell?_of_block (HF.out.block Bb hBb (fun e=>e))).trans d2;have x1:decide (sz<1)=false:=by simp;omega
        have x2:decide (us<sz)=false:=by simp;omega
        have x3:decide (sz>us)=false:=by simp;omega
        have x4:decide ((k:Int)<(N:Int))=true:=by simp;omega
        have x5:IntKind.i64.wrap (csum S2.f (zs.take k)+us)=csum S2.f (zs.take k)+us:=by rw[IntKind.wrap_i64];have:=hcs.out;omega
        have x6:IntKind.i64.wrap ((k:Int)+1)=(k:Int)+1:=by rw[IntKind.wrap_i64];omega
        have HN2:Hid (0≤csum S2.f (zs.take (k+1))∧csum S2.f (zs.take (k+1))≤8192 * ((k+1:Nat):Int)):=by
         have:=hcs.out;refine⟨by omega,by rw[s5];omega⟩
        have HS5:=hid s5;have HF2:=hid (HF.out.alloc (.cells #[.int .i64 av2,.int .i64 sz,.int .i64 us] 58));have t0:(wr.alloc (.cells #[.int .i64 av2,.int .i64 sz,.int .i64 us] 58)).cell? ⟨wr.heap.size,0,none⟩=some (.int .i64 av2):=by simp only[World.cell?,heap_alloc_new];rfl
        have t1:(wr.alloc (.cells #[.int .i64 av2,.int .i64 sz,.int .i64 us] 58)).cell? ⟨wr.heap.size,1,none⟩=some (.int .i64 sz):=by simp only[World.cell?,heap_alloc_new];rfl
        have t2:(wr.alloc (.cells #[.int .i64 av2,.int .i64 sz,.int .i64 us] 58)).cell? ⟨wr.heap.size,2,none⟩=some (.int .i64 us):=by simp only[World.cell?,heap_alloc_new];rfl
        have hsz:wr.heap.size<(wr.alloc (.cells #[.int .i64 av2,.int .i64 sz,.int .i64 us] 58)).heap.size:=by simp
        clear HFB hcs s1 s2 s3 s5 d0 d1 d2 hBb;generalize csum S2.f (zs.take k)=cs at *;go_wp2_with fail;clear e0 e1 e2 HF;generalize wr.alloc (.cells #[.int .i64 av2,.int .i64 sz,.int .i64 us] 58)=wb at *;have HCH:Hid (∀w1,Fr (fun _=>False) wb w1→Calls Tryz.prog 15 #[.int .i64 us] w1 fun e w'=>e=.returned (.int .i64 us)∧Fr (fun _=>False) wb w'∧(w'.cell? ⟨wr.heap.size,0,none⟩=some (.int .i64 av2)∧w'.cell? ⟨wr.heap.size,1,none⟩=some (.int .i64 sz)∧w'.cell? ⟨wr.heap.size,2,none⟩=some (.int .i64 us))):=fun w1 f1=>by
         have h:=oU us (K.start (GR.out.fr (Fr.trans (Fr.trans G10.out.nw.fr HF2.out) f1)).1);rw[s4] at h;refine h.mono fun e w' ⟨h1,h2⟩=>⟨h1,Fr.trans f1 h2.fr,?_⟩
         have f2:=Fr.trans f1 h2.fr;exact⟨(World.cell?_of_block (f2.block _ hsz (fun e=>e))).trans t0,(World.cell?_of_block (f2.block _ hsz (fun e=>e))).trans t1,(World.cell?_of_block (f2.block _ hsz (fun e=>e))).trans t2⟩
        clear s4;go_region_held3 (fun w'=>w'.cell? ⟨wr.heap.size,0,none⟩=some (.int .i64 av2)∧w'.cell? ⟨wr.heap.size,1,none⟩=some (.int .i64 sz)∧w'.cell? ⟨wr.heap.size,2,none⟩=some (.int .i64 us)) (first|exact⟨by with_reducible assumption,by with_reducible assumption,by with_reducible assumption⟩|go_keep) (first|(go_at_call 15;refine(HCH.out _ (by first|exact(Fr.refl _ _).drew |exact Fr.refl _ _)).mono ?_;rintro e wx ⟨rfl,fx,r0,r1,r2⟩;have FX:=hid fx;clear fx));go_wp2;go_roundw
        case rel=>exact⟨k+1,by omega,by simp,by rw[HS5.out],HN2,by first|exact Fr.trans HF2.out FX.out|exact(Fr.trans HF2.out FX.out).alloc _⟩
        case measure=>simp only[intOf];omega
       ·obtain rfl:k=N:=by omega
        have x4:decide ((k:Int)<(k:Int))=false:=by simp
        have HE:Hid (csum S2.f (zs.take k)=S2.s.cb):=by rw[HLN.out,List.take_length];exact HZ.out.2.2.symm
        rw[HE.out];have GI:=hid (G10.out.kept HF.out);clear HFB HF hcs;go_wp2_with fail;refine(HCB.out _ _ GI.out).mono ?_;rintro e w11 ⟨rfl,g11⟩;have G11:=hid g11;obtain⟨c0,c1,_,_⟩:=HC4.out _ g11;have GT:=hid (bh (bh g11));have hwz:w.heap.size≤w11.heap.size:=g11.nw.fr.size;have hhd:=HK.out.2.2;have HK1:Hid (TnOk x2 S2 (1536 * (i+1))):=HK.out.1;have HK2:=hid HK.out.2.1;clear g11 GI HCB G11 G10 HZ HE HLN HK HC4 GR;generalize S2.s.cb=cb at *;by_cases hz0:hd=0
        ·subst hz0;go_wp2;go_roundw
         case rel=>exact⟨i+1,x2,S2,gl,by omega,by simp,by omega,HK2.out,⟨HI.out.1,HK1.out⟩,GT⟩
         case measure=>simp only[intOf];omega
        ·have y1:(hd==0)=false:=by simp[hz0]
         have y2:decide (hd=0)=false:=by simp[hz0]
         have HR1:=hid (GT.out.AD 5 rfl).1;have HW2:Hid (Wd (gl++[hd])):=fun z hz=>by
          rcases List.mem_append.1 hz with h|h
          ·exact HI.out.1 z h
          ·rw[List.mem_singleton.1 h];exact hhd
         go_wp2_with (at_builtin;refine push1u rfl (.tmp 112) (.tmp 115) rfl w.heap.size _ _ hd rfl (HR1.out.alloc _) w11.heap.size rfl (by simp) (by omega) (by simp;omega) ?_);intro g cap6 w12 hown hg hw12;have T6:=hid ((GT.out.AD 5 rfl).2 ((Fr.refl _ _).alloc _) hown rfl hg (hw12.imp (fun e=>e) fun e=>by rw[e];simp));clear hown hg hw12 HR1 GT;go_wp2;go_roundw
         case rel=>exact⟨i+1,x2,S2,gl++[hd],by omega,by simp,by simp;omega,HK2.out,⟨HW2.out,HK1.out⟩,T6⟩
         case measure=>simp only[intOf];omega
    ·have x4:decide ((i:Int)<(nl:Int))=false:=by simp;omega
     have GN:=HG.out.nw;clear HG HI HO HSO;go_wp2;go_ret;exact⟨by simp,GN⟩
theorem sX{w:World}(gr:G17 w){c:C18}(hc:CfgT w c){v:Value}(hs:∃ad cap ops,v=.slice ad (List.length ops) cap∧OpsT w ad ops∧ops.length≤maxLen):Calls Tryz.prog 6 #[.agg c.cs,v] w fun e w'=>e=.returned (.bool true)∧Fr (fun _=>False) w w':=by
 obtain⟨P,K,q,id,se,ad0,cap0,W0⟩:=c;obtain⟨ad,cap,l,rfl,ho,hl⟩:=hs;exact(qH gr hc ho hl).mono fun e w' ⟨he,f⟩=>⟨he,f.fr⟩
end Go.Proofs.YtndhbnhobhkmaaaGreatDoor
namespace Go.Proofs.YtndhbnhobhkmaaaGreatDoor
open Go.RowKit
def qY:List (String×DataW Unit):=[("garth/class.units",Rows.laid_garth_class_units),("math/bits.deBruijn64tab",Rows.laid_math_bits_deBruijn64tab)]
theorem own:ownKnob Tryz.prog.godebug=none:=by kernel_rfl
theorem laidOut:laidOutB Tryz.prog=true:=by kernel_rfl
theorem lU{P:Program}{W:World}{n:String}{d:DataW Unit}{r:List (String×DataW Unit)}(h:laidMet P ((n,d)::r) W):laidMet P r W:=by
 obtain⟨ps,⟨g,t,cs,fuel,p,q,_,_,_,_,hr,rfl⟩,hn,hc⟩:=h;exact⟨q,hr,(List.nodup_append.1 hn).2.1,fun b off hm=>hc b off (by simp[hm])⟩
theorem gTab:Tryz.prog.globalNamed "garth/class.units" =some 0:=by kernel_rfl
theorem tTab:(Tryz.prog.globals[0]?).map (·.type)=some 149:=by kernel_rfl
theorem cTab:Tryz.prog.cellsOf 149=8:=by kernel_rfl
theorem cInt:Tryz.prog.cellsOf 3=1:=by kernel_rfl
def tabZ:List Int:=[16,32,48,64,96,128,192,256]
theorem Bh:(Rows.laid_garth_class_units:DataW Unit)=Lib.tabData .i64 tabZ:=rfl
theorem gTabB:Tryz.prog.globalNamed "math/bits.deBruijn64tab" =some 2:=by kernel_rfl
theorem tTabB:(Tryz.prog.globals[2]?).map (·.type)=some 265:=by kernel_rfl
theorem cTabB:Tryz.prog.cellsOf 265=64:=by kernel_rfl
theorem cByteB:Tryz.prog.cellsOf 5=1:=by kernel_rfl
def tabB:List Int:=Lib.deBruijn64tab.map fun n:Nat=>(n:Int)
theorem xd:(Rows.laid_math_bits_deBruijn64tab:DataW Unit)=Lib.tabData .u8 tabB:=rfl
theorem tab_of{W:World}(h:laidMetH Tryz.prog qY W):Tab W∧Sf.Tab W:=by
 rw[MakeChecks.laidMetH_plain _ _ _ (by kernel_rfl)] at h;unfold qY at h;rw[Bh,xd] at h;have ht:=Lib.tabIs_of_head gTab tTab Tryz.underlying149 Tryz.underlying3 cInt cTab h;have hb:=Lib.tabIs_of_head gTabB tTabB Tryz.underlying265 Tryz.underlying5 cByteB cTabB (lU h);refine⟨fun j hj=> ?_,fun j hj=> ?_⟩
 ·have:=ht.cell gTab j (by simpa [tabZ] using hj);rw[this];have key:∀a:Fin 8,tabZ.getD a.val 0=ah (a.val:Int):=by decide
  rw[key ⟨j,hj⟩]
 ·have:=hb.cell gTabB j (by simpa [tabB,Lib.deBruijn64tab] using hj);rw[this];have hl:j<Lib.deBruijn64tab.length:=by simpa [Lib.deBruijn64tab] using hj
  simp[tabB,List.getD_eq_getElem?_getD,List.getElem?_eq_getElem hl]
theorem xN(os:Os)(args:Array Value):laidMetH Tryz.prog qY ((World.doorLaid Tryz.prog 14 os).forCall (fun _ _=>0) ⟨#[],args,[]⟩).memory:=
 laidMetH_of_parts3 (fuel:=8) (laidMet_of_run' 8 (by kernel_rfl) (by kernel_rfl)) (by kernel_rfl) (by kernel_rfl)
end Go.Proofs.YtndhbnhobhkmaaaGreatDoor
