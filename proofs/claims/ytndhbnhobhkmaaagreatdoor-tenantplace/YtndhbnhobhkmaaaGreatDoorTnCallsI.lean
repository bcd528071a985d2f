/-
  What the calls of package tenant do: newQuota, nextPeak, Fits.
  What the calls of package tenant do: cut.
  What the calls of package tenant do: Realloc.
-/
import Derived.Test.YtndhbnhobhkmaaaGreatDoorTnCallsF
set_option maxRecDepth 20000
set_option maxHeartbeats 1000000
namespace Go.Proofs.YtndhbnhobhkmaaaGreatDoor
open Go.RowKit
open An
section
variable{W w:World}{x:Tp}{S:TnS}{ts:List (World→(Nat→Prop)→Prop)}
theorem qO(g:aa W w ts)(n:Int):Calls Tryz.prog 58 #[.int .i64 n] w fun e w'=>∃q,e=.returned (.tuple #[.pointer (some ⟨q,0,none⟩),.int .i64 0])∧aa W w' (ts++[Qq q (Qt.newQ (okA n 0) (okB n 0))]):=by
 have G:=hid g;have H1:=hid (ki n w);have hrt:Rt (okA n 0) (okB n 0):=by
  unfold okA okB;split
  ·rename_i h;exact h
  ·exact⟨by omega,by omega,by omega,by omega⟩
 have H2:=hid fun(w:World) (g:aa W w ts)=>Bn g hrt
 generalize okA n 0=qa at *;generalize okB n 0=qb at *;generalize fb qa=xb at *;generalize fb qb=yb at *;clear g hrt;go_enter Tryz.func58,Tryz.ntmps58;go_wp2_with fail;refine H1.out.mono ?_;rintro e w1 ⟨rfl,f1⟩;have G1:=hid (G.out.kept f1);clear f1 G H1;go_wp2_with fail;refine(H2.out _ G1.out).mono ?_;rintro e w2 ⟨q,rfl,g2⟩;have G2:=hid g2;clear g2 G1 H2;go_wp2;go_ret2;exact⟨q,by simp,G2.out⟩
def npI(cb pk q:Int):Int:=if cb=0 then q else max q pk
theorem fB(g:aa W w (tnl x S ts))(q:Int):Calls Tryz.prog 63 #[.pointer (some ⟨x.T,0,none⟩),.int .i64 q] w fun e w'=>e=.returned (.int .i64 (npI S.s.cb x.pk q))∧aa W w' (tnl x S ts):=by
 have G:=hid g;have H1:=hid fun(w:World) (g:aa W w (tnl x S ts))=>eG g
 have H6:Hid (∀(w:World),aa W w (tnl x S ts)→w.cell? ⟨x.T,6,none⟩=some (.int .i64 x.pk)):=fun w g=>ak g 6 rfl
 clear g;by_cases h:S.s.cb=0
 ·rw[show npI S.s.cb x.pk q=q from if_pos h];rw[h] at H1;clear h H6;go_enter Tryz.func63,Tryz.ntmps63;go_wp2_with fail;refine(H1.out _ G.out).mono ?_;rintro e w1 ⟨rfl,g1⟩;have G1:=hid g1;clear g1 G H1;go_wp2;go_ret;exact⟨by simp,G1.out⟩
 ·rw[show npI S.s.cb x.pk q=max q x.pk from if_neg h];generalize S.s.cb=cb at *;have hmx:=max_is Tryz.prog q x.pk (max q x.pk) rfl;generalize x.pk=pk at *;go_enter Tryz.func63,Tryz.ntmps63;go_wp2_with fail;refine(H1.out _ G.out).mono ?_;rintro e w1 ⟨rfl,g1⟩;have G1:=hid g1;have c6:=H6.out _ g1;clear g1 G H1 H6;go_wp2;go_ret;exact⟨by simp,G1.out⟩
def fitE(cb pk q p:Int):Int:=if q<1∨65536<q then 2 else if q<cb then 3 else if May (npI cb pk q)∧bj (npI cb pk q)≤p then 0 else 8
theorem lJ(g:aa W w (tnl x S ts))(gr:G17 W)(q p:Int):Calls Tryz.prog 36 #[.pointer (some ⟨x.T,0,none⟩),.int .i64 q,.int .i64 p] w fun e w'=>e=.returned (.int .i64 (fitE S.s.cb x.pk q p))∧aa W w' (tnl x S ts):=by
 have G:=hid g;have H1:=hid fun(w:World) (g:aa W w (tnl x S ts))=>eG g
 have H2:=hid fun(w:World) (g:aa W w (tnl x S ts))=>fB g q
 have H3:Hid (∀(w:World) (z:Int),aa W w (tnl x S ts)→Calls Tryz.prog 69 #[.int .i64 z,.int .i64 p] w fun e w'=>e=.returned (.bool (decide (May z∧bj z≤p)))∧aa W w' (tnl x S ts)):=fun w z g=>(d_fits z p (K.start (gr.fr g.nw.fr).1)).mono fun e w' ⟨he,k⟩=>⟨he,g.kept k.fr⟩
 generalize x.pk=pk at *;generalize S.s.cb=cb at *;clear g gr;by_cases h1:q<1
 ·rw[show fitE cb pk q p=2 from if_pos (.inl h1)];clear H1 H2 H3;go_enter Tryz.func36,Tryz.ntmps36;go_wp2;go_ret;exact⟨by simp,G.out⟩
 by_cases h2:65536<q
 ·rw[show fitE cb pk q p=2 from if_pos (.inr h2)];clear H1 H2 H3;go_enter Tryz.func36,Tryz.ntmps36;go_wp2;go_ret;exact⟨by simp,G.out⟩
 have h12:¬(q<1∨65536<q):=fun h=>h.elim h1 h2
 by_cases h3:q<cb
 ·rw[show fitE cb pk q p=3 from(if_neg h12).trans (if_pos h3)];clear H2 H3 h12;go_enter Tryz.func36,Tryz.ntmps36;go_wp2_with fail;refine(H1.out _ G.out).mono ?_;rintro e w1 ⟨rfl,g1⟩;have G1:=hid g1;clear g1 G H1;go_wp2;go_ret;exact⟨by simp,G1.out⟩
 have he:fitE cb pk q p=if May (npI cb pk q)∧bj (npI cb pk q)≤p then 0 else 8:=(if_neg h12).trans (if_neg h3)
 rw[he];clear he h12;generalize npI cb pk q=np at *;by_cases h4:May np∧bj np≤p
 ·rw[if_pos h4];have H4:=hid fun(w:World) g=>H3.out w np g
  rw[decide_eq_true h4] at H4;clear h4 H3;go_enter Tryz.func36,Tryz.ntmps36;go_wp2_with fail;refine(H1.out _ G.out).mono ?_;rintro e w1 ⟨rfl,g1⟩;have G1:=hid g1;clear g1 G H1;go_wp2_with fail;refine(H2.out _ G1.out).mono ?_;rintro e w2 ⟨rfl,g2⟩;have G2:=hid g2;clear g2 G1 H2;go_wp2_with fail;refine(H4.out _ G2.out).mono ?_;rintro e w3 ⟨rfl,g3⟩;have G3:=hid g3;clear g3 G2 H4;go_wp2;go_ret;exact⟨by simp,G3.out⟩
 ·rw[if_neg h4];have H4:=hid fun(w:World) g=>H3.out w np g
  rw[decide_eq_false h4] at H4;clear h4 H3;go_enter Tryz.func36,Tryz.ntmps36;go_wp2_with fail;refine(H1.out _ G.out).mono ?_;rintro e w1 ⟨rfl,g1⟩;have G1:=hid g1;clear g1 G H1;go_wp2_with fail;refine(H2.out _ G1.out).mono ?_;rintro e w2 ⟨rfl,g2⟩;have G2:=hid g2;clear g2 G1 H2;go_wp2_with fail;refine(H4.out _ G2.out).mono ?_;rintro e w3 ⟨rfl,g3⟩;have G3:=hid g3;clear g3 G2 H4;go_wp2;go_ret;exact⟨by simp,G3.out⟩
end
attribute [local go_sem] Qt.cX
section
variable{W w:World}{x:Tp}{S:TnS}{ts:List (World→(Nat→Prop)→Prop)}
theorem Bl{a m h t k:Nat}{M:Ms}{H:Hp}(g:aa W w ts)(j:Nat)(hj:ts[j]? =some (Hs a m h t k M H))(hc:Hc k M H){y n:Int}(hx:I64 y)(hn:I64 n)(hs:n≤16384):Calls Tryz.prog 83 #[.pointer (some ⟨a,0,none⟩),.pointer (some ⟨t,0,none⟩),.int .i64 y,.int .i64 n] w fun e w'=>e=.returned (.int .i64 (vwE H.T M.bs.length y n))∧aa W w' (ts.set j (Hs a m h t k ⟨M.has,vzB H.T M.bs y n,vwT H.T M.bs.length M.ss y n⟩ H)):=
 g.qh j hj fun _ _ h1 h2 h3=>v_zero h1 h2 h3 hc.ok.tp.tb hx hn hs (by have:=hc.ss;omega)
def ctS(S:TnS)(addr n c:Int):TnS:={ S with f:=fun z=>if z=addr then some (n,c) else S.f z }
theorem pA(g:aa W w (tnl x S ts)){addr n:Int}(ha:I64 addr)(hm:S.n<maxLen){y:Int×Int}(hy:S.f addr=some y)(hn:y.1≤n):Calls Tryz.prog 47 #[.pointer (some ⟨x.T,0,none⟩),.int .i64 addr,.int .i64 n] w fun e w'=>e=.returned (.int .i64 0)∧aa W w' (tnl x (ctS S addr n y.2) ts):=by
 have HWF:=hid (aB ha.1 ha.2);obtain⟨y1,y2⟩:=y;have HL:Hid (∀(w:World) (ts:List (World→(Nat→Prop)→Prop)),aa W w (tnl x S ts)→w.cell? ⟨x.T,7,none⟩=some (.map (some x.B))∧(Instr.lookup 72 (.map (some x.B)) (.int .i64 addr) false).run Tryz.prog w=.ok (.agg #[.int .i64 y1,.complex .f64 (fb y2) (fb 0)]) w):=fun w ts g=>⟨ak g 7 rfl,(g.oo 3 rfl).look HWF.out hy⟩
 have HU:Hid (∀(w:World) (ts:List (World→(Nat→Prop)→Prop)),aa W w (tnl x S ts)→∃w',(Instr.mapUpdate 72 (.map (some x.B)) (.int .i64 addr) (.agg #[.int .i64 n,.complex .f64 (fb y2) (fb 0)])).run Tryz.prog w=.ok () w'∧aa W w' (tnl x (ctS S addr n y2) ts)):=fun w ts g=>by
  obtain⟨w',hr,ho,hf⟩:=(g.oo 3 rfl).store hm HWF.out (n,y2);have h:=g.gg 3 rfl ho hf;rw[hy] at h;exact⟨w',hr,h⟩
 have G:=hid g;have hfl:=fun a b c w=>bI a b c w
 obtain⟨c7,hlk⟩:=HL.out _ _ g;generalize ctS S addr n y2=S1 at *;generalize fb y2=xb at *;generalize fb 0=yb at *;have GD:Hid (aa W (w.alloc (.cells #[.int .i64 y1,.complex .f64 xb yb] 81)).drew (tnl x S (ts++[Blk w.heap.size (.cells #[.int .i64 y1,.complex .f64 xb yb] 81 (0,0))]))):=(g.blk (.cells #[.int .i64 y1,.complex .f64 xb yb] 81 (0,0))).kept (Fr.refl _ _).drew;have d7:=ak GD.out 7 rfl;have dB:(w.alloc (.cells #[.int .i64 y1,.complex .f64 xb yb] 81)).drew.cell? ⟨w.heap.size,1,none⟩=some (.complex .f64 xb yb):=ae (af GD.out) 1 rfl;obtain⟨w3,hr3,g3⟩:=HU.out _ _ GD.out;have G3:=hid g3;have e7:=ak g3 7 rfl;have eB:w3.cell? ⟨w.heap.size,1,none⟩=some (.complex .f64 xb yb):=ae (af g3) 1 rfl;clear g ha hm hy HL g3 HU GD;have hbo:=iP n xb yb;simp only at hn;go_enter Tryz.func47,Tryz.ntmps47;go_wp2_with fail;go_region_held3 (fun w'=>w'.cell? ⟨x.T,7,none⟩=some (.map (some x.B))∧w'.cell? ⟨w.heap.size,1,none⟩=some (.complex .f64 xb yb)) (first|exact⟨by assumption,by assumption⟩|go_keep) (refine mS rfl _ (.tmp 42) (.tmp 43) (.tmp 47) rfl rfl rfl rfl hr3 ?_)
 all_goals
  go_wp2;go_ret;exact⟨by simp,aa.less (ts:=tnl x S1 ts) G3.out⟩
def czS(S:TnS)(addr n y1:Int):TnS:={ S with M:=⟨S.M.has,vzB S.H.T S.M.bs (addr+n) (y1 - n),vwT S.H.T S.M.bs.length S.M.ss (addr+n) (y1 - n)⟩ }
theorem qQ(g:aa W w (tnl x S ts))(hc:Hc x.k S.M S.H){addr n:Int}(ha:0≤addr∧addr≤4000000)(hm:S.n<maxLen){y:Int×Int}(hy:S.f addr=some y)(hn:1≤n∧n<y.1∧y.1≤8192)(hz:vwE S.H.T S.M.bs.length (addr+n) (y.1 - n)=0):Calls Tryz.prog 47 #[.pointer (some ⟨x.T,0,none⟩),.int .i64 addr,.int .i64 n] w fun e w'=>e=.returned (.int .i64 0)∧aa W w' (tnl x (ctS (czS S addr n y.1) addr n y.2) ts):=by
 have HWF:=hid (aB (x:=addr) (by omega) (by omega));obtain⟨y1,y2⟩:=y;simp only at hn hz;have HL:Hid (∀(w:World) (ts:List (World→(Nat→Prop)→Prop)),aa W w (tnl x S ts)→w.cell? ⟨x.T,7,none⟩=some (.map (some x.B))∧(Instr.lookup 72 (.map (some x.B)) (.int .i64 addr) false).run Tryz.prog w=.ok (.agg #[.int .i64 y1,.complex .f64 (fb y2) (fb 0)]) w):=fun w ts g=>⟨ak g 7 rfl,(g.oo 3 rfl).look HWF.out hy⟩
 have HT:Hid (∀(w:World) (ts:List (World→(Nat→Prop)→Prop)),aa W w (tnl x S ts)→Calls Tryz.prog 40 #[.pointer (some ⟨x.h,0,none⟩)] w fun e w'=>e=.returned (.pointer (some ⟨x.t,0,none⟩))∧aa W w' (tnl x S ts)):=fun w ts g=>g.ask 0 rfl fun _ p=>fU p
 have HZ:Hid (∀(w:World) (ts:List (World→(Nat→Prop)→Prop)),aa W w (tnl x S ts)→Calls Tryz.prog 83 #[.pointer (some ⟨x.a,0,none⟩),.pointer (some ⟨x.t,0,none⟩),.int .i64 (addr+n),.int .i64 (y1 - n)] w fun e w'=>e=.returned (.int .i64 0)∧aa W w' (tnl x (czS S addr n y1) ts)):=fun w ts g=>by
  have h:=Bl g 0 rfl hc (y:=addr+n) (n:=y1 - n) ⟨by omega,by omega⟩ ⟨by omega,by omega⟩ (by omega);rw[hz] at h;exact h
 have HU:Hid (∀(w:World) (ts:List (World→(Nat→Prop)→Prop)),aa W w (tnl x (czS S addr n y1) ts)→∃w',(Instr.mapUpdate 72 (.map (some x.B)) (.int .i64 addr) (.agg #[.int .i64 n,.complex .f64 (fb y2) (fb 0)])).run Tryz.prog w=.ok () w'∧aa W w' (tnl x (ctS (czS S addr n y1) addr n y2) ts)):=fun w ts g=>by
  obtain⟨w',hr,ho,hf⟩:=(g.oo 3 rfl).store hm HWF.out (n,y2);have h:=g.gg 3 rfl ho hf;rw[show(czS S addr n y1).f addr=some (y1,y2) from hy] at h;exact⟨w',hr,h⟩
 have hfl:=fun a b c w=>bI a b c w
 have G:=hid g;obtain⟨c7,hlk⟩:=HL.out _ _ g;generalize ctS (czS S addr n y1) addr n y2=S2 at *;generalize czS S addr n y1=S1 at *;generalize fb y2=xb at *;generalize fb 0=yb at *;have GD:Hid (aa W (w.alloc (.cells #[.int .i64 y1,.complex .f64 xb yb] 81)).drew (tnl x S (ts++[Blk w.heap.size (.cells #[.int .i64 y1,.complex .f64 xb yb] 81 (0,0))]))):=(g.blk (.cells #[.int .i64 y1,.complex .f64 xb yb] 81 (0,0))).kept (Fr.refl _ _).drew;have d1:=ak GD.out 1 rfl;have d3:=ak GD.out 3 rfl;have dB:(w.alloc (.cells #[.int .i64 y1,.complex .f64 xb yb] 81)).drew.cell? ⟨w.heap.size,0,none⟩=some (.int .i64 y1):=ae (af GD.out) 0 rfl;have n1:=hn.1;have n2:=hn.2.1;have n3:=hn.2.2;have a1:=ha.1;have a2:=ha.2;have k1:IntKind.i64.wrap (addr+n)=addr+n:=by rw[IntKind.wrap_i64];omega
 have k2:IntKind.i64.wrap (y1 - n)=y1 - n:=by rw[IntKind.wrap_i64];omega
 have HB1:Hid (∀(w1:World) (S:TnS),aa W w1 (tnl x S (ts++[Blk w.heap.size (.cells #[.int .i64 y1,.complex .f64 xb yb] 81 (0,0))]))→w1.cell? ⟨x.T,1,none⟩=some (.pointer (some ⟨x.a,0,none⟩))∧w1.cell? ⟨x.T,3,none⟩=some (.pointer (some ⟨x.h,0,none⟩))∧w1.cell? ⟨w.heap.size,0,none⟩=some (.int .i64 y1)):=fun w1 S g=>⟨ak g 1 rfl,ak g 3 rfl,ae (af g) 0 rfl⟩
 have HB2:Hid (∀(w1:World) (S:TnS),aa W w1 (tnl x S (ts++[Blk w.heap.size (.cells #[.int .i64 y1,.complex .f64 xb yb] 81 (0,0))]))→w1.cell? ⟨x.T,7,none⟩=some (.map (some x.B))∧w1.cell? ⟨w.heap.size,1,none⟩=some (.complex .f64 xb yb)):=fun w1 S g=>⟨ak g 7 rfl,ae (af g) 1 rfl⟩
 have HE:Hid (∀(w1:World),aa W w1 (tnl x S2 (ts++[Blk w.heap.size (.cells #[.int .i64 y1,.complex .f64 xb yb] 81 (0,0))]))→aa W w1 (tnl x S2 ts)):=fun w1 g=>aa.less (ts:=tnl x S2 ts) g
 clear g ha hm hy HL hn hc hz G;have hbo:=iP n xb yb;go_enter Tryz.func47,Tryz.ntmps47;go_wp2_with fail;go_region_held3 (fun w'=>w'.cell? ⟨x.T,1,none⟩=some (.pointer (some ⟨x.a,0,none⟩))∧w'.cell? ⟨x.T,3,none⟩=some (.pointer (some ⟨x.h,0,none⟩))∧w'.cell? ⟨w.heap.size,0,none⟩=some (.int .i64 y1)) (first|exact⟨by assumption,by assumption,by assumption⟩|go_keep) (first|(go_at_call 40;refine(HT.out _ _ GD.out).mono ?_;rintro e w2 ⟨rfl,g2⟩;have G2:=hid g2;obtain⟨q1,q3,qB⟩:=HB1.out _ _ g2;clear g2)|(go_at_call 83;refine(HZ.out _ _ G2.out).mono ?_;rintro e w3 ⟨rfl,g3⟩;have G3:=hid g3;obtain⟨r1,r3,rB⟩:=HB1.out _ _ g3;clear g3))
 all_goals
  have GE:=hid (G3.out.kept (Fr.refl _ _).drew);obtain⟨s7,sB⟩:=HB2.out _ _ GE.out;obtain⟨w4,hr4,g4⟩:=HU.out _ _ GE.out;obtain⟨t7,tB⟩:=HB2.out _ _ g4;have G4:=hid (HE.out _ g4);clear GD d1 d3 dB G2 q1 q3 qB G3 r1 r3 rB HT HZ HB1 GE HU HB2 HE g4 k1 k2 c7 hlk hfl;go_wp2_with fail;go_region_held3 (fun w'=>w'.cell? ⟨x.T,7,none⟩=some (.map (some x.B))∧w'.cell? ⟨w.heap.size,1,none⟩=some (.complex .f64 xb yb)) (first|exact⟨by assumption,by assumption⟩|go_keep) (refine mS rfl _ (.tmp 42) (.tmp 43) (.tmp 47) rfl rfl rfl rfl hr4 ?_)
  all_goals
   go_wp2;go_ret;exact⟨by simp,G4.out⟩
end
theorem dW{P:Program}{a:Act}{w:World}{Q:Exit→Act→World→Prop}{c rest:Code}(l:Nat)(hf:findLabel c l=some rest)
  (first:∀J:Act→World→Prop,Hid (∀a' w',rest.wp P (Exit.jump l (fun _ _=>False) Q) a' w'→J a' w')→c.wp P (Exit.jump l J Q) a w):(Code.scope c).wp P Q a w:=
 wp_scope_jumps l (fun a' w'=>rest.wp P (Exit.jump l (fun _ _=>False) Q) a' w') (fun _ _=>0) hf (first _ fun _ _ h=>h) fun _ _ h=>wp_mono h fun e _ _ hq=>by
  cases e<;>first|exact hq|exact hq.2.elim
section
variable{W w:World}{x:Tp}{S:TnS}{ts:List (World→(Nat→Prop)→Prop)}
theorem de(g:aa W w (tnl x S ts))(gr:G17 W){S1:TnS}{b n:Int}(b0:0≤b)(b1:b≤18446744073709551615)(hf:Ka.fiE S.c b 4=0)(hk:0≤ofI n){y:Int×Int}(ha:I64 (Ka.fiV S.c b 4))(hy:S.f (Ka.fiV S.c b 4)=some y)(r:Rt y.2 0)(hn:ag n≤y.2)(hs:S1.s.cb=S.s.cb)
  (hcut:∀(w:World) (ts:List (World→(Nat→Prop)→Prop)),aa W w (tnl x S ts)→Calls Tryz.prog 47 #[.pointer (some ⟨x.T,0,none⟩),.int .i64 (Ka.fiV S.c b 4),.int .i64 n] w fun e w'=>e=.returned (.int .i64 0)∧aa W w' (tnl x S1 ts)):Calls Tryz.prog 21 #[.pointer (some ⟨x.T,0,none⟩),.int .u64 b,.int .i64 n] w fun e w'=>e=.returned (ans 0 b (Ka.fiV S.c b 4) 0 ⟨#[]⟩ S.s.cb)∧aa W w' (tnl x S1 ts):=by
 have HWF:=hid (aB ha.1 ha.2);have G:Hid (aa W (w.alloc (.cells #[.int .i64 0,.int .u64 0,.int .i64 0,.int .i64 0,.string ⟨#[]⟩,.int .i64 0] 43)) (tnl x S (ts++[Blk w.heap.size (.cells #[.int .i64 0,.int .u64 0,.int .i64 0,.int .i64 0,.string ⟨#[]⟩,.int .i64 0] 43 (0,0))]))):=g.blk (.cells #[.int .i64 0,.int .u64 0,.int .i64 0,.int .i64 0,.string ⟨#[]⟩,.int .i64 0] 43 (0,0));have H1:=hid fun(w:World) (ts:List (World→(Nat→Prop)→Prop)) (g:aa W w (tnl x S ts))=>df (r:=4) g b0 b1 (by omega)
 have HO:Hid (∀(w:World) (ts:List (World→(Nat→Prop)→Prop)),aa W w ts→Calls Tryz.prog 45 #[.int .i64 n] w fun e w'=>e=.returned (.int .i64 (ofI n))∧aa W w' ts):=fun w ts g=>(k_of n (K.start (gr.fr g.nw.fr).1)).mono fun e w' ⟨he,hk⟩=>⟨he,g.kept hk.fr⟩
 have HC:Hid (∀(w:World) (ts:List (World→(Nat→Prop)→Prop)),aa W w ts→Calls Tryz.prog 46 #[.int .i64 n] w fun e w'=>e=.returned (.int .i64 (ag n))∧aa W w' ts):=fun w ts g=>(gn n (K.start (gr.fr g.nw.fr).1)).mono fun e w' ⟨he,hk⟩=>⟨he,g.kept hk.fr⟩
 have HL:Hid (∀(w:World) (ts:List (World→(Nat→Prop)→Prop)),aa W w (tnl x S ts)→w.cell? ⟨x.T,7,none⟩=some (.map (some x.B))∧(Instr.lookup 72 (.map (some x.B)) (.int .i64 (Ka.fiV S.c b 4)) false).run Tryz.prog w=.ok (.agg #[.int .i64 y.1,.complex .f64 (fb y.2) (fb 0)]) w):=fun w ts g=>⟨ak g 7 rfl,(g.oo 3 rfl).look HWF.out hy⟩
 have HB:Hid (∀(w:World) (ts:List (World→(Nat→Prop)→Prop)),aa W w ts→Calls Tryz.prog 28 #[.complex .f64 (fb y.2) (fb 0)] w fun e w'=>e=.returned (.int .i64 y.2)∧aa W w' ts):=fun w ts g=>(ft r w).mono fun e w' ⟨he,m,hm⟩=>⟨he,hm▸g.kept ((Fr.refl _ _).drewN m)⟩
 have HU:=hid hcut;have HS:Hid (∀(w:World) (ts:List (World→(Nat→Prop)→Prop)) (av:Int),aa W w (tnl x S1 ts)→Calls Tryz.prog 32 #[.pointer (some ⟨x.T,0,none⟩),ans 0 b av 0 ⟨#[]⟩ 0] w fun e w'=>e=.returned (ans 0 b av 0 ⟨#[]⟩ S.s.cb)∧aa W w' (tnl x S1 ts)):=fun w ts av g=>by
  have h:=lD g 0 b av 0 ⟨#[]⟩ 0
  rwa [hs] at h
 have hfl:=fun a b c w=>(bI a b c w).1
 rw[hf] at H1;generalize Ka.fiV S.c b 4=fv at *;generalize S.s.cb=cb at *;generalize y.2=y2 at *;generalize y.1=y1 at *;generalize fb y2=xb at *;generalize fb 0=yb at *;generalize ag n=cg at *;generalize ofI n=kd at *;clear g b0 b1 hf ha hy r hs hcut gr;go_enter Tryz.func21,Tryz.ntmps21;go_wp2_with fail;go_step3;go_wp2_with fail;refine(H1.out _ _ G.out).mono ?_;rintro e w1 ⟨rfl,g1⟩;have G1:=hid g1;clear g1 G H1;go_wp2_with fail;refine(HO.out _ _ G1.out).mono ?_;rintro e w2 ⟨rfl,g2⟩;have GD:=hid (g2.kept (Fr.refl _ _).drew);obtain⟨d7,dl⟩:=HL.out _ _ GD.out;clear g2 G1 HO;go_wp2_with fail;go_region_held3 (fun w'=>w'.cell? ⟨x.T,7,none⟩=some (.map (some x.B))∧(Instr.lookup 72 (.map (some x.B)) (.int .i64 fv) false).run Tryz.prog w'=.ok (.agg #[.int .i64 y1,.complex .f64 xb yb]) w') (first|exact⟨by assumption,by assumption⟩|go_keep) (first|(go_at_call 46;refine(HC.out _ _ GD.out).mono ?_;rintro e w3 ⟨rfl,g3⟩;have G3:=hid g3;obtain⟨e7,el⟩:=HL.out _ _ g3;clear g3)|(go_at_call 28;refine(HB.out _ _ G3.out).mono ?_;rintro e w4 ⟨rfl,g4⟩;have G4:=hid g4;obtain⟨f7,fl⟩:=HL.out _ _ g4;clear g4))
 all_goals
  clear GD G3 d7 dl e7 el f7 fl HC HB HL;go_wp2_with fail;refine(HU.out _ _ G4.out).mono ?_;rintro e w5 ⟨rfl,g5⟩;have G5:=hid g5;clear g5 G4 HU;go_wp2_with fail;refine(HS.out _ _ _ G5.out).mono ?_;rintro e w6 ⟨rfl,g6⟩;have G6:=hid g6;clear g6 G5 HS;have z1:=fun i=>an (af G6.out) i
  have b0:=ae (af G6.out) 0 rfl;have b1:=ae (af G6.out) 1 rfl;have b2:=ae (af G6.out) 2 rfl;have b3:=ae (af G6.out) 3 rfl;have b4:=ae (af G6.out) 4 rfl;have b5:=ae (af G6.out) 5 rfl;go_wp2;rw[Exit.noGoto_ret];clear z1 b0 b1 b2 b3 b4 b5;obtain⟨HF,hk⟩:=ay (af G6.out) (0) (b) (fv) (0) ⟨#[]⟩ (cb);have TZ:=aa.aK (ts:=tnl x S1 ts) G6.out HF;have k0:=hk 0 _ rfl;have k1:=hk 1 _ rfl;have k2:=hk 2 _ rfl;have k3:=hk 3 _ rfl;have k4:=hk 4 _ rfl;have k5:=hk 5 _ rfl;clear HF hk;generalize (((((w6.setCell ⟨w.heap.size,0,none⟩ (.int .i64 (0))).setCell ⟨w.heap.size,1,none⟩ (.int .u64 (b))).setCell ⟨w.heap.size,2,none⟩ (.int .i64 (fv))).setCell ⟨w.heap.size,3,none⟩ (.int .i64 (0))).setCell ⟨w.heap.size,4,none⟩ (.string ⟨#[]⟩)).setCell ⟨w.heap.size,5,none⟩ (.int .i64 (cb))=wz at *;exact bodyPost_ret (v:=ans (0) (b) (fv) (0) ⟨#[]⟩ (cb)) (by simp[results,Tryz.results21,go_sem,k0,k1,k2,k3,k4,k5]) rfl ⟨rfl,TZ⟩
theorem dH(g:aa W w (tnl x S ts))(gr:G17 W)(hc:Hc x.k S.M S.H){b n:Int}(b0:0≤b)(b1:b≤18446744073709551615)(hf:Ka.fiE S.c b 4=0)(hk:0≤ofI n){y:Int×Int}(ha:I64 (Ka.fiV S.c b 4))(hy:S.f (Ka.fiV S.c b 4)=some y)(r:Rt y.2 0)(hn:y.2<ag n)(hn6:I64 n)(ht:tkE x.k S n≠0):Calls Tryz.prog 21 #[.pointer (some ⟨x.T,0,none⟩),.int .u64 b,.int .i64 n] w fun e w'=>e=.returned (ans (tkE x.k S n) 0 0 0 ⟨#[]⟩ (tkS x.k S n).s.cb)∧aa W w' (tnl x (tkS x.k S n) ts):=by
 have HWF:=hid (aB ha.1 ha.2);have G:Hid (aa W (w.alloc (.cells #[.int .i64 0,.int .u64 0,.int .i64 0,.int .i64 0,.string ⟨#[]⟩,.int .i64 0] 43)) (tnl x S (ts++[Blk w.heap.size (.cells #[.int .i64 0,.int .u64 0,.int .i64 0,.int .i64 0,.string ⟨#[]⟩,.int .i64 0] 43 (0,0))]))):=g.blk (.cells #[.int .i64 0,.int .u64 0,.int .i64 0,.int .i64 0,.string ⟨#[]⟩,.int .i64 0] 43 (0,0));have H1:=hid fun(w:World) (ts:List (World→(Nat→Prop)→Prop)) (g:aa W w (tnl x S ts))=>df (r:=4) g b0 b1 (by omega)
 have HO:Hid (∀(w:World) (ts:List (World→(Nat→Prop)→Prop)),aa W w ts→Calls Tryz.prog 45 #[.int .i64 n] w fun e w'=>e=.returned (.int .i64 (ofI n))∧aa W w' ts):=fun w ts g=>(k_of n (K.start (gr.fr g.nw.fr).1)).mono fun e w' ⟨he,hk⟩=>⟨he,g.kept hk.fr⟩
 have HC:Hid (∀(w:World) (ts:List (World→(Nat→Prop)→Prop)),aa W w ts→Calls Tryz.prog 46 #[.int .i64 n] w fun e w'=>e=.returned (.int .i64 (ag n))∧aa W w' ts):=fun w ts g=>(gn n (K.start (gr.fr g.nw.fr).1)).mono fun e w' ⟨he,hk⟩=>⟨he,g.kept hk.fr⟩
 have HL:Hid (∀(w:World) (ts:List (World→(Nat→Prop)→Prop)),aa W w (tnl x S ts)→w.cell? ⟨x.T,7,none⟩=some (.map (some x.B))∧(Instr.lookup 72 (.map (some x.B)) (.int .i64 (Ka.fiV S.c b 4)) false).run Tryz.prog w=.ok (.agg #[.int .i64 y.1,.complex .f64 (fb y.2) (fb 0)]) w):=fun w ts g=>⟨ak g 7 rfl,(g.oo 3 rfl).look HWF.out hy⟩
 have HB:Hid (∀(w:World) (ts:List (World→(Nat→Prop)→Prop)),aa W w ts→Calls Tryz.prog 28 #[.complex .f64 (fb y.2) (fb 0)] w fun e w'=>e=.returned (.int .i64 y.2)∧aa W w' ts):=fun w ts g=>(ft r w).mono fun e w' ⟨he,m,hm⟩=>⟨he,hm▸g.kept ((Fr.refl _ _).drewN m)⟩
 have HU:=hid fun(w:World) (ts:List (World→(Nat→Prop)→Prop)) (g:aa W w (tnl x S ts))=>py g gr hc hn6
 have HS:=hid fun(w:World) (ts:List (World→(Nat→Prop)→Prop)) (E:Int) (g:aa W w (tnl x (tkS x.k S n) ts))=>bU g E
 have hfl:=fun a b c w=>(bI a b c w).1
 rw[hf] at H1;generalize Ka.fiV S.c b 4=fv at *;generalize tkS x.k S n=S1 at *;generalize tkE x.k S n=te at *;generalize tkV x.k S n=tv at *;generalize S1.s.cb=cb at *;generalize y.2=y2 at *;generalize y.1=y1 at *;generalize fb y2=xb at *;generalize fb 0=yb at *;generalize ag n=cg at *;generalize ofI n=kd at *;clear g b0 b1 hf ha hy r gr hc;go_enter Tryz.func21,Tryz.ntmps21;go_wp2_with fail;refine dW 0 rfl fun J HJ=> ?_
 go_wp2_with fail;refine(H1.out _ _ G.out).mono ?_;rintro e w1 ⟨rfl,g1⟩;have G1:=hid g1;clear g1 G H1;go_wp2_with fail;refine(HO.out _ _ G1.out).mono ?_;rintro e w2 ⟨rfl,g2⟩;have GD:=hid (g2.kept (Fr.refl _ _).drew);obtain⟨d7,dl⟩:=HL.out _ _ GD.out;clear g2 G1 HO;go_wp2_with fail;go_region_held3 (fun w'=>w'.cell? ⟨x.T,7,none⟩=some (.map (some x.B))∧(Instr.lookup 72 (.map (some x.B)) (.int .i64 fv) false).run Tryz.prog w'=.ok (.agg #[.int .i64 y1,.complex .f64 xb yb]) w') (first|exact⟨by assumption,by assumption⟩|go_keep) (first|(go_at_call 46;refine(HC.out _ _ GD.out).mono ?_;rintro e w3 ⟨rfl,g3⟩;have G3:=hid g3;obtain⟨e7,el⟩:=HL.out _ _ g3;clear g3)|(go_at_call 28;refine(HB.out _ _ G3.out).mono ?_;rintro e w4 ⟨rfl,g4⟩;have G4:=hid g4;obtain⟨f7,fl⟩:=HL.out _ _ g4;clear g4))
 all_goals
  clear GD G3 d7 dl e7 el f7 fl HC HB HL;go_wp2;refine wp_goto ?_;refine And.intro (Eq.refl (0:Nat)) (HJ.out _ _ ?_);clear HJ;go_wp2_with fail;refine(HU.out _ _ G4.out).mono ?_;rintro e w5 ⟨rfl,g5⟩;have G5:=hid g5;clear g5 G4 HU;go_wp2_with fail;refine(HS.out _ _ _ G5.out).mono ?_;rintro e w6 ⟨rfl,g6⟩;have G6:=hid g6;clear g6 G5 HS;have z1:=fun i=>an (af G6.out) i
  have b0:=ae (af G6.out) 0 rfl;have b1:=ae (af G6.out) 1 rfl;have b2:=ae (af G6.out) 2 rfl;have b3:=ae (af G6.out) 3 rfl;have b4:=ae (af G6.out) 4 rfl;have b5:=ae (af G6.out) 5 rfl;go_wp2;rw[ao];clear z1 b0 b1 b2 b3 b4 b5;obtain⟨HF,hk⟩:=ay (af G6.out) (te) (0) (0) (0) ⟨#[]⟩ (cb);have TZ:=aa.aK (ts:=tnl x S1 ts) G6.out HF;have k0:=hk 0 _ rfl;have k1:=hk 1 _ rfl;have k2:=hk 2 _ rfl;have k3:=hk 3 _ rfl;have k4:=hk 4 _ rfl;have k5:=hk 5 _ rfl;clear HF hk;generalize (((((w6.setCell ⟨w.heap.size,0,none⟩ (.int .i64 (te))).setCell ⟨w.heap.size,1,none⟩ (.int .u64 (0))).setCell ⟨w.heap.size,2,none⟩ (.int .i64 (0))).setCell ⟨w.heap.size,3,none⟩ (.int .i64 (0))).setCell ⟨w.heap.size,4,none⟩ (.string ⟨#[]⟩)).setCell ⟨w.heap.size,5,none⟩ (.int .i64 (cb))=wz at *;exact bodyPost_ret (v:=ans (te) (0) (0) (0) ⟨#[]⟩ (cb)) (by simp[results,Tryz.results21,go_sem,k0,k1,k2,k3,k4,k5]) rfl ⟨rfl,TZ⟩
end
end Go.Proofs.YtndhbnhobhkmaaaGreatDoor
