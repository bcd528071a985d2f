/-
  What the calls of package tenant do: Realloc of no good handle, to no good size, and where it moves.
  How many pages the colours of a window have.
-/
import Derived.Test.YtndhbnhobhkmaaaGreatDoorTnCallsI
set_option maxRecDepth 20000
set_option maxHeartbeats 4000000
namespace Go.Proofs.YtndhbnhobhkmaaaGreatDoor
open Go.RowKit
open An
section
variable{W w:World}{x:Tp}{S:TnS}{ts:List (World→(Nat→Prop)→Prop)}
theorem fK(g:aa W w (tnl x S ts)){b n:Int}(b0:0≤b)(b1:b≤18446744073709551615)(hf:Ka.fiE S.c b 4≠0):Calls Tryz.prog 21 #[.pointer (some ⟨x.T,0,none⟩),.int .u64 b,.int .i64 n] w fun e w'=>e=.returned (ans (Ka.fiE S.c b 4) 0 0 0 ⟨#[]⟩ S.s.cb)∧aa W w' (tnl x S ts):=by
 have G:Hid (aa W (w.alloc (.cells #[.int .i64 0,.int .u64 0,.int .i64 0,.int .i64 0,.string ⟨#[]⟩,.int .i64 0] 43)) (tnl x S (ts++[Blk w.heap.size (.cells #[.int .i64 0,.int .u64 0,.int .i64 0,.int .i64 0,.string ⟨#[]⟩,.int .i64 0] 43 (0,0))]))):=g.blk (.cells #[.int .i64 0,.int .u64 0,.int .i64 0,.int .i64 0,.string ⟨#[]⟩,.int .i64 0] 43 (0,0));have H1:=hid fun(w:World) (ts:List (World→(Nat→Prop)→Prop)) (g:aa W w (tnl x S ts))=>dc (r:=4) g b0 b1 (by omega)
 have HS:=hid fun(w:World) (ts:List (World→(Nat→Prop)→Prop)) (E:Int) (g:aa W w (tnl x S ts))=>bW g E
 generalize Ka.fiE S.c b 4=te at *;generalize Ka.fiV S.c b 4=fv at *;generalize S.s.cb=cb at *;clear g b0 b1;go_enter Tryz.func21,Tryz.ntmps21;go_wp2_with fail;go_step3;go_wp2_with fail;refine(H1.out _ _ G.out).mono ?_;rintro e w1 ⟨rfl,g1⟩;have G1:=hid g1;clear g1 G H1;go_wp2_with fail;refine(HS.out _ _ _ G1.out).mono ?_;rintro e w6 ⟨rfl,g6⟩;have G6:=hid g6;clear g6 G1 HS;have z1:=fun i=>an (af G6.out) i
 have b0:=ae (af G6.out) 0 rfl;have b1:=ae (af G6.out) 1 rfl;have b2:=ae (af G6.out) 2 rfl;have b3:=ae (af G6.out) 3 rfl;have b4:=ae (af G6.out) 4 rfl;have b5:=ae (af G6.out) 5 rfl;go_wp2;rw[Exit.noGoto_ret];clear z1 b0 b1 b2 b3 b4 b5;obtain⟨HF,hk⟩:=ay (af G6.out) (te) (0) (0) (0) ⟨#[]⟩ (cb);have TZ:=aa.aJ (ts:=tnl x S ts) G6.out HF;have k0:=hk 0 _ rfl;have k1:=hk 1 _ rfl;have k2:=hk 2 _ rfl;have k3:=hk 3 _ rfl;have k4:=hk 4 _ rfl;have k5:=hk 5 _ rfl;clear HF hk;generalize (((((w6.setCell ⟨w.heap.size,0,none⟩ (.int .i64 (te))).setCell ⟨w.heap.size,1,none⟩ (.int .u64 (0))).setCell ⟨w.heap.size,2,none⟩ (.int .i64 (0))).setCell ⟨w.heap.size,3,none⟩ (.int .i64 (0))).setCell ⟨w.heap.size,4,none⟩ (.string ⟨#[]⟩)).setCell ⟨w.heap.size,5,none⟩ (.int .i64 (cb))=wz at *;exact bodyPost_ret (v:=ans (te) (0) (0) (0) ⟨#[]⟩ (cb)) (by simp[results,Tryz.results21,go_sem,k0,k1,k2,k3,k4,k5]) rfl ⟨rfl,TZ⟩
theorem iU(g:aa W w (tnl x S ts))(gr:G17 W){b n:Int}(b0:0≤b)(b1:b≤18446744073709551615)(hf:Ka.fiE S.c b 4=0)(hk:ofI n<0):Calls Tryz.prog 21 #[.pointer (some ⟨x.T,0,none⟩),.int .u64 b,.int .i64 n] w fun e w'=>e=.returned (ans 2 0 0 0 ⟨#[]⟩ S.s.cb)∧aa W w' (tnl x S ts):=by
 have G:Hid (aa W (w.alloc (.cells #[.int .i64 0,.int .u64 0,.int .i64 0,.int .i64 0,.string ⟨#[]⟩,.int .i64 0] 43)) (tnl x S (ts++[Blk w.heap.size (.cells #[.int .i64 0,.int .u64 0,.int .i64 0,.int .i64 0,.string ⟨#[]⟩,.int .i64 0] 43 (0,0))]))):=g.blk (.cells #[.int .i64 0,.int .u64 0,.int .i64 0,.int .i64 0,.string ⟨#[]⟩,.int .i64 0] 43 (0,0));have H1:=hid fun(w:World) (ts:List (World→(Nat→Prop)→Prop)) (g:aa W w (tnl x S ts))=>dc (r:=4) g b0 b1 (by omega)
 have HO:Hid (∀(w:World) (ts:List (World→(Nat→Prop)→Prop)),aa W w ts→Calls Tryz.prog 45 #[.int .i64 n] w fun e w'=>e=.returned (.int .i64 (ofI n))∧aa W w' ts):=fun w ts g=>(k_of n (K.start (gr.fr g.nw.fr).1)).mono fun e w' ⟨he,hk⟩=>⟨he,g.kept hk.fr⟩
 have HS:=hid fun(w:World) (ts:List (World→(Nat→Prop)→Prop)) (E:Int) (g:aa W w (tnl x S ts))=>bW g E
 rw[hf] at H1;generalize Ka.fiV S.c b 4=fv at *;generalize S.s.cb=cb at *;generalize ofI n=kd at *;clear g b0 b1 hf gr;go_enter Tryz.func21,Tryz.ntmps21;go_wp2_with fail;go_step3;go_wp2_with fail;refine(H1.out _ _ G.out).mono ?_;rintro e w1 ⟨rfl,g1⟩;have G1:=hid g1;clear g1 G H1;go_wp2_with fail;refine(HO.out _ _ G1.out).mono ?_;rintro e w2 ⟨rfl,g2⟩;have G2:=hid g2;clear g2 G1 HO;go_wp2_with fail;refine(HS.out _ _ _ G2.out).mono ?_;rintro e w6 ⟨rfl,g6⟩;have G6:=hid g6;clear g6 G2 HS;have z1:=fun i=>an (af G6.out) i
 have b0:=ae (af G6.out) 0 rfl;have b1:=ae (af G6.out) 1 rfl;have b2:=ae (af G6.out) 2 rfl;have b3:=ae (af G6.out) 3 rfl;have b4:=ae (af G6.out) 4 rfl;have b5:=ae (af G6.out) 5 rfl;go_wp2;rw[Exit.noGoto_ret];clear z1 b0 b1 b2 b3 b4 b5;obtain⟨HF,hk⟩:=ay (af G6.out) (2) (0) (0) (0) ⟨#[]⟩ (cb);have TZ:=aa.aJ (ts:=tnl x S ts) G6.out HF;have k0:=hk 0 _ rfl;have k1:=hk 1 _ rfl;have k2:=hk 2 _ rfl;have k3:=hk 3 _ rfl;have k4:=hk 4 _ rfl;have k5:=hk 5 _ rfl;clear HF hk;generalize (((((w6.setCell ⟨w.heap.size,0,none⟩ (.int .i64 (2))).setCell ⟨w.heap.size,1,none⟩ (.int .u64 (0))).setCell ⟨w.heap.size,2,none⟩ (.int .i64 (0))).setCell ⟨w.heap.size,3,none⟩ (.int .i64 (0))).setCell ⟨w.heap.size,4,none⟩ (.string ⟨#[]⟩)).setCell ⟨w.heap.size,5,none⟩ (.int .i64 (cb))=wz at *;exact bodyPost_ret (v:=ans (2) (0) (0) (0) ⟨#[]⟩ (cb)) (by simp[results,Tryz.results21,go_sem,k0,k1,k2,k3,k4,k5]) rfl ⟨rfl,TZ⟩
theorem iV(g:aa W w (tnl x S ts))(gr:G17 W){S1 S2 S3 S4:TnS}{b n tv E hd:Int}(b0:0≤b)(b1:b≤18446744073709551615)(hf:Ka.fiE S.c b 4=0)(hk:0≤ofI n){y:Int×Int}(ha:I64 (Ka.fiV S.c b 4))(hy:S.f (Ka.fiV S.c b 4)=some y)(r:Rt y.2 0)(hn:y.2<ag n)(hy1:S1.f (Ka.fiV S.c b 4)=some y)(hy2:S2.f (Ka.fiV S.c b 4)=some y)
  (htk:∀(w:World) (ts:List (World→(Nat→Prop)→Prop)),aa W w (tnl x S ts)→Calls Tryz.prog 48 #[.pointer (some ⟨x.T,0,none⟩),.int .i64 n] w fun e w'=>e=.returned (.tuple #[.int .i64 tv,.int .i64 0])∧aa W w' (tnl x S1 ts))
  (hcp:∀(w:World) (ts:List (World→(Nat→Prop)→Prop)),aa W w (tnl x S1 ts)→Calls Tryz.prog 49 #[.pointer (some ⟨x.a,0,none⟩),.pointer (some ⟨x.t,0,none⟩),.int .i64 tv,.int .i64 (Ka.fiV S.c b 4),.int .i64 y.1] w fun e w'=>e=.returned (.int .i64 0)∧aa W w' (tnl x S2 ts))
  (hrl:∀(w:World) (ts:List (World→(Nat→Prop)→Prop)),aa W w (tnl x S2 ts)→Calls Tryz.prog 44 #[.pointer (some ⟨x.T,0,none⟩),.int .i64 (Ka.fiV S.c b 4)] w fun e w'=>e=.returned (.tuple #[])∧aa W w' (tnl x S3 ts))
  (how:∀(w:World) (ts:List (World→(Nat→Prop)→Prop)),aa W w (tnl x S3 ts)→Calls Tryz.prog 52 #[.pointer (some ⟨x.T,0,none⟩),.int .i64 tv,.int .i64 n] w fun e w'=>e=.returned (ans E hd tv 0 ⟨#[]⟩ S3.s.cb)∧aa W w' (tnl x S4 ts)):Calls Tryz.prog 21 #[.pointer (some ⟨x.T,0,none⟩),.int .u64 b,.int .i64 n] w fun e w'=>e=.returned (ans E hd tv 0 ⟨#[]⟩ S3.s.cb)∧aa W w' (tnl x S4 ts):=by
 have HWF:=hid (aC ha.1 ha.2);have G:Hid (aa W (w.alloc (.cells #[.int .i64 0,.int .u64 0,.int .i64 0,.int .i64 0,.string ⟨#[]⟩,.int .i64 0] 43)) (tnl x S (ts++[Blk w.heap.size (.cells #[.int .i64 0,.int .u64 0,.int .i64 0,.int .i64 0,.string ⟨#[]⟩,.int .i64 0] 43 (0,0))]))):=g.blk (.cells #[.int .i64 0,.int .u64 0,.int .i64 0,.int .i64 0,.string ⟨#[]⟩,.int .i64 0] 43 (0,0));have H1:=hid fun(w:World) (ts:List (World→(Nat→Prop)→Prop)) (g:aa W w (tnl x S ts))=>dc (r:=4) g b0 b1 (by omega)
 have HO:Hid (∀(w:World) (ts:List (World→(Nat→Prop)→Prop)),aa W w ts→Calls Tryz.prog 45 #[.int .i64 n] w fun e w'=>e=.returned (.int .i64 (ofI n))∧aa W w' ts):=fun w ts g=>(k_of n (K.start (gr.fr g.nw.fr).1)).mono fun e w' ⟨he,hk⟩=>⟨he,g.kept hk.fr⟩
 have HC:Hid (∀(w:World) (ts:List (World→(Nat→Prop)→Prop)),aa W w ts→Calls Tryz.prog 46 #[.int .i64 n] w fun e w'=>e=.returned (.int .i64 (ag n))∧aa W w' ts):=fun w ts g=>(gm n (K.start (gr.fr g.nw.fr).1)).mono fun e w' ⟨he,hk⟩=>⟨he,g.kept hk.fr⟩
 have HL:Hid (∀(w:World) (ts:List (World→(Nat→Prop)→Prop)),aa W w (tnl x S ts)→w.cell? ⟨x.T,7,none⟩=some (.map (some x.B))∧(Instr.lookup 72 (.map (some x.B)) (.int .i64 (Ka.fiV S.c b 4)) false).run Tryz.prog w=.ok (.agg #[.int .i64 y.1,.complex .f64 (fb y.2) (fb 0)]) w):=fun w ts g=>⟨ak g 7 rfl,(g.oo 3 rfl).look HWF.out hy⟩
 have HL2:Hid (∀(w:World) (ts:List (World→(Nat→Prop)→Prop)),aa W w (tnl x S2 ts)→w.cell? ⟨x.T,7,none⟩=some (.map (some x.B))∧(Instr.lookup 72 (.map (some x.B)) (.int .i64 (Ka.fiV S.c b 4)) false).run Tryz.prog w=.ok (.agg #[.int .i64 y.1,.complex .f64 (fb y.2) (fb 0)]) w):=fun w ts g=>⟨ak g 7 rfl,(g.oo 3 rfl).look HWF.out hy2⟩
 have HL1:Hid (∀(w:World) (ts:List (World→(Nat→Prop)→Prop)),aa W w (tnl x S1 ts)→(w.cell? ⟨x.T,7,none⟩=some (.map (some x.B))∧(Instr.lookup 72 (.map (some x.B)) (.int .i64 (Ka.fiV S.c b 4)) false).run Tryz.prog w=.ok (.agg #[.int .i64 y.1,.complex .f64 (fb y.2) (fb 0)]) w)∧(w.cell? ⟨x.T,1,none⟩=some (.pointer (some ⟨x.a,0,none⟩))∧w.cell? ⟨x.T,3,none⟩=some (.pointer (some ⟨x.h,0,none⟩)))∧Calls Tryz.prog 40 #[.pointer (some ⟨x.h,0,none⟩)] w fun e w'=>e=.returned (.pointer (some ⟨x.t,0,none⟩))∧aa W w' (tnl x S1 ts)):=fun w ts g=>⟨⟨ak g 7 rfl,(g.oo 3 rfl).look HWF.out hy1⟩,⟨ak g 1 rfl,ak g 3 rfl⟩,g.ask 0 rfl fun _ p=>fU p⟩
 have HB:Hid (∀(w:World) (ts:List (World→(Nat→Prop)→Prop)),aa W w ts→Calls Tryz.prog 28 #[.complex .f64 (fb y.2) (fb 0)] w fun e w'=>e=.returned (.int .i64 y.2)∧aa W w' ts):=fun w ts g=>(gM r w).mono fun e w' ⟨he,m,hm⟩=>⟨he,hm▸g.kept ((Fr.refl _ _).drewN m)⟩
 have HU:=hid htk;have HCP:=hid hcp;have HRL:=hid hrl;have HOW:=hid how;have hfl:=fun a b c w=>(bJ a b c w).1
 have hfl2:=fun a b c w=>(bJ a b c w).2
 rw[hf] at H1;generalize Ka.fiV S.c b 4=fv at *;generalize S3.s.cb=cb at *;generalize y.2=y2 at *;generalize y.1=y1 at *;generalize fb y2=xb at *;generalize fb 0=yb at *;generalize ag n=cg at *;generalize ofI n=kd at *;clear g b0 b1 hf ha hy r gr hy1 hy2 htk hcp hrl how;go_enter Tryz.func21,Tryz.ntmps21;go_wp2_with fail;refine dU 0 rfl fun J HJ=> ?_
 go_wp2_with fail;refine(H1.out _ _ G.out).mono ?_;rintro e w1 ⟨rfl,g1⟩;have G1:=hid g1;clear g1 G H1;go_wp2_with fail;refine(HO.out _ _ G1.out).mono ?_;rintro e w2 ⟨rfl,g2⟩;have GD:=hid (g2.kept (Fr.refl _ _).drew);obtain⟨d7,dl⟩:=HL.out _ _ GD.out;clear g2 G1 HO;go_wp2_with fail;go_region_held3 (fun w'=>w'.cell? ⟨x.T,7,none⟩=some (.map (some x.B))∧(Instr.lookup 72 (.map (some x.B)) (.int .i64 fv) false).run Tryz.prog w'=.ok (.agg #[.int .i64 y1,.complex .f64 xb yb]) w') (first|exact⟨by assumption,by assumption⟩|go_keep) (first|(go_at_call 46;refine(HC.out _ _ GD.out).mono ?_;rintro e w3 ⟨rfl,g3⟩;have G3:=hid g3;obtain⟨e7,el⟩:=HL.out _ _ g3;clear g3)|(go_at_call 28;refine(HB.out _ _ G3.out).mono ?_;rintro e w4 ⟨rfl,g4⟩;have G4:=hid g4;obtain⟨f7,fl⟩:=HL.out _ _ g4;clear g4))
 all_goals
  clear GD G3 d7 dl e7 el f7 fl HC HB HL;go_wp2;refine wp_goto ?_;refine And.intro (Eq.refl (0:Nat)) (HJ.out _ _ ?_);clear HJ;go_wp2_with fail;refine(HU.out _ _ G4.out).mono ?_;rintro e w5 ⟨rfl,g5⟩;have GD5:=hid (g5.kept (Fr.refl _ _).drew);obtain⟨⟨d7,dl⟩,⟨d1,d3⟩,hTC⟩:=HL1.out _ _ GD5.out;have HTC:=hid hTC;clear g5 G4 HU hTC;go_wp2_with fail;go_region_held3 (fun w'=>w'.cell? ⟨x.T,1,none⟩=some (.pointer (some ⟨x.a,0,none⟩))∧w'.cell? ⟨x.T,3,none⟩=some (.pointer (some ⟨x.h,0,none⟩))∧w'.cell? ⟨x.T,7,none⟩=some (.map (some x.B))∧(Instr.lookup 72 (.map (some x.B)) (.int .i64 fv) false).run Tryz.prog w'=.ok (.agg #[.int .i64 y1,.complex .f64 xb yb]) w') (first|exact⟨by with_reducible assumption,by with_reducible assumption,by with_reducible assumption,by with_reducible assumption⟩|go_keep) (first|(go_at_call 40;refine HTC.out.mono ?_;rintro e w6 ⟨rfl,g6⟩;have G6:=hid g6;obtain⟨⟨e7,el⟩,⟨e1,e3⟩,_⟩:=HL1.out _ _ g6;clear g6)|(go_at_call 49;refine(HCP.out _ _ G6.out).mono ?_;rintro e w7 ⟨rfl,g7⟩;have G7:=hid g7;have f1:=ak g7 1 rfl;have f3:=ak g7 3 rfl;obtain⟨f7,fl⟩:=HL2.out _ _ g7;clear g7))
  all_goals
   clear d7 dl d1 d3 e7 el e1 e3 f1 f3 f7 fl HTC GD5 G6 HCP HL1 HL2;go_wp2_with fail;refine(HRL.out _ _ G7.out).mono ?_;rintro e w8 ⟨rfl,g8⟩;have G8:=hid g8;clear g8 G7 HRL;go_wp2_with fail;refine(HOW.out _ _ G8.out).mono ?_;rintro e w9 ⟨rfl,g9⟩;have G9:=hid g9;clear g9 G8 HOW;have z1:=fun i=>an (af G9.out) i
   have b0:=ae (af G9.out) 0 rfl;have b1:=ae (af G9.out) 1 rfl;have b2:=ae (af G9.out) 2 rfl;have b3:=ae (af G9.out) 3 rfl;have b4:=ae (af G9.out) 4 rfl;have b5:=ae (af G9.out) 5 rfl;go_wp2;rw[ao];clear z1 b0 b1 b2 b3 b4 b5;obtain⟨HF,hk⟩:=ay (af G9.out) (E) (hd) (tv) (0) ⟨#[]⟩ (cb);have TZ:=aa.aJ (ts:=tnl x S4 ts) G9.out HF;have k0:=hk 0 _ rfl;have k1:=hk 1 _ rfl;have k2:=hk 2 _ rfl;have k3:=hk 3 _ rfl;have k4:=hk 4 _ rfl;have k5:=hk 5 _ rfl;clear HF hk;generalize (((((w9.setCell ⟨w.heap.size,0,none⟩ (.int .i64 (E))).setCell ⟨w.heap.size,1,none⟩ (.int .u64 (hd))).setCell ⟨w.heap.size,2,none⟩ (.int .i64 (tv))).setCell ⟨w.heap.size,3,none⟩ (.int .i64 (0))).setCell ⟨w.heap.size,4,none⟩ (.string ⟨#[]⟩)).setCell ⟨w.heap.size,5,none⟩ (.int .i64 (cb))=wz at *;exact bodyPost_ret (v:=ans (E) (hd) (tv) (0) ⟨#[]⟩ (cb)) (by simp[results,Tryz.results21,go_sem,k0,k1,k2,k3,k4,k5]) rfl ⟨rfl,TZ⟩
end
end Go.Proofs.YtndhbnhobhkmaaaGreatDoor
namespace Go.Proofs.YtndhbnhobhkmaaaGreatDoor
open Go.RowKit
def dstp(n k:Nat)(acc:List Int)(c:Int):List Int:=if 0≤c∧Cq.colI n k c=c∧c∉acc then acc++[c] else acc
def dcl(n k:Nat)(l:List Int):List Int:=l.foldl (dstp n k) []
def pgI(n k:Nat)(l:List Int):Int:=((dcl n k l).length:Int) * ((n / k:Nat):Int)
theorem xR{n k:Nat}{l:List Int}{q:Nat}(h:q<l.length):dcl n k (l.take (q+1))=dstp n k (dcl n k (l.take q)) l[q]:=by
 unfold dcl;rw[List.take_add_one,List.getElem?_eq_getElem h,Option.toList_some,List.foldl_append];rfl
theorem dcl_ok{n k:Nat}(hk:0<k):∀(l acc:List Int),(acc.Nodup∧∀x∈acc,0≤x∧x<(k:Int))→(l.foldl (dstp n k) acc).Nodup∧∀x∈l.foldl (dstp n k) acc,0≤x∧x<(k:Int):=by
 intro l
 induction l with
 |nil=>exact fun _ h=>h
 |cons c l ih=>
  intro acc h;refine ih _ ?_;unfold dstp;split
  ·rename_i hc;obtain⟨h0,h1,h2⟩:=hc;have h3:c<(k:Int):=by
    unfold Cq.colI at h1;split at h1
    ·have:=Nat.mod_lt c.toNat hk;omega
    ·omega
   refine⟨?_,fun x hx=> ?_⟩
   ·rw[List.nodup_append];exact⟨h.1,by simp,fun a ha b hb=>by simp at hb;subst hb;exact fun e=>h2 (e▸ha)⟩
   ·rcases List.mem_append.1 hx with hx|hx
    ·exact h.2 x hx
    ·simp at hx;subst hx;exact⟨h0,h3⟩
  ·exact h
theorem rm{n k:Nat}(hk:0<k)(l:List Int):(dcl n k l).length≤k:=by
 have h:=dcl_ok (n:=n) hk l [] ⟨List.nodup_nil,by simp⟩;exact Cq.aE k _ h.1 h.2
section
variable{w:World}{m n k:Nat}{ad:Option Addr}{l:List Int}
theorem tG(cap:Nat)(hC:∀w1 (c:Int),Fr (fun _=>False) w w1→Calls Tryz.prog 98 #[.pointer (some ⟨m,0,none⟩),.int .i64 c] w1 fun e w'=>e=.returned (.int .i64 (Cq.colI n k c))∧∃n,w'=w1.drewN n)
  (hE:∀w1,Fr (fun _=>False) w w1→Calls Tryz.prog 100 #[.pointer (some ⟨m,0,none⟩)] w1 fun e w'=>e=.returned (.int .i64 (n / k:Nat))∧Fr (fun _=>False) w1 w')
  (hn:n≤4096)(hk:0<k)(hk2:k≤32)(hl:aA w ad l)(hm:l.length≤17592186044416):Calls Tryz.prog 59 #[.pointer (some ⟨m,0,none⟩),.slice ad l.length cap] w fun e w'=>e=.returned (.int .i64 (pgI n k l))∧Nw w w':=by
 have HC:=hid hC;have HE:=hid hE;have HN:=hid hl;have hnk:n / k≤n:=Nat.div_le_self _ _;have T0:Hid (aa w w [Rw 0 (.slice none 0 0) (dcl n k (l.take 0))]):=(aa.start (Nw.start w)).more (Rw.good ..) (Rw.empty 0 w) (Fr.refl _ _) fun _ e=>e.elim
 have HD:=hid fun(q:Nat)=>rm (n:=n) hk (l.take q)
 have HQ:Hid (∀q (h:q<l.length),dcl n k (l.take (q+1))=dstp n k (dcl n k (l.take q)) l[q]):=fun q h=>xR h
 have HP:Hid (pgI n k l=((dcl n k (l.take l.length)).length:Int) * ((n / k:Nat):Int)):=by rw[List.take_length];rfl
 generalize pgI n k l=pg at *;clear hC hE hl;generalize n / k=each at *;go_enter Tryz.func59,Tryz.ntmps59;go_wp2;go_loopw [5,10] (fun y i wr=>∃q:Nat,q≤l.length∧i=.int .i64 q∧Hid (aa w wr [Rw 0 y (dcl n k (l.take q))])) (fun _ i _=>l.length - (intOf i).toNat)
 case atStart=>exact⟨0,by omega,rfl,T0⟩
 case round=>
  obtain⟨q,hq,rfl,T⟩:=hrel;clear T0;by_cases hlt:q<l.length
  ·obtain⟨yad,ycap,rfl,hy⟩:=T.out.row 0 rfl;obtain⟨bb,off,rfl,_,kc⟩:=(HN.out.fr T.out.nw.fr) q hlt;have hlen:=HD.out q;have hs:=HQ.out q hlt;unfold dstp at hs;have HC1:Hid (∀w1,Fr (fun _=>False) wr w1→Calls Tryz.prog 98 #[.pointer (some ⟨m,0,none⟩),.int .i64 l[q]] w1 fun e w'=>e=.returned (.int .i64 (Cq.colI n k l[q]))∧∃n,w'=w1.drewN n):=fun w1 f=>HC.out _ _ (T.out.nw.fr.trans f)
   have HX:Hid (∀w1,Fr (fun _=>False) wr w1→Calls Tryz.prog 99 #[.slice yad (dcl n k (l.take q)).length ycap,.int .i64 l[q]] w1 fun e w'=>e=.returned (.bool (decide (l[q]∈dcl n k (l.take q))))∧w'=w1):=fun w1 f=>Cq.oc ycap (fun i hi=>(hy.fr f) i hi) (by omega) _
   clear HC HD HQ HP HN hy;generalize l[q]=c at *;generalize hys:dcl n k (l.take (q+1))=ys' at *;have HY:=hid hys;clear hys;generalize dcl n k (l.take q)=ys at *;generalize Cq.colI n k c=cc at *;by_cases h0:0≤c
   ·by_cases h1:cc=c
    ·by_cases h2:c∈ys
     ·have T0:Hid (aa w wr [Rw 0 (.slice yad ys.length ycap) ys']):=by
       rw[hs,if_neg (fun h=>h.2.2 h2)];exact T
      rw[decide_eq_true h2] at HX;subst h1;clear hs T h2 hlen;go_wp2_with fail;refine(HC1.out _ (Fr.refl _ _)).mono ?_;rintro e w1 ⟨rfl,n1,rfl⟩;have T1:=hid (T0.out.kept ((Fr.refl _ _).drewN n1));go_wp2_with fail;refine(HX.out _ ((Fr.refl _ _).drewN n1)).mono ?_;rintro e w2 ⟨rfl,rfl⟩;go_wp2;go_roundw
      case rel=>exact⟨q+1,by omega,by go_num,by rw[HY.out];exact T1⟩
      case measure=>simp[intOf];omega
     ·have T0:=T;have HS2:Hid (ys'=ys++[c]):=by rw[hs,if_pos ⟨h0,h1,h2⟩];rfl
      rw[decide_eq_false h2] at HX;subst h1;clear hs T h2;go_wp2_with fail;refine(HC1.out _ (Fr.refl _ _)).mono ?_;rintro e w1 ⟨rfl,n1,rfl⟩;have T1:=hid (T0.out.kept ((Fr.refl _ _).drewN n1));go_wp2_with fail;refine(HX.out _ ((Fr.refl _ _).drewN n1)).mono ?_;rintro e w2 ⟨rfl,rfl⟩;have HR1:=hid (T1.out.push 0 rfl).1;clear HX HC1 kc T0;generalize wr.drewN n1=w1 at *;go_wp2_with (at_builtin;refine pq rfl (.tmp 29) (.tmp 31) rfl 0 _ _ cc rfl (HR1.out.alloc _) w1.heap.size rfl (by simp) (by omega) (by omega) ?_);intro g cap6 w6 hown hg hw6;have T6:Hid (aa w w6 [Rw 0 (.slice (some ⟨g,0,none⟩) (ys.length+1) cap6) ys']):=by
       rw[HS2.out];exact(T1.out.push 0 rfl).2 ((Fr.refl _ _).alloc _) hown rfl hg (hw6.imp id fun e=>by rw[e];simp)
      clear hown hg hw6 HR1 T1 hlen HS2;generalize ys.length+1=ln at *;go_wp2;go_roundw
      case rel=>exact⟨q+1,by omega,by go_num,by rw[HY.out];exact T6⟩
      case measure=>simp[intOf];omega
    ·have hb1:(cc==c)=false:=by simpa using h1
     have T0:Hid (aa w wr [Rw 0 (.slice yad ys.length ycap) ys']):=by
      rw[hs,if_neg (fun h=>h1 h.2.1)];exact T
     clear hs T h1 hlen HX;go_wp2_with fail;refine(HC1.out _ (Fr.refl _ _)).mono ?_;rintro e w1 ⟨rfl,n1,rfl⟩;have T1:=hid (T0.out.kept ((Fr.refl _ _).drewN n1));go_wp2;go_roundw
     case rel=>exact⟨q+1,by omega,by go_num,by rw[HY.out];exact T1⟩
     case measure=>simp[intOf];omega
   ·have T0:Hid (aa w wr [Rw 0 (.slice yad ys.length ycap) ys']):=by
     rw[hs,if_neg (fun h=>h0 h.1)];exact T
    clear hs T hlen HX HC1;go_wp2;go_roundw
    case rel=>exact⟨q+1,by omega,by go_num,by rw[HY.out];exact T0⟩
    case measure=>simp[intOf];omega
  ·obtain rfl:q=l.length:=by omega
   obtain⟨yad,ycap,rfl,hy⟩:=T.out.row 0 rfl;have hlen:=HD.out l.length;have HE1:=hid fun w1 f=>HE.out w1 (T.out.nw.fr.trans f)
   have hp:=HP.out;generalize (dcl n k (l.take l.length)).length=dl at *;have hw:IntKind.i64.wrap ((dl:Int) * (each:Int))=(dl:Int) * (each:Int):=by
    have h1:dl * each≤32 * 4096:=Nat.mul_le_mul (by omega) (by omega);have h2:((dl * each:Nat):Int)=(dl:Int) * (each:Int):=by simp
    rw[IntKind.wrap_i64];omega
   generalize hpr:(dl:Int) * (each:Int)=pr at *;have HPR:=hid hpr;have HPP:=hid hp;have T1:=hid T.out.nw;clear hpr hp HP T hy hlen HC HE HN HD HQ;go_wp2_with fail;refine(HE1.out _ (Fr.refl _ _)).mono ?_;rintro e w1 ⟨rfl,f1⟩;have T2:=hid (T1.out.kept f1);clear f1 T1 HE1;go_wp2;go_ret;exact⟨by simp;rw[HPR.out,HPP.out];exact(IntWalk.i64_left pr).symm.trans hw,T2.out⟩
end
end Go.Proofs.YtndhbnhobhkmaaaGreatDoor
