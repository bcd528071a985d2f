/-
  What the calls of package shelf do, each for every state of a shelf and every argument: contracts, as words of bits have it.
  What the calls of package shelf do, each for every state of a shelf and every argument: contracts.
-/
import Derived.Test.YtndhbnhobhkmaaaGreatDoorSfBits
import Derived.Laws.Bits64b
import Derived.Laws.Bits128
import Derived.Deep.RegionWith
import Derived.IntWalk
set_option maxRecDepth 20000
set_option maxHeartbeats 2000000
namespace Go.Proofs.YtndhbnhobhkmaaaGreatDoor.Sf
open Go.RowKit
def Tab(w:World):Prop:=∀j,j<64→w.cell? ⟨2,j,none⟩=some (.int .u8 (Lib.deBruijn64tab.getD j 0:Nat))
theorem Tab.pos{w:World}(h:Tab w):2<w.heap.size:=World.block_lt_of_cell? w _ (h 0 (by decide))
theorem Tab.carry{S:Nat→Prop}{w w':World}(h:Tab w)(hf:Fr S w w')(h0:¬S 2):Tab w':=fun j hj=>by
 rw[World.cell?_of_block (hf.block 2 h.pos h0)];exact h j hj
def Pos(w:World):Prop:=2<w.heap.size
theorem Pos.pos{w:World}(h:Pos w):2<w.heap.size:=h
theorem Pos.carry{S:Nat→Prop}{w w':World}(h:Pos w)(hf:Fr S w w')(_h0:¬S 2):Pos w':=Nat.lt_of_lt_of_le h hf.size
def wc(l:List Nat):List Value:=l.map fun x:Nat=>Value.int .u64 (x:Int)
theorem wc_set(l:List Nat)(j x:Nat):wc (l.set j x)=(wc l).set j (.int .u64 (x:Int)):=by simp[wc,List.map_set]
def bt(k:Nat):Nat:=2 ^ (k % 64)
theorem Cl(k:Nat):bt k<18446744073709551616:=by
 have h:2 ^ (k % 64)<2 ^ 64:=Nat.pow_lt_pow_right (by decide) (by omega);exact h
structure Sw(w:World)(a b:Nat)(ws:List Nat)(c:Nat)(has:List Bool):Prop where
 bits:Bits ws has
 st:w.heap[a]? =some (.cells #[.int .i64 (has.length:Int),.slice (some ⟨b,0,none⟩) ws.length c] 164 (0,0))
 row:w.ownsRow 0 37 1 (.slice (some ⟨b,0,none⟩) ws.length c) ws.length (wc ws)
 ne:a≠b
 a0:2<a
 b0:2<b
 le:has.length≤65536
 tab:Pos w
section
variable{w:World}{a b c:Nat}{ws:List Nat}{has:List Bool}
theorem Sw.c0(h:Sw w a b ws c has):w.cell? ⟨a,0,none⟩=some (.int .i64 (has.length:Int)):=by simp[World.cell?,h.st]
theorem Sw.c1(h:Sw w a b ws c has):w.cell? ⟨a,1,none⟩=some (.slice (some ⟨b,0,none⟩) ws.length c):=by simp[World.cell?,h.st]
theorem Sw.cw(h:Sw w a b ws c has)(j:Nat)(hj:j<ws.length):w.cell? ⟨b,j,none⟩=some (.int .u64 (ws[j]:Int)):=by
 rw[h.row.cellAt j (by omega)];simp[wc,hj]
theorem Sw.fw(h:Sw w a b ws c has)(j:Nat):w.frozen? ⟨b,j,none⟩=false:=h.row.frozenAt j
theorem Sw.wl(h:Sw w a b ws c has):ws.length≤1024:=by have:=h.bits.len;have:=h.le;omega
theorem Sw.lta(h:Sw w a b ws c has):a<w.heap.size:=(Array.getElem?_eq_some_iff.1 h.st).1
theorem Sw.ltb(h:Sw w a b ws c has):b<w.heap.size:=(h.row.lt b rfl).2
theorem eg{S:Nat→Prop}{w w':World}{e:TypeId}{size n c g:Nat}{xs:List Value}(h:w.ownsRow 0 e size (.slice (some ⟨g,0,none⟩) n c) n xs)(hf:Fr S w w')(h1:¬S g):w'.ownsRow 0 e size (.slice (some ⟨g,0,none⟩) n c) n xs:=by
 refine⟨h.1,?_⟩;rcases h.2 with⟨h',_⟩|⟨g',cap,cur,h',hb,hgg,rest⟩
 ·simp at h'
 ·refine .inr ⟨g',cap,cur,h',hb,?_,rest⟩;simp only[Value.slice.injEq,Option.some.injEq,Addr.mk.injEq] at h';obtain rfl:=h'.1.1;rw[hf.block g (Array.getElem?_eq_some_iff.1 hgg).1 h1];exact hgg
theorem Sw.carry{S:Nat→Prop}{w':World}(h:Sw w a b ws c has)(hf:Fr S w w')(h1:¬S a)(h2:¬S b)(h0:¬S 2):Sw w' a b ws c has:=
 ⟨h.bits,by rw[hf.block a h.lta h1];exact h.st,eg h.row hf h2,h.ne,h.a0,h.b0,h.le,h.tab.carry hf h0⟩
theorem Sw.drew(h:Sw w a b ws c has):Sw w.drew a b ws c has:=⟨h.bits,h.st,h.row,h.ne,h.a0,h.b0,h.le,h.tab⟩
theorem Sw.turned(h:Sw w a b ws c has)(k:Nat)(hk:k<has.length)(hj:k / 64<ws.length):
  Sw (w.setCell ⟨b,k / 64,none⟩ (.int .u64 ((ws[k / 64] ^^^ bt k:Nat):Int))) a b (ws.set (k / 64) (ws[k / 64] ^^^ bt k)) c (has.set k (!has[k])):=by
 obtain⟨r1,r2⟩:=h.row.stored (k / 64) (.int .u64 ((ws[k / 64] ^^^ bt k:Nat):Int));refine⟨h.bits.turn k hk hj,?_,?_,h.ne,h.a0,h.b0,by simpa using h.le,?_⟩
 ·rw[Below.heap_setCell w _ _ a h.ne];simpa using h.st
 ·rw[wc_set];simpa using r1
 ·exact h.tab.carry (S:=fun k=>k=b) (Fr.setCell (S:=fun k=>k=b) (p:=⟨b,k / 64,none⟩) (Fr.refl _ _) rfl _) (by have:=h.b0;omega)
end
theorem Ci(k:Nat):IntKind.u64.wrap (2 ^ (k % 64))=(bt k:Int):=by
 have h:=Cl k;have e:(2 ^ (k % 64):Int)=(bt k:Int):=by simp[bt]
 rw[e,IntKind.wrap_u64];omega
theorem vk(k:Nat)(w:World)(hk:k<65536):Calls Tryz.prog 136 #[.int .i64 k] w fun e w'=>e=.returned (.int .u64 (bt k:Int))∧w'=w:=by
 go_enter Tryz.func136,Tryz.ntmps136;go_wp2;go_ret;exact⟨by simp[Ci],rfl⟩
theorem zU(x k idx:Nat)(w:World)(hx0:((x:Int)==0)=false)
  (key:IntKind.u64.wrap (Go.bits BinOp.and IntKind.u64 (x:Int) (IntKind.u64.wrap (-(x:Int))) * 285870213051353865) / 288230376151711744=(idx:Int))
  (hi:idx<64)(hk:k<64)(hcell:w.cell? ⟨2,idx,none⟩=some (.int .u8 k)):
  Calls Tryz.prog 230 #[.int .u64 x] w fun e w'=>e=.returned (.int .i64 k)∧w'=w:=by
 go_enter Tryz.func230,Tryz.ntmps230;go_wp2_with (simp only[key]);go_ret;exact⟨rfl,rfl⟩
theorem yJ(x:Nat)(w:World)(hT:Tab w)(h0:x≠0)(hx:x<18446744073709551616):
  Calls Tryz.prog 230 #[.int .u64 x] w fun e w'=>e=.returned (.int .i64 (Lib.ctz 64 x:Nat))∧w'=w:=by
 obtain⟨hlow,hk⟩:=Lib.lowest_bit 64 x h0 hx;obtain⟨hi,htab⟩:=Lib.deBruijn64_at _ hk;have hcell:=hT _ hi;rw[htab] at hcell;refine zU x _ _ w (by simp;omega) ?_ hi hk hcell;have e1:IntKind.u64.wrap (-(x:Int))=((18446744073709551616 - x:Nat):Int):=by rw[IntKind.wrap_u64];omega
 have hlow':x&&& (18446744073709551616 - x)=2 ^ Lib.ctz 64 x:=hlow;rw[e1,bits_and_u64_nat x _ hx (by omega),hlow',IntKind.wrap_u64];generalize 2 ^ Lib.ctz 64 x=p;omega
theorem AB(x a b c d e f r:Nat)(w:World)
  (k1:IntKind.u64.wrap (Go.bits BinOp.and IntKind.u64 ((x:Int) / 2) 6148914691236517205+Go.bits BinOp.and IntKind.u64 (x:Int) 6148914691236517205)=(a:Int))
  (k2:IntKind.u64.wrap (Go.bits BinOp.and IntKind.u64 ((a:Int) / 4) 3689348814741910323+Go.bits BinOp.and IntKind.u64 (a:Int) 3689348814741910323)=(b:Int))
  (k3:Go.bits BinOp.and IntKind.u64 (IntKind.u64.wrap ((b:Int) / 16+(b:Int))) 1085102592571150095=(c:Int))
  (k4:IntKind.u64.wrap ((c:Int)+(c:Int) / 256)=(d:Int))(k5:IntKind.u64.wrap ((d:Int)+(d:Int) / 65536)=(e:Int))(k6:IntKind.u64.wrap ((e:Int)+(e:Int) / 4294967296)=(f:Int))
  (k7:Go.bits BinOp.and IntKind.i64 (wrap64 (f:Int)) 127=(r:Int)):
  Calls Tryz.prog 244 #[.int .u64 x] w fun e w'=>e=.returned (.int .i64 r)∧w'=w:=by
 go_enter Tryz.func244,Tryz.ntmps244;go_wp2;go_ret;exact⟨by simp,rfl⟩
theorem ov(f:Nat):Go.bits BinOp.and IntKind.i64 (wrap64 (f:Int)) 127=((f % 128:Nat):Int):=by
 rw[i64_and127];unfold wrap64;omega
theorem iM(a m:Nat)(M:Int)(hM:M=(m:Int))(ha:a<18446744073709551616)(hm:m<18446744073709551616):Go.bits BinOp.and IntKind.u64 (a:Int) M=((a&&& m:Nat):Int):=by
 subst hM;exact bits_and_u64_nat a m ha hm
theorem oc_any(x:Nat)(w:World)(hx:x<18446744073709551616):
  Calls Tryz.prog 244 #[.int .u64 x] w fun e w'=>e=.returned (.int .i64 (pc 64 x:Nat))∧w'=w:=by
 obtain⟨h1,h2,h3,h4,h5⟩:=swar x hx;have hc:st3 1085102592571150095 (st2 3689348814741910323 (st1 6148914691236517205 x))≤1085102592571150095:=Nat.and_le_right;rw[←h5];generalize hA:st1 6148914691236517205 x=a at *;generalize hB:st2 3689348814741910323 a=b at *;generalize hC:st3 1085102592571150095 b=c at *;clear h5;refine AB x a b c (c+c / 256) (c+c / 256+(c+c / 256) / 65536) _ _ w ?_ ?_ ?_ ?_ ?_ ?_ (ov _)
 ·rw[show((x:Int) / 2)=((x / 2:Nat):Int) by omega,iM _ 6148914691236517205 6148914691236517205 rfl (by omega) (by omega),iM _ 6148914691236517205 6148914691236517205 rfl (by omega) (by omega),IntKind.wrap_u64];unfold st1 at hA;omega
 ·rw[show((a:Int) / 4)=((a / 4:Nat):Int) by omega,iM _ 3689348814741910323 3689348814741910323 rfl (by omega) (by omega),iM _ 3689348814741910323 3689348814741910323 rfl (by omega) (by omega),IntKind.wrap_u64];unfold st2 at hB;omega
 ·rw[IntKind.wrap_u64,show(((b:Int) / 16+(b:Int)) % 18446744073709551616)=((b / 16+b:Nat):Int) by omega,iM _ 1085102592571150095 1085102592571150095 rfl h3 (by omega)];unfold st3 at hC;omega
 ·rw[IntKind.wrap_u64];omega
 ·rw[IntKind.wrap_u64];omega
 ·rw[IntKind.wrap_u64];omega
theorem ml(q:Nat)(h:q≤1048576):IntKind.i64.wrap (q:Int)=(q:Int):=by rw[IntKind.wrap_i64];omega
theorem yL(k q:Nat)(h:k / 64=q):Int.tdiv (k:Int) 64=(q:Int):=by rw[Int.tdiv_eq_ediv_of_nonneg (by omega)];omega
theorem Sw.drewN{w:World}{a b c:Nat}{ws:List Nat}{has:List Bool}(h:Sw w a b ws c has)(n:Nat):Sw (w.drewN n) a b ws c has:=⟨h.bits,h.st,h.row,h.ne,h.a0,h.b0,h.le,h.tab⟩
theorem vM{w:World}{a b c:Nat}{ws:List Nat}{has:List Bool}(h:Sw w a b ws c has)(k:Nat)(hk:k<has.length)(hj:k / 64<ws.length):
  Calls Tryz.prog 93 #[.pointer (some ⟨a,0,none⟩),.int .i64 k] w fun e w'=>e=.returned (.tuple #[])∧Sw w' a b (ws.set (k / 64) (ws[k / 64] ^^^ bt k)) c (has.set k (!has[k]))∧Fr (fun i=>i=b) w w'∧w'.heap.size=w.heap.size:=by
 have c1:=h.c1;have cw:=h.cw (k / 64) hj;have fw:=h.fw (k / 64);have hx:Go.bits .xor .u64 (ws[k / 64]:Int) (bt k:Int)=((ws[k / 64] ^^^ bt k:Nat):Int):=bits_xor_u64_nat _ _ (h.bits.lt _ hj) (Cl k);have hle:=h.le;have hwl:=h.wl;have H:Hid (Sw (w.setCell ⟨b,k / 64,none⟩ (.int .u64 ((ws[k / 64] ^^^ bt k:Nat):Int))) a b (ws.set (k / 64) (ws[k / 64] ^^^ bt k)) c (has.set k (!has[k]))):=h.turned k hk hj;clear h;generalize hx':ws[k / 64]=x at *;generalize hq':k / 64=q at *;have hq:(k:Int) / 64=(q:Int):=by omega
 have hq2:=yL k q hq';have hq5:=ml q (by omega);clear hx' hq';generalize ws.set q (x ^^^ bt k)=ws' at *;generalize ws.length=n at *;go_enter Tryz.func93,Tryz.ntmps93;go_wp2_with fail;go_region_with (go_at_call 136;refine(vk k _ (by omega)).mono ?_;rintro e w2 ⟨rfl,hw⟩;obtain rfl:=hw.symm)
 all_goals
  go_wp2;go_end0;exact⟨rfl,H.out.drew,(Fr.setCell (S:=fun i=>i=b) (p:=⟨b,q,none⟩) (Fr.refl _ _) rfl _).drew,by simp[World.setCell]⟩
theorem aG{w:World}{a b c:Nat}{ws:List Nat}{has:List Bool}(h:Sw w a b ws c has)(k:Int):
  Calls Tryz.prog 217 #[.pointer (some ⟨a,0,none⟩),.int .i64 k] w fun e w'=>e=.returned (.bool (hasN has k))∧w'=w:=by
 have c0:=h.c0;clear h;by_cases h1:0≤k
 ·go_enter Tryz.func217,Tryz.ntmps217;go_wp2;go_ret;exact⟨by simp[hasN,h1],rfl⟩
 ·go_enter Tryz.func217,Tryz.ntmps217;go_wp2;go_ret;exact⟨by simp[hasN];omega,rfl⟩
theorem jJ{w:World}{a b c:Nat}{ws:List Nat}{has:List Bool}(h:Sw w a b ws c has):
  Calls Tryz.prog 226 #[.pointer (some ⟨a,0,none⟩)] w fun e w'=>e=.returned (.int .i64 (has.length:Int))∧w'=w:=by
 have c0:=h.c0;clear h;go_enter Tryz.func226,Tryz.ntmps226;go_wp2;go_ret;exact⟨rfl,rfl⟩
theorem vT{w:World}{a b c:Nat}{ws:List Nat}{has:List Bool}(h:Sw w a b ws c has)(k:Nat)(hk:k<has.length):
  Calls Tryz.prog 218 #[.pointer (some ⟨a,0,none⟩),.int .i64 k] w fun e w'=>e=.returned (.bool has[k])∧∃n,w'=w.drewN n:=by
 have hj:k / 64<ws.length:=by have:=h.bits.len;omega
 have c1:=h.c1;have cw:=h.cw (k / 64) hj;have hx:Go.bits .and .u64 (ws[k / 64]:Int) (bt k:Int)=((ws[k / 64]&&& bt k:Nat):Int):=bits_and_u64_nat _ _ (h.bits.lt _ hj) (Cl k);have hle:=h.le;have hwl:=h.wl;have ha:(((ws[k / 64]&&& bt k:Nat):Int)==0)=has[k]:=by
  rw[←h.bits.asked k hk hj];show _=decide (ws[k / 64]&&& bt k=0);cases hd:decide (ws[k / 64]&&& bt k=0)
  ·simp at hd ⊢;omega
  ·simp at hd ⊢;omega
 have HT:Hid (∀w2,Sw w2 a b ws c has→Calls Tryz.prog 217 #[.pointer (some ⟨a,0,none⟩),.int .i64 k] w2 fun e w'=>e=.returned (.bool true)∧w'=w2):=fun w2 h2=>by
  have:=aG h2 (k:Int);rw[eI.2 ⟨by omega,by omega⟩] at this;exact this
 have HD:Hid (∀n,Sw (w.drewN n) a b ws c has):=fun n=>h.drewN n
 clear h;generalize hx':ws[k / 64]=x at *;generalize hq':k / 64=q at *;have hq:(k:Int) / 64=(q:Int):=by omega
 have hq2:=yL k q hq';have hq5:=ml q (by omega);clear hx' hq';generalize x&&& bt k=y at *;generalize hn:ws.length=n at *;clear hn;generalize has[k]=r at *;go_enter Tryz.func218,Tryz.ntmps218;go_wp2_with fail;go_quiet (first|(go_at_call 136;refine Calls.quiet_of_same (vk k _ (by omega)))|(go_at_call 217;refine Calls.quiet_of_same (HT.out _ ?_);exact HD.out _));go_wp2;go_ret;exact⟨by simp,nq,rfl⟩
theorem so{w:World}{a b c:Nat}{ws:List Nat}{has:List Bool}(h:Sw w a b ws c has)(k:Int)(hk:hasN has k=false):
  Calls Tryz.prog 218 #[.pointer (some ⟨a,0,none⟩),.int .i64 k] w fun e w'=>e=.returned (.bool false)∧∃n,w'=w.drewN n:=by
 have HT:Hid (∀w2,Sw w2 a b ws c has→Calls Tryz.prog 217 #[.pointer (some ⟨a,0,none⟩),.int .i64 k] w2 fun e w'=>e=.returned (.bool false)∧w'=w2):=fun w2 h2=>by
  have:=aG h2 k;rw[hk] at this;exact this
 have HD:Hid (∀n,Sw (w.drewN n) a b ws c has):=fun n=>h.drewN n
 clear h hk;go_enter Tryz.func218,Tryz.ntmps218;go_wp2_with fail;go_quiet (first|(go_at_call 217;refine Calls.quiet_of_same (HT.out _ ?_);exact HD.out _));go_wp2;go_ret;exact⟨by simp,nq,rfl⟩
theorem sq{w:World}{a b c:Nat}{ws:List Nat}{has:List Bool}(h:Sw w a b ws c has)(k:Int):
  Calls Tryz.prog 218 #[.pointer (some ⟨a,0,none⟩),.int .i64 k] w fun e w'=>e=.returned (.bool (isT has k))∧∃n,w'=w.drewN n:=by
 cases hk:hasN has k with
 |false=>
  have e:isT has k=false:=by simp[isT,hk]
  rw[e];exact so h k hk
 |true=>
  obtain⟨h1,h2⟩:=eI.1 hk;obtain⟨n,rfl⟩:∃n:Nat,k=(n:Int):=⟨k.toNat,by omega⟩;have hn:n<has.length:=by omega
  have e:isT has (n:Int)=has[n]:=by simp[isT,hk,hn]
  rw[e];exact vT h n hn
theorem qT{w:World}{a b c:Nat}{ws:List Nat}{has:List Bool}(h:Sw w a b ws c has)(HT:Hid (Tab w)):
  Calls Tryz.prog 192 #[.pointer (some ⟨a,0,none⟩)] w fun e w'=>e=.returned (.int .i64 (lowI has))∧w'=w:=by
 have c1:=h.c1;have hwl:=h.wl;have HS:Hid (Sw w a b ws c has):=h;clear h;go_enter Tryz.func192,Tryz.ntmps192;go_wp2;refine wp_scope_jumps 0 (fun a' w'=>w'=w∧∃(j:Nat) (u4 u5 u6 u7 u8 u9 u10 u11 u12 u13 u14 u15 u16 u17 u18 u19 u20 u21 u22 u23 u24 u25 u26 u27 u28 u29 u30 u31 u32 u33:Value),a'={ tmps:=#[.pointer (some ⟨a,0,none⟩),undef,.int .i64 0,.int .i64 j,u4,u5,u6,u7,u8,u9,u10,u11,u12,u13,u14,u15,u16,u17,u18,u19,u20,u21,u22,u23,u24,u25,u26,u27,u28,u29,u30,u31,u32,u33],defers:=[] }∧j≤ws.length∧Hid (∀i (_:i<64 * j) (hl:i<has.length),has[i]=true)) (fun a' _=>ws.length - (intOf (a'.tmps.getD 3 undef)).toNat) rfl ?first ?pass
 case first=>
  have hb:Hid (∀i (_:i<64 * 0) (hl:i<has.length),has[i]=true):=fun i hi _=>by omega
  by_cases hlt:0<ws.length
  ·have cw:=HS.out.cw 0 hlt;have hxl:=HS.out.bits.lt 0 hlt;by_cases hz:ws[0]'hlt=0
   ·rw[hz] at cw;have hb':Hid (∀i (_:i<64 * (0+1)) (hl:i<has.length),has[i]=true):=fun i hi hl=>by
     rcases Nat.lt_or_ge i (64 * 0) with h1|h1
     ·exact hb.out i h1 hl
     ·have:=HS.out.bits.zero 0 hlt hz (i - 64 * 0) (by omega) (by omega);simpa [show 64 * 0+(i - 64 * 0)=i by omega] using this
    clear hxl hz;go_wp2;go_step3;go_wp2;go_step3;exact⟨rfl,rfl,0+1,_,_,_,_,_,_,_,_,_,_,_,_,_,_,_,_,_,_,_,_,_,_,_,_,_,_,_,_,_,_,by go_num,by omega,hb'⟩
   ·have hv:=HS.out.bits.lowest 0 hlt hz hb.out;have he:lowI has=((64 * 0+Lib.ctz 64 (ws[0]'hlt):Nat):Int):=by unfold lowI;rw[if_pos hv.2,hv.1]
    have hc:=(kG _ hz hxl).1;have HZ:Hid (Calls Tryz.prog 230 #[.int .u64 (ws[0]'hlt:Nat)] w fun e w'=>e=.returned (.int .i64 (Lib.ctz 64 (ws[0]'hlt):Nat))∧w'=w):=yJ _ w HT.out hz hxl;clear hv;generalize (ws[0]'hlt)=x at *;generalize Lib.ctz 64 x=z at *;have hx0:((x:Int)==0)=false:=by simp;omega
    have HE:=hid he;clear hz he;go_wp2;go_step3;go_wp2_with fail;refine HZ.out.mono ?_;rintro e w2 ⟨rfl,hw⟩;obtain rfl:=hw.symm;go_wp2;rw[ao];go_ret;exact⟨by rw[HE.out];simp;try omega,rfl⟩
  ·have hje:ws.length=0:=by omega
   have he:Hid (lowI has= -1):=by
    have:=HS.out.bits.full (by rw[hje];exact hb.out);show lowI has= -1;unfold lowI;rw[if_neg (by omega)]
   rw[hje] at c1;clear hlt hje;go_wp2;go_step3;go_wp2;rw[ao];go_ret;exact⟨by rw[he.out];simp,rfl⟩
 case pass=>
  rintro a' w' ⟨hw',j,u4,u5,u6,u7,u8,u9,u10,u11,u12,u13,u14,u15,u16,u17,u18,u19,u20,u21,u22,u23,u24,u25,u26,u27,u28,u29,u30,u31,u32,u33,rfl,hjl,hb⟩;obtain rfl:=hw'.symm;clear hw';by_cases hlt:j<ws.length
  ·have cw:=HS.out.cw j hlt;have hxl:=HS.out.bits.lt j hlt;by_cases hz:ws[j]'hlt=0
   ·rw[hz] at cw;have hb':Hid (∀i (_:i<64 * (j+1)) (hl:i<has.length),has[i]=true):=fun i hi hl=>by
     rcases Nat.lt_or_ge i (64 * j) with h1|h1
     ·exact hb.out i h1 hl
     ·have:=HS.out.bits.zero j hlt hz (i - 64 * j) (by omega) (by omega);simpa [show 64 * j+(i - 64 * j)=i by omega] using this
    clear hxl hz;go_wp2;go_step3;exact⟨rfl,⟨rfl,j+1,_,_,_,_,_,_,_,_,_,_,_,_,_,_,_,_,_,_,_,_,_,_,_,_,_,_,_,_,_,_,by go_num,by omega,hb'⟩,by simp[intOf];omega⟩
   ·have hv:=HS.out.bits.lowest j hlt hz hb.out;have he:lowI has=((64 * j+Lib.ctz 64 (ws[j]'hlt):Nat):Int):=by unfold lowI;rw[if_pos hv.2,hv.1]
    have hc:=(kG _ hz hxl).1;have HZ:Hid (Calls Tryz.prog 230 #[.int .u64 (ws[j]'hlt:Nat)] w fun e w'=>e=.returned (.int .i64 (Lib.ctz 64 (ws[j]'hlt):Nat))∧w'=w):=yJ _ w HT.out hz hxl;clear hv;generalize (ws[j]'hlt)=x at *;generalize Lib.ctz 64 x=z at *;have hx0:((x:Int)==0)=false:=by simp;omega
    have HE:=hid he;clear hz he;go_wp2_with fail;refine HZ.out.mono ?_;rintro e w2 ⟨rfl,hw⟩;obtain rfl:=hw.symm;go_wp2;rw[ao];go_ret;exact⟨by rw[HE.out];simp;try omega,rfl⟩
  ·obtain rfl:j=ws.length:=by omega
   have he:Hid (lowI has= -1):=by
    have:=HS.out.bits.full (by exact hb.out);show lowI has= -1;unfold lowI;rw[if_neg (by omega)]
   clear hlt;go_wp2;rw[ao];go_ret;exact⟨by rw[he.out];simp,rfl⟩
end Go.Proofs.YtndhbnhobhkmaaaGreatDoor.Sf
