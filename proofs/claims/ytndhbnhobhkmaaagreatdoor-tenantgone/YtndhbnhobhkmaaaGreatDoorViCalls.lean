/-
  strings.Builder at this dump: a builder as a thing in memory; copyCheck, WriteString, String.
  What the calls of package view answer, and what they leave, at the landed code.
-/
import Derived.Lib.Builder
import Derived.Lib.UnsafeStr
import Derived.Lib.AppendStr
import Derived.Test.YtndhbnhobhkmaaaGreatDoorViCallsC
set_option maxRecDepth 20000
set_option maxHeartbeats 1000000
namespace Go.Proofs.YtndhbnhobhkmaaaGreatDoor
open Go.RowKit
theorem Tryz.infoU8:(Tryz.prog.info? 5).map (fun i=>(i.zero,i.size,i.bytes))=some (some (.int .u8 0),1,1):=by kernel_rfl
theorem nk{w:World}{base n:Nat}{v:Value}{xs:List Value}(ty:TypeId)(hown:w.ownsRow base 5 1 v n xs)(s:ByteArray)(hs:0<s.size)(hn:n+s.size≤1000000)(hb:base≤w.heap.size):
  ∃g cap w',(Builtin.append_ #[48,9] ty #[v,.string s]).run Tryz.prog w=.ok (.slice (some ⟨g,0,none⟩) (n+s.size) cap) w'∧w'.ownsRow base 5 1 (.slice (some ⟨g,0,none⟩) (n+s.size) cap) (n+s.size) (xs++bc s.data.toList)∧w.grownBy w' v.ownBlock∧(v.ownBlock=some g∨g=w.heap.size):=by
 obtain⟨i0,hi,hz0,hz1,hz2⟩:=info_parts Tryz.infoU8;obtain⟨v',w',hr,ho,hgr,hnil⟩:=Lib.run_append_own_string (P:=Tryz.prog) w base 48 9 ty 5 i0 Tryz.underlying48 Tryz.underlying9 hi hz0 hz1 hz2 v n xs hown s (by unfold maxLen;omega) (by omega) hb;obtain⟨g,cap,rfl⟩:∃g cap,v'=.slice (some ⟨g,0,none⟩) (n+s.size) cap:=by
  rcases ho.2 with⟨h0,h2⟩|⟨g,cap,_,h2,_⟩
  ·omega
  ·exact⟨g,cap,h2⟩
 refine⟨g,cap,w',hr,ho,hgr,?_⟩;rcases hown.2 with⟨rfl,rfl⟩|⟨g',cap',cur,rfl,hbg,hg,hnc,hcm,hcs,htake⟩
 ·have hr2:=run_append_nil_string (P:=Tryz.prog) w 48 9 ty 5 i0 (.int .u8 0) Tryz.underlying48 Tryz.underlying9 hi hz0 s hs (by omega) (by rw[hz2];omega);rw[hr] at hr2;simp only[Result.ok.injEq,Value.slice.injEq,Option.some.injEq,Addr.mk.injEq] at hr2;exact .inr hr2.1.1.1
 ·by_cases hroom:n+s.size≤cap'
  ·have hr2:=Lib.run_append_room_string (P:=Tryz.prog) w 48 9 ty 5 i0 Tryz.underlying48 Tryz.underlying9 hi hz1 g' n cap' cur hg s hroom (by omega);rw[hr] at hr2;simp only[Result.ok.injEq,Value.slice.injEq,Option.some.injEq,Addr.mk.injEq] at hr2;exact .inl (by rw[hr2.1.1.1];rfl)
  ·have hr2:=Lib.run_append_grow_string (P:=Tryz.prog) w 48 9 ty 5 i0 (.int .u8 0) Tryz.underlying48 Tryz.underlying9 hi hz0 ⟨g',0,none⟩ n cap' xs (by rw[hz1];exact hown.1) (hown.cells (g:=g') rfl) s (by omega) (by omega) (by rw[hz2];exact growslice_fits (by omega) (by omega));rw[hr] at hr2;simp only[Result.ok.injEq,Value.slice.injEq,Option.some.injEq,Addr.mk.injEq] at hr2;exact .inr hr2.1.1.1
theorem qy{P:Program}{w w':World}{ops:Array Oper}{rest:List Oper}{o:Oper}{a:Act}{Q:Exit→Act→World→Prop}(hgd:o.guard=none)(s x:Operand)(t u:TypeId)(ho:o.op=.call { callee:=.builtin .append,args:=#[s,x],argTypes:=#[t,u] }){y z v:Value}(hs:a.eval s=y)(hx:a.eval x=z)
  (hrun:(Builtin.append_ #[t,u] o.type #[y,z]).run P w=.ok v w')(h:wpList P ops Q rest (a.put o.dst v) w'):wpList P ops Q (o::rest) a w:=by
 refine wpList_plain hgd fun K hK=> ?_
 unfold Oper.wp;simp[execOp,ho,resolve,invoke,builtin,hs,hx,hrun,Result.andThen];exact hK _ _ h
def Bd(b:Nat)(l:List UInt8)(w:World)(Z:Nat→Prop):Prop:=
 ∃p v,(p=.pointer none∨p=.pointer (some ⟨b,0,none⟩))∧w.heap[b]? =some (.cells #[p,v] 129 (0,0))∧w.ownsRow 0 5 1 v l.length (bc l)∧v.ownBlock≠some b∧(l=[]→v=.slice none 0 0)∧(Z b∧∀y,v.ownBlock=some y→Z y)∧∀i,Z i→i<w.heap.size
theorem Bd.good(b:Nat)(l:List UInt8):Good (Bd b l):=
 ⟨fun⟨p,v,hp,hb,ho,hne,h0,⟨z1,z2⟩,hl⟩ f hs=>⟨p,v,hp,(f.block b (hl b z1) (hs b z1)).trans hb,dt ho f fun y e=>hs y (z2 y e),hne,h0,⟨z1,z2⟩,fun i hi=>Nat.lt_of_lt_of_le (hl i hi) f.size⟩,
  fun⟨p,v,hp,hb,ho,hne,h0,⟨z1,z2⟩,_⟩ k1 k2=>⟨p,v,hp,hb,ho,hne,h0,⟨k1 b z1,fun y e=>k1 y (z2 y e)⟩,k2⟩⟩
theorem Bd.new(w:World):Bd w.heap.size [] (w.alloc (.cells #[.pointer none,.slice none 0 0] 129)) (fun i=>i=w.heap.size):=
 ⟨.pointer none,.slice none 0 0,.inl rfl,heap_alloc_new _ _,⟨rfl,.inl ⟨rfl,rfl⟩⟩,by simp[Value.ownBlock],fun _=>rfl,⟨rfl,fun y e=>by simp[Value.ownBlock] at e⟩,fun i hi=>by simp only[World.size_alloc];omega⟩
theorem Tryz.zn:(Tryz.prog.info? 129).map (·.size)=some 2:=by kernel_rfl
theorem Tryz.liesBd:liesAt Tryz.prog Tryz.prog.depth 129 (2 / Tryz.prog.cellsOf 129) 0 129 1=true:=by kernel_rfl
theorem Cn{w:World}{b:Nat}(h0:w.cell? ⟨b,0,none⟩=some (.pointer (some ⟨b,0,none⟩))):Calls Tryz.prog 117 #[.pointer (some ⟨b,0,none⟩)] w fun e w'=>e=.returned (.tuple #[])∧w'=w:=by
 obtain⟨j,hj,_⟩:=Option.map_eq_some_iff.1 Tryz.zn;have hN:=hid (Lib.run_neq_ptr_same (P:=Tryz.prog) w (tp:=127) ⟨b,0,none⟩ Tryz.underlying127 hj);clear hj;go_enter Tryz.func117,Tryz.ntmps117;go_wp2;rw[hN.out];go_wp2;go_end0;exact⟨rfl,rfl⟩
theorem yn{w:World}{b:Nat}(h0:w.cell? ⟨b,0,none⟩=some (.pointer none))(hsh:w.shape? b=some (129,2))(hfz:w.frozen? ⟨b,0,none⟩=false):Calls Tryz.prog 117 #[.pointer (some ⟨b,0,none⟩)] w fun e w'=>e=.returned (.tuple #[])∧w'=w.setCell ⟨b,0,none⟩ (.pointer (some ⟨b,0,none⟩)):=by
 obtain⟨j,hj,hjs⟩:=Option.map_eq_some_iff.1 Tryz.zn;have h1:=hid (Lib.run_to_unsafe (P:=Tryz.prog) w ⟨b,0,none⟩ Tryz.underlying127 Tryz.underlying215 hj (by rw[hjs];decide) hsh (Nat.zero_lt_succ 1));have h2:=hid (Lib.run_from_unsafe (P:=Tryz.prog) w ⟨b,0,none⟩ Tryz.underlying215 Tryz.underlying127 hj hsh Tryz.liesBd);clear hj hjs;go_enter Tryz.func117,Tryz.ntmps117;go_wp2;rw[h1.out];simp only[Result.andThen];rw[Oper.upon_value];go_wp2;rw[run_callFunc_extern Tryz.func159 (by kernel_rfl) (by kernel_rfl) (by kernel_rfl) (e:=Extern.AbiNoEscape.same) (by kernel_rfl)];rw[Lib.run_noEscape];simp only[Result.andThen];rw[Oper.upon_value];go_wp2;rw[h2.out];simp only[Result.andThen];rw[Oper.upon_value];go_wp2;go_end0;exact⟨rfl,rfl⟩
theorem yo{w:World}{b:Nat}{p v:Value}(hp:p=.pointer none∨p=.pointer (some ⟨b,0,none⟩))(hb:w.heap[b]? =some (.cells #[p,v] 129 (0,0))):Calls Tryz.prog 117 #[.pointer (some ⟨b,0,none⟩)] w fun e w'=>e=.returned (.tuple #[])∧w'.heap[b]? =some (.cells #[.pointer (some ⟨b,0,none⟩),v] 129 (0,0))∧Fr (fun i=>i=b) w w':=by
 have c0:w.cell? ⟨b,0,none⟩=some p:=by rw[Lib.cell_of_heap hb];rfl
 rcases hp with rfl|rfl
 ·refine(yn c0 (by simp[World.shape?,hb]) (Lib.frozen_of_heap hb 0)).mono ?_;rintro e w' ⟨rfl,rfl⟩;exact⟨rfl,by simp[World.setCell,Array.getElem?_modify,hb],(Fr.refl (fun i=>i=b) w).setCell (p:=⟨b,0,none⟩) rfl _⟩
 ·refine(Cn c0).mono ?_;rintro e w' ⟨rfl,rfl⟩;exact⟨rfl,hb,Fr.refl _ _⟩
theorem ym{w:World}{b:Nat}{l:List UInt8}{Z:Nat→Prop}(h:Bd b l w Z)(s:ByteArray)(hs:0<s.size)(hn:l.length+s.size≤1000000):Calls Tryz.prog 74 #[.pointer (some ⟨b,0,none⟩),.string s] w fun e w'=>e=.returned (.tuple #[.int .i64 s.size,.nilIface])∧∃Z',Bd b (l++s.data.toList) w' Z'∧Gw w w' Z Z':=by
 obtain⟨p,v,hp,hb,ho,hne,h0,⟨z1,z2⟩,hl⟩:=h;have H1:=hid (yo hp hb);have HK:Hid (∀(w1 w2:World) (g cap:Nat),Fr (fun i=>i=b) w w1→w1.heap[b]? =some (.cells #[.pointer (some ⟨b,0,none⟩),v] 129 (0,0))→w2.ownsRow 0 5 1 (.slice (some ⟨g,0,none⟩) (l.length+s.size) cap) (l.length+s.size) (bc l++bc s.data.toList)→w1.grownBy w2 v.ownBlock→(v.ownBlock=some g∨g=w1.heap.size)→w2.heap[b]? =some (.cells #[.pointer (some ⟨b,0,none⟩),v] 129 (0,0))∧∃Z',Bd b (l++s.data.toList) (w2.setCell ⟨b,1,none⟩ (.slice (some ⟨g,0,none⟩) (l.length+s.size) cap)) Z'∧Gw w (w2.setCell ⟨b,1,none⟩ (.slice (some ⟨g,0,none⟩) (l.length+s.size) cap)) Z Z'):=fun w1 w2 g cap f1 hb1 ho2 hg hw=>by
  have hlb:=hl b z1;have hs1:=f1.size;have hb2:w2.heap[b]? =some (.cells #[.pointer (some ⟨b,0,none⟩),v] 129 (0,0)):=by
   rw[hg.block b (by omega) (fun e=>hne e.symm)];exact hb1
  have f2:Fr Z w w2:=(f1.mono fun i _ e=>by subst e;exact z1).grown hg fun k e=>.inl (z2 k e)
  have f3:Fr Z w (w2.setCell ⟨b,1,none⟩ (.slice (some ⟨g,0,none⟩) (l.length+s.size) cap)):=f2.setCell z1 _;have hgb:g≠b:=fun e=>by
   subst e;rcases hw with e|e
   ·exact hne e
   ·omega
  have hsz:s.size=s.data.toList.length:=rfl;have hlt:∀i,(Z i∨i=g)→i<(w2.setCell ⟨b,1,none⟩ (.slice (some ⟨g,0,none⟩) (l.length+s.size) cap)).heap.size:=fun i hi=>by
   rcases hi with hi|rfl
   ·exact Nat.lt_of_lt_of_le (hl i hi) f3.size
   ·have:=(ho2.lt i rfl).2;simpa [World.setCell] using this
  refine⟨hb2,fun i=>Z i∨i=g,⟨.pointer (some ⟨b,0,none⟩),.slice (some ⟨g,0,none⟩) (l.length+s.size) cap,.inr rfl,by simp[World.setCell,Array.getElem?_modify,hb2],?_,by simp[Value.ownBlock,hgb],fun e=> ?_,⟨.inl z1,fun y e=>.inr (by simpa [Value.ownBlock] using e.symm)⟩,hlt⟩,⟨fun _=>.inl,fun i hi=> ?_,hlt,f3⟩⟩
  ·rw[bZ,List.length_append,←hsz];exact dt ho2 ((Fr.refl (fun i=>i=b) w2).setCell (p:=⟨b,1,none⟩) rfl _) fun y e=>by simp[Value.ownBlock] at e;omega
  ·have:=congrArg List.length e;simp only[List.length_append,List.length_nil] at this;omega
  ·rcases hi with hi|rfl
   ·exact .inl hi
   ·rcases hw with e|e
    ·exact .inl (z2 _ e)
    ·exact .inr (by omega)
 have HO:=hid (And.intro ho (And.intro hne (hl b z1)));clear hp hb ho hne h0 z1 z2 hl;go_enter Tryz.func74,Tryz.ntmps74;go_wp2_with fail;refine H1.out.mono ?_;rintro e w1 ⟨rfl,hb1,f1⟩;have c1:w1.cell? ⟨b,1,none⟩=some v:=by rw[Lib.cell_of_heap hb1];rfl
 obtain⟨g,cap,w2,hrun,ho2,hg2,hw2⟩:=nk 48 (dt HO.out.1 f1 fun x e e2=>HO.out.2.1 (by rw[e,e2])) s hs hn (Nat.zero_le _);obtain⟨hb2,HZ⟩:=HK.out w1 w2 g cap f1 hb1 ho2 hg2 hw2;have HZZ:=hid HZ;have d1:w2.cell? ⟨b,1,none⟩=some v:=by rw[Lib.cell_of_heap hb2];rfl
 have fz:w2.frozen? ⟨b,1,none⟩=false:=Lib.frozen_of_heap hb2 1;clear HK HO H1 hb1 f1 ho2 hg2 hw2 hb2 HZ;go_wp2_with (at_builtin;refine qy rfl (.tmp 12) (.tmp 13) _ _ rfl rfl rfl hrun ?_);clear hrun;go_wp2;go_ret2;exact⟨by simp,HZZ.out⟩
theorem Tryz.BT:Tryz.prog.cellsOf 5=1:=by kernel_rfl
theorem uK{S:Nat→Prop}{a w:World}(h:Fr S a w)(p:Addr)(hp:S p.block)(n:Nat):Fr S a (w.freeze p n):=by
 unfold World.freeze;split
 ·exact h
 ·refine⟨h.os,h.tape,h.output,by have:=h.size;simpa using this,fun i hi hn=> ?_⟩;rw[←h.block i hi hn];simp only[Array.getElem?_modify];have:¬p.block=i:=fun e=>hn (e▸hp)
  simp[this]
theorem vi{w:World}{b:Nat}{l:List UInt8}{Z:Nat→Prop}(h:Bd b l w Z):Calls Tryz.prog 75 #[.pointer (some ⟨b,0,none⟩)] w fun e w'=>e=.returned (.string ⟨l.toArray⟩)∧Fr Z w w':=by
 obtain⟨p,v,hp,hb,ho,hne,h0,⟨z1,z2⟩,hl⟩:=h;have c1:w.drew.cell? ⟨b,1,none⟩=some v:=by
  have:w.drew.heap[b]? =some (.cells #[p,v] 129 (0,0)):=hb;rw[Lib.cell_of_heap this];rfl
 by_cases hl0:l=[]
 ·obtain rfl:=h0 hl0;subst hl0;have hUS:∀W:World,(Builtin.unsafeString_ #[181,3] 9 #[.pointer none,.int .i64 0]).run Tryz.prog W=.ok (.string .empty) W:=fun W=>Lib.run_unsafeString_none W _ _ _ _
  have hSD:∀W:World,(Builtin.unsafeSliceData_ #[48] 181 #[.slice none 0 0]).run Tryz.prog W=.ok (.pointer none) W:=fun W=>rfl
  have HF:Hid (Fr Z w w.drew):=(Fr.refl _ _).drew;clear hp hb ho hne h0 z1 z2 hl;go_enter Tryz.func75,Tryz.ntmps75;go_wp2;go_region
  all_goals (go_wp2;go_ret;exact⟨rfl,HF.out⟩)
 ·obtain⟨g,cap,cur,rfl,hbg,hg,hnc,hcm,hcs,htake⟩:∃g cap cur,v=.slice (some ⟨g,0,none⟩) l.length cap∧0≤g∧w.heap[g]? =some (.cells cur 5 (0,0))∧l.length≤cap∧cap≤maxLen∧cur.size=cap * 1∧cur.toList.take (l.length * 1)=bc l:=by
   rcases ho.2 with⟨_,hz⟩|⟨g,cap,cur,hv,r⟩
   ·exact absurd (List.eq_nil_of_length_eq_zero hz) hl0
   ·exact⟨g,cap,cur,hv,r⟩
  have hlen:l.length≠0:=fun e=>hl0 (List.eq_nil_of_length_eq_zero e)
  have hSD:∀W:World,(Builtin.unsafeSliceData_ #[48] 181 #[.slice (some ⟨g,0,none⟩) l.length cap]).run Tryz.prog W=.ok (.pointer (some ⟨g,0,none⟩)) W:=fun W=>Lib.run_unsafeSliceData_row _ _ _ _ _ _ (by omega)
  have hUS:(Builtin.unsafeString_ #[181,3] 9 #[.pointer (some ⟨g,0,none⟩),.int .i64 l.length]).run Tryz.prog w.drew=.ok (.string ⟨l.toArray⟩) (w.drew.freeze ⟨g,0,none⟩ l.length):=by
   refine Lib.run_unsafeString_row w.drew 181 3 9 5 Tryz.underlying181 Tryz.BT g cur.size (by have hg':w.drew.heap[g]? =some (.cells cur 5 (0,0)):=hg;simp[World.shape?,hg']) l hl0 (by omega) (by unfold maxLen at hcm;omega) ?_;intro j x hx;exact ho.cells (g:=g) rfl j (.int .u8 x.toNat) (by simp[bc,hx])
  have HF:Hid (Fr Z w (w.drew.freeze ⟨g,0,none⟩ l.length)):=uK (Fr.refl _ _).drew ⟨g,0,none⟩ (z2 g rfl) _;clear hp hb ho hne h0 z1 z2 hl hbg hg hnc hcm hcs htake hl0 hlen;go_enter Tryz.func75,Tryz.ntmps75;go_wp2;go_region
  all_goals (go_wp2;go_ret;exact⟨rfl,HF.out⟩)
end Go.Proofs.YtndhbnhobhkmaaaGreatDoor
namespace Go.Proofs.YtndhbnhobhkmaaaGreatDoor
open Go.RowKit
open An
section
variable{W w w0:World}{a t B b:Nat}{Z Y:Nat→Prop}{bs:List UInt8}{ss:List Sp}{T:Tb}{O:World→(Nat→Prop)→Prop}{ad:Option Addr}{L:List Sq}{l:List UInt8}
theorem r_one(h:aa W w [Am 111 a bs ss,O,Blk B (abx a),Sv ad L,Bd b l]){p m:Nat}(bb:Bool)(hp:1≤m∧p+m≤bs.length)(hl:l.length+m≤1000000)(hk:ss.length≤1000000):Calls Tryz.prog 72 #[.agg #[.int .i64 p,.int .i64 m,.bool bb],.pointer (some ⟨B,0,none⟩),.pointer (some ⟨b,0,none⟩)] w fun e w'=>e=.returned (.int .i64 0)∧aa W w' [Am 111 a bs (ss++[((p:Int),(m:Int),false)]),O,Blk B (abx a),Sv ad L,Bd b (l++(bs.drop p).take m)]:=by
 have hF:Fr (fun _=>False) w (w.alloc (.cells #[.int .i64 p,.int .i64 m,.bool bb] 132)):=(Fr.refl _ _).alloc _;have T0:=hid (h.kept hF);have c0:=abxc (T0.out.cells 2 rfl);obtain⟨c1,c2⟩:=spbx w p m bb;have hlen:((bs.drop p).take m).length=m:=by rw[List.length_take,List.length_drop];omega
 have H1:Hid (∀w1,aa W w1 [Am 111 a bs ss,O,Blk B (abx a),Sv ad L,Bd b l]→Calls Tryz.prog 73 #[.pointer (some ⟨a,0,none⟩),.int .i64 p,.int .i64 m] w1 fun e w'=>e=.returned (.tuple #[.string ⟨((bs.drop p).take m).toArray⟩,.int .i64 0])∧aa W w' [Am 111 a bs (ss++[((p:Int),(m:Int),false)]),O,Blk B (abx a),Sv ad L,Bd b l]):=fun w1 h1=>h1.lift 0 rfl (Am.good _ _ _ _) fun U hU=>by
  have:=Cs hU p m hp.2 hk;rw[ib (by omega)] at this;exact this
 have H2:Hid (∀w1,aa W w1 [Am 111 a bs (ss++[((p:Int),(m:Int),false)]),O,Blk B (abx a),Sv ad L,Bd b l]→Calls Tryz.prog 74 #[.pointer (some ⟨b,0,none⟩),.string ⟨((bs.drop p).take m).toArray⟩] w1 fun e w'=>e=.returned (.tuple #[.int .i64 ((⟨((bs.drop p).take m).toArray⟩:ByteArray).size:Nat),.nilIface])∧aa W w' [Am 111 a bs (ss++[((p:Int),(m:Int),false)]),O,Blk B (abx a),Sv ad L,Bd b (l++(bs.drop p).take m)]):=fun w1 h1=>h1.lift 4 rfl (Bd.good _ _) fun U hU=>ym hU ⟨((bs.drop p).take m).toArray⟩ (show 0<((bs.drop p).take m).toArray.size by rw[List.size_toArray,hlen];omega) (show l.length+((bs.drop p).take m).toArray.size≤1000000 by rw[List.size_toArray,hlen];exact hl)
 clear h hF hp hk hl hlen;generalize hwa:w.alloc (.cells #[.int .i64 p,.int .i64 m,.bool bb] 132)=wa at *;generalize ((⟨((bs.drop p).take m).toArray⟩:ByteArray).size:Nat)=sz at *;go_enter Tryz.func72,Tryz.ntmps72;go_wp2_with fail;refine(H1.out _ T0.out).mono ?_;rintro e w1 ⟨rfl,h1⟩;have T1:=hid h1;clear h1 H1 T0 c0 c1 c2;go_wp2_with fail;refine(H2.out _ T1.out).mono ?_;rintro e w2 ⟨rfl,h2⟩;have T2:=hid h2;clear h2 H2 T1;go_wp2;go_ret;exact⟨by simp,T2.out⟩
theorem r_all{cap:Nat}(h:aa W w [Am 111 a bs ss,O,Blk B (abx a),Sv ad L,Bd b []])(hap:Apt bs.length L)(hs:lenL L≤1000000)(hk:ss.length+L.length≤1000000)(hc:L.length≤cap):Calls Tryz.prog 71 #[.slice ad L.length cap,.func (.func 72) #[] #[.pointer (some ⟨B,0,none⟩),.pointer (some ⟨b,0,none⟩)]] w fun e w'=>e=.returned (.int .i64 0)∧aa W w' [Am 111 a bs (ss++tch L false),O,Blk B (abx a),Sv ad L,Bd b (rdB bs L)]:=by
 refine(gb (F:=72) (fun k w'=>aa W w' [Am 111 a bs (ss++tch (L.take k) false),O,Blk B (abx a),Sv ad L,Bd b (rdB bs (L.take k))]) (fun _ _=>False) (fun k w' hi=>hi.sps 3 rfl) hc (enters_of Tryz.func72 (by kernel_rfl) rfl) (fun k w' hk2 hi=> ?_) (by simpa [rdB,tch] using h)).mono ?_
 ·have hl:=du (hap.take k);obtain⟨p1,p2,p3,p4⟩:=hap.at hk2;have hle:=tR L (k+1);rw[iw hk2] at hle;have H:=r_one hi (p:=L[k].1.toNat) (m:=L[k].2.1.toNat) L[k].2.2 (by omega) (by rw[hl];omega) (by simp only[List.length_append,dr,List.length_take];omega);rw[p2,p3] at H;refine H.mono ?_;rintro e w2 ⟨rfl,h2⟩;rw[←wg bs hk2,List.append_assoc,←jG hk2] at h2;exact⟨0,rfl,fun _=>h2,fun e=>(e rfl).elim⟩
 ·rintro e w' ⟨j,rfl,h1,h2⟩;by_cases hj:j=0
  ·subst hj;have:=h1 rfl;rw[List.take_length] at this;exact⟨rfl,this⟩
  ·exact(h2 hj).elim
theorem aa.bld(h:aa W w [Am 111 a bs ss,O,Blk B (abx a),Sv ad L]):aa W (w.alloc (.cells #[.pointer none,.slice none 0 0] 129)) [Am 111 a bs ss,O,Blk B (abx a),Sv ad L,Bd w.heap.size []]:=
 h.more (Bd.good _ _) (Bd.new w) ((Fr.refl _ _).alloc _) fun i hi=>by simp only[World.size_alloc];omega
theorem wi(h:aa W w [Am 111 a bs ss,O,Blk B (abx a),Sv ad L,Bd b l]):Calls Tryz.prog 75 #[.pointer (some ⟨b,0,none⟩)] w fun e w'=>e=.returned (.string ⟨l.toArray⟩)∧∃X,aa W w' (Am 111 a bs ss::O::X):=by
 obtain⟨U,h1,h2,h3⟩:=h.turn 4 rfl;refine(vi h1).mono ?_;rintro e w' ⟨rfl,f⟩;exact⟨rfl,_,h3 (fun w U=>∀i,U i→i<w.heap.size) w' U ⟨fun h f _ i hi=>Nat.lt_of_lt_of_le (h i hi) f.size,fun _ _ k=>k⟩ (fun i hi=>Nat.lt_of_lt_of_le (h2 i hi).2 f.size) (Gw.same (fun i hi=>(h2 i hi).2) f)⟩
theorem yF(h:Am 111 a bs ss w Z)(k:Tm t T w Y)(_hd:∀i,Z i→¬Y i)(ok:TbOk T){x n:Int}(hx:I64 x)(hn:I64 n)(hb:n≤16384)(hk:ss.length≤900000):Calls Tryz.prog 39 #[.pointer (some ⟨a,0,none⟩),.pointer (some ⟨t,0,none⟩),.int .i64 x,.int .i64 n] w fun e w'=>e=.returned (.tuple #[.string ⟨(vrV T bs x n).toArray⟩,.int .i64 (vwE T bs.length x n)])∧∃Z',Am 111 a bs (vrT T bs.length ss x n) w' Z'∧Gw w w' Z Z':=by
 have hF:Fr (fun _=>False) w (w.alloc (abx a)):=(Fr.refl _ _).alloc _;have H1:=hid (oE (h.kept hF) (k.kept hF) ok hx hn);have HA:=hid h;have HF:=hid hF;obtain⟨v1,v2,v3⟩:=gG (N:=bs.length) (x:=x) ok hb;have HV:=hid (And.intro v1 (And.intro v2 v3));have c0:=abxc (heap_alloc_new w (abx a));clear h k ok hx hn hF v1 v2 v3 hb;by_cases hv:VwOk T bs.length x n
 ·obtain⟨e1,e2⟩:=iY hv.1 hv.2;have E:Hid (vwE T bs.length x n=0∧vrV T bs x n=rdB bs (piL T x n)∧vrT T bs.length ss x n=ss++tch (piL T x n) false):=⟨e2,if_pos hv,if_pos hv⟩;rw[e1] at HV;rw[e1,e2] at H1;clear hv e1 e2;rw[E.out.1,E.out.2.1,E.out.2.2];clear E;generalize piL T x n=L at *;go_enter Tryz.func39,Tryz.ntmps39;go_wp2_with fail;refine H1.out.mono ?_;rintro e w1 ⟨ad,cap,rfl,hs,hb,f1,hc⟩;have H2:=hid (r_all (rV HA.out hs hb f1).bld HV.out.1 (by have:=HV.out.2.2;omega) (by have:=HV.out.2.1;omega) hc);clear hs hb f1 hc H1;go_wp2_with fail;refine H2.out.mono ?_;rintro e w2 ⟨rfl,h2⟩;have H3:=hid (wi h2);clear h2 H2;go_wp2_with fail;refine H3.out.mono ?_;rintro e w3 ⟨rfl,X,h3⟩;have T2:=hid (h3.finish HA.out.lt);clear h3 H3;go_wp2;go_ret2;exact⟨by simp,T2.out⟩
 ·obtain⟨e1,e2⟩:=mV hv;have E:Hid (vwE T bs.length x n=4∧vrV T bs x n=[]∧vrT T bs.length ss x n=ss):=⟨e2,if_neg hv,if_neg hv⟩;rw[e1,e2] at H1;clear hv e1 e2 HV;rw[E.out.1,E.out.2.1,E.out.2.2];clear E;go_enter Tryz.func39,Tryz.ntmps39;go_wp2_with fail;refine H1.out.mono ?_;rintro e w1 ⟨ad,cap,rfl,hs,hb,f1,hc⟩;have T2:=hid (dD HA.out (HF.out.trans f1));clear hs hb f1 hc H1;go_wp2;go_ret2;exact⟨by simp,T2.out⟩
theorem v_copy(h:Am 111 a bs ss w Z)(k:Tm t T w Y)(hd:∀i,Z i→¬Y i)(ok:TbOk T){x y n:Int}(hx:I64 x)(hy:I64 y)(hn:I64 n)(hb:n≤16384)(hk:ss.length≤900000):Calls Tryz.prog 49 #[.pointer (some ⟨a,0,none⟩),.pointer (some ⟨t,0,none⟩),.int .i64 x,.int .i64 y,.int .i64 n] w fun e w'=>e=.returned (.int .i64 (vcE T bs.length x y n))∧∃Z',Am 111 a (vcB T bs x y n) (vcT T bs.length ss x y n) w' Z'∧Gw w w' Z Z':=by
 have H1:=hid (oE h k ok hx hn);by_cases hv:VwOk T bs.length x n
 ·obtain⟨e1,e2⟩:=iY hv.1 hv.2;rw[e1,e2] at H1;have H2:Hid (∀w1,Fr (fun _=>False) w w1→Calls Tryz.prog 39 #[.pointer (some ⟨a,0,none⟩),.pointer (some ⟨t,0,none⟩),.int .i64 y,.int .i64 n] w1 fun e w'=>e=.returned (.tuple #[.string ⟨(vrV T bs y n).toArray⟩,.int .i64 (vwE T bs.length y n)])∧∃Z',Am 111 a bs (vrT T bs.length ss y n) w' Z'∧Gw w w' Z Z'):=fun w1 f=>(yF (h.kept f) (k.kept f) hd ok hy hn hb hk).mono fun _ _ ⟨he,Z',h1,h2⟩=>⟨he,Z',h1,Gw.ahead f h2⟩
  by_cases hv2:VwOk T bs.length y n
  ·obtain⟨e3,e4⟩:=iY hv2.1 hv2.2;have hvr:vrV T bs y n=rdB bs (piL T y n):=if_pos hv2;have hvt:vrT T bs.length ss y n=ss++tch (piL T y n) false:=if_pos hv2;rw[e4,hvr,hvt] at H2;obtain⟨p1,p2,p3,_⟩:=hv2.apt ok;have hn0:=hv2.len;have hsz:(rdB bs (piL T y n)).length=n.toNat:=(du p1).trans p2;have E:Hid (vcE T bs.length x y n=0∧vcB T bs x y n=vwB T bs x (rdB bs (piL T y n))∧vcT T bs.length ss x y n=vwT T bs.length (ss++tch (piL T y n) false) x n):=by
    have hl:((rdB bs (piL T y n)).length:Int)=n:=by rw[hsz];omega
    refine⟨if_pos ⟨hv,hv2⟩,?_,?_⟩
    ·unfold vcB vwB;rw[if_pos ⟨hv,hv2⟩,hl,if_pos hv]
    ·unfold vcT vwT;rw[if_pos ⟨hv,hv2⟩,if_pos hv]
   have H3:Hid (∀(w2:World) (Z2:Nat→Prop),Am 111 a bs (ss++tch (piL T y n) false) w2 Z2→Gw w w2 Z Z2→Calls Tryz.prog 43 #[.pointer (some ⟨a,0,none⟩),.pointer (some ⟨t,0,none⟩),.int .i64 x,.string ⟨(rdB bs (piL T y n)).toArray⟩] w2 fun e w'=>e=.returned (.int .i64 0)∧∃Z',Am 111 a (vwB T bs x (rdB bs (piL T y n))) (vwT T bs.length (ss++tch (piL T y n) false) x n) w' Z'∧Gw w w' Z Z'):=fun w2 Z2 h2 g2=>by
    have hs2:(⟨(rdB bs (piL T y n)).toArray⟩:ByteArray).size=n.toNat:=hsz;have hlt:=(Tm.good t T).1 k g2.fr fun i hi e=>hd i e hi
    have hkl:=k.lt;refine(kU h2 hlt (fun i e1 e2=> ?_) ok hx ⟨(rdB bs (piL T y n)).toArray⟩ (by rw[hs2];omega) (by rw[List.length_append,dr];omega)).mono ?_
    ·rcases g2.new i e1 with e|e
     ·exact hd i e e2
     ·have:=hkl i e2;omega
    ·rintro e w' ⟨he,Z',h3,g3⟩;rw[hs2,show((n.toNat:Nat):Int)=n by omega] at he h3;rw[e2] at he;exact⟨he,Z',h3,g2.trans g3⟩
   clear h k hd ok hx hy hn hb hk hv hv2 e1 e2 e3 e4 hvr hvt p1 p2 p3 hn0 hsz;rw[E.out.1,E.out.2.1,E.out.2.2];clear E;generalize vwB T bs x (rdB bs (piL T y n))=B2 at *;generalize vwT T bs.length (ss++tch (piL T y n) false) x n=S2 at *;generalize ss++tch (piL T y n) false=S1 at *;generalize rdB bs (piL T y n)=D1 at *;generalize piL T x n=L at *;go_enter Tryz.func49,Tryz.ntmps49;go_wp2_with fail;refine H1.out.mono ?_;rintro e w1 ⟨ad,cap,rfl,_,_,f1,_⟩;have HF:=hid f1;clear f1 H1;go_wp2_with fail;refine(H2.out _ HF.out).mono ?_;rintro e w2 ⟨rfl,Z2,h2,g2⟩;have HC:=hid (H3.out w2 Z2 h2 g2);clear h2 g2 H2 H3;go_wp2_with fail;refine HC.out.mono ?_;rintro e w3 ⟨rfl,h3⟩;have T3:=hid h3;clear h3 HC;go_wp2;go_ret;exact⟨by simp,T3.out⟩
  ·obtain⟨e3,e4⟩:=mV hv2;have hvr:vrV T bs y n=[]:=if_neg hv2;have hvt:vrT T bs.length ss y n=ss:=if_neg hv2;rw[e4,hvr,hvt] at H2;have E:Hid (vcE T bs.length x y n=4∧vcB T bs x y n=bs∧vcT T bs.length ss x y n=ss):=⟨if_neg fun e=>hv2 e.2,if_neg fun e=>hv2 e.2,if_neg fun e=>hv2 e.2⟩;clear h k hd ok hx hy hn hb hk hv hv2 e1 e2 e3 e4 hvr hvt;rw[E.out.1,E.out.2.1,E.out.2.2];clear E;generalize piL T x n=L at *;go_enter Tryz.func49,Tryz.ntmps49;go_wp2_with fail;refine H1.out.mono ?_;rintro e w1 ⟨ad,cap,rfl,_,_,f1,_⟩;have HF:=hid f1;clear f1 H1;go_wp2_with fail;refine(H2.out _ HF.out).mono ?_;rintro e w2 ⟨rfl,h2⟩;have T3:=hid h2;clear h2 H2;go_wp2;go_ret;exact⟨by simp,T3.out⟩
 ·obtain⟨e1,e2⟩:=mV hv;rw[e1,e2] at H1;have E:Hid (vcE T bs.length x y n=4∧vcB T bs x y n=bs∧vcT T bs.length ss x y n=ss):=⟨if_neg fun e=>hv e.1,if_neg fun e=>hv e.1,if_neg fun e=>hv e.1⟩;have HA:=hid h;clear h k hd ok hx hy hn hb hk hv e1 e2;rw[E.out.1,E.out.2.1,E.out.2.2];clear E;go_enter Tryz.func49,Tryz.ntmps49;go_wp2_with fail;refine H1.out.mono ?_;rintro e w1 ⟨ad,cap,rfl,_,_,f1,_⟩;have T3:=hid (dD HA.out f1);clear f1 H1;go_wp2;go_ret;exact⟨by simp,T3.out⟩
end
section
end
end Go.Proofs.YtndhbnhobhkmaaaGreatDoor
