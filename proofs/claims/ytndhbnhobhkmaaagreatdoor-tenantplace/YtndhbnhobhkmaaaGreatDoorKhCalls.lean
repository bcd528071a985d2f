/-
  What the calls of package handle do: may a key be, its bits, and bits taken apart.
-/
import Derived.Test.YtndhbnhobhkmaaaGreatDoorKaCallsA
set_option maxRecDepth 20000
namespace Go.Proofs.YtndhbnhobhkmaaaGreatDoor.Ka
open Go.RowKit
theorem bQ(t:Int)(w:World):Calls Tryz.prog 188 #[.int .i64 t] w fun e w'=>e=.returned (.bool (decide (0≤t∧t≤7)))∧w'=w:=by
 by_cases h0:0≤t
 case neg=>
  have he:Hid (decide (0≤t∧t≤7)=false):=decide_eq_false (by omega);generalize decide (0≤t∧t≤7)=v at *;go_enter Tryz.func188,Tryz.ntmps188;go_wp2;go_ret;exact⟨by rw[he.out];simp,rfl⟩
 by_cases h1:t<8
 case neg=>
  have he:Hid (decide (0≤t∧t≤7)=false):=decide_eq_false (by omega);generalize decide (0≤t∧t≤7)=v at *;go_enter Tryz.func188,Tryz.ntmps188;go_wp2;go_ret;exact⟨by rw[he.out];simp,rfl⟩
 have he:Hid (decide (0≤t∧t≤7)=true):=decide_eq_true (by omega);generalize decide (0≤t∧t≤7)=v at *;go_enter Tryz.func188,Tryz.ntmps188;go_wp2;go_ret;exact⟨by rw[he.out];simp,rfl⟩
theorem iD(s:Int)(w:World):Calls Tryz.prog 190 #[.int .i64 s] w fun e w'=>e=.returned (.bool (decide (0≤s∧s≤4159)))∧w'=w:=by
 by_cases h0:0≤s
 case neg=>
  have he:Hid (decide (0≤s∧s≤4159)=false):=decide_eq_false (by omega);generalize decide (0≤s∧s≤4159)=v at *;go_enter Tryz.func190,Tryz.ntmps190;go_wp2;go_ret;exact⟨by rw[he.out];simp,rfl⟩
 by_cases h1:s<4160
 case neg=>
  have he:Hid (decide (0≤s∧s≤4159)=false):=decide_eq_false (by omega);generalize decide (0≤s∧s≤4159)=v at *;go_enter Tryz.func190,Tryz.ntmps190;go_wp2;go_ret;exact⟨by rw[he.out];simp,rfl⟩
 have he:Hid (decide (0≤s∧s≤4159)=true):=decide_eq_true (by omega);generalize decide (0≤s∧s≤4159)=v at *;go_enter Tryz.func190,Tryz.ntmps190;go_wp2;go_ret;exact⟨by rw[he.out];simp,rfl⟩
theorem cL(r:Int)(w:World):Calls Tryz.prog 189 #[.int .i64 r] w fun e w'=>e=.returned (.bool (decide (1≤r∧r≤7)))∧w'=w:=by
 by_cases h0:0<r
 case neg=>
  have he:Hid (decide (1≤r∧r≤7)=false):=decide_eq_false (by omega);generalize decide (1≤r∧r≤7)=v at *;go_enter Tryz.func189,Tryz.ntmps189;go_wp2;go_ret;exact⟨by rw[he.out];simp,rfl⟩
 by_cases h1:r≤7
 case neg=>
  have he:Hid (decide (1≤r∧r≤7)=false):=decide_eq_false (by omega);generalize decide (1≤r∧r≤7)=v at *;go_enter Tryz.func189,Tryz.ntmps189;go_wp2;go_ret;exact⟨by rw[he.out];simp,rfl⟩
 have he:Hid (decide (1≤r∧r≤7)=true):=decide_eq_true (by omega);generalize decide (1≤r∧r≤7)=v at *;go_enter Tryz.func189,Tryz.ntmps189;go_wp2;go_ret;exact⟨by rw[he.out];simp,rfl⟩
theorem gp(n:Int)(w:World):Calls Tryz.prog 191 #[.int .i64 n] w fun e w'=>e=.returned (.bool (decide (1≤n∧n≤17592186044415)))∧w'=w:=by
 by_cases h0:0<n
 case neg=>
  have he:Hid (decide (1≤n∧n≤17592186044415)=false):=decide_eq_false (by omega);generalize decide (1≤n∧n≤17592186044415)=v at *;go_enter Tryz.func191,Tryz.ntmps191;go_wp2;go_ret;exact⟨by rw[he.out];simp,rfl⟩
 by_cases h1:n<17592186044416
 case neg=>
  have he:Hid (decide (1≤n∧n≤17592186044415)=false):=decide_eq_false (by omega);generalize decide (1≤n∧n≤17592186044415)=v at *;go_enter Tryz.func191,Tryz.ntmps191;go_wp2;go_ret;exact⟨by rw[he.out];simp,rfl⟩
 have he:Hid (decide (1≤n∧n≤17592186044415)=true):=decide_eq_true (by omega);generalize decide (1≤n∧n≤17592186044415)=v at *;go_enter Tryz.func191,Tryz.ntmps191;go_wp2;go_ret;exact⟨by rw[he.out];simp,rfl⟩
theorem oe{h:Int}(h0:0≤h)(h1:h≤18446744073709551615)(k:Nat)(hk:k≤32):Go.bits .and .u64 h ((2 ^ k - 1:Nat):Int)=h % ((2 ^ k:Nat):Int):=by
 have e:h=(h.toNat:Int):=by omega
 have hp:2 ^ k≤2 ^ 32:=Nat.pow_le_pow_right (by omega) hk;rw[e,bits_and_u64_nat _ _ (by omega) (by omega),Nat.and_two_pow_sub_one_eq_mod];rfl
theorem h_cut4{h:Int}(h0:0≤h)(h1:h≤18446744073709551615)(w:World):Calls Tryz.prog 187 #[.int .u64 h,.int .i64 4] w fun e w'=>e=.returned (.tuple #[.int .i64 (h % 16),.int .u64 (h / 16)])∧w'=w.drew:=by
 have ha:Go.bits .and .u64 h 15=h % 16:=oe h0 h1 4 (by omega);have b1:0≤h % 16∧h % 16≤15:=by omega
 have i1:=ot (h % 16) (by omega) (by omega);go_enter Tryz.func187,Tryz.ntmps187;go_wp2;go_region;go_wp2;go_ret2;exact⟨by simp,rfl⟩
theorem h_cut3{h:Int}(h0:0≤h)(h1:h≤18446744073709551615)(w:World):Calls Tryz.prog 187 #[.int .u64 h,.int .i64 3] w fun e w'=>e=.returned (.tuple #[.int .i64 (h % 8),.int .u64 (h / 8)])∧w'=w.drew:=by
 have ha:Go.bits .and .u64 h 7=h % 8:=oe h0 h1 3 (by omega);have b1:0≤h % 8∧h % 8≤7:=by omega
 have i1:=ot (h % 8) (by omega) (by omega);go_enter Tryz.func187,Tryz.ntmps187;go_wp2;go_region;go_wp2;go_ret2;exact⟨by simp,rfl⟩
theorem BN{h:Int}(h0:0≤h)(h1:h≤18446744073709551615)(w:World):Calls Tryz.prog 187 #[.int .u64 h,.int .i64 13] w fun e w'=>e=.returned (.tuple #[.int .i64 (h % 8192),.int .u64 (h / 8192)])∧w'=w.drew:=by
 have ha:Go.bits .and .u64 h 8191=h % 8192:=oe h0 h1 13 (by omega);have b1:0≤h % 8192∧h % 8192≤8191:=by omega
 have i1:=ot (h % 8192) (by omega) (by omega);go_enter Tryz.func187,Tryz.ntmps187;go_wp2;go_region;go_wp2;go_ret2;exact⟨by simp,rfl⟩
theorem BO(t s r n:Int)(w:World):Calls Tryz.prog 193 #[.agg #[.int .i64 t,.int .i64 s,.int .i64 r,.int .i64 n]] w fun e w'=>e=.returned (.int .i64 (pkE t s r n))∧Fr (fun _=>False) w w':=by
 have HA:=hid (Kb.new w t s r n);have c0:=HA.out.c0;have c1:=HA.out.c1;have c2:=HA.out.c2;have c3:=HA.out.c3;clear HA;by_cases k0:0≤t∧t≤7
 case neg=>
  have H0:=hid fun w=>bQ t w
  rw[decide_eq_false k0] at H0;have he:=hid (jg (t:=t) (s:=s) (r:=r) (n:=n) fun h=>k0 h.1);generalize pkE t s r n=v at *;clear k0;go_enter Tryz.func193,Tryz.ntmps193;go_wp2_with fail;refine(H0.out _).mono ?_;rintro e w1 ⟨rfl,rfl⟩;go_wp2;go_ret;exact⟨by rw[he.out];simp,(Fr.refl _ _).alloc _⟩
 by_cases k1:0≤s∧s≤4159
 case neg=>
  have H0:=hid fun w=>bQ t w
  rw[decide_eq_true k0] at H0;have H1:=hid fun w=>iD s w
  rw[decide_eq_false k1] at H1;have he:=hid (jg (t:=t) (s:=s) (r:=r) (n:=n) fun h=>k1 h.2.1);generalize pkE t s r n=v at *;clear k0 k1;go_enter Tryz.func193,Tryz.ntmps193;go_wp2_with fail;refine(H0.out _).mono ?_;rintro e w1 ⟨rfl,rfl⟩;go_wp2_with fail;refine(H1.out _).mono ?_;rintro e w1 ⟨rfl,rfl⟩;go_wp2;go_ret;exact⟨by rw[he.out];simp,(Fr.refl _ _).alloc _⟩
 by_cases k2:1≤r∧r≤7
 case neg=>
  have H0:=hid fun w=>bQ t w
  rw[decide_eq_true k0] at H0;have H1:=hid fun w=>iD s w
  rw[decide_eq_true k1] at H1;have H2:=hid fun w=>cL r w
  rw[decide_eq_false k2] at H2;have he:=hid (jg (t:=t) (s:=s) (r:=r) (n:=n) fun h=>k2 h.2.2.1);generalize pkE t s r n=v at *;clear k0 k1 k2;go_enter Tryz.func193,Tryz.ntmps193;go_wp2_with fail;refine(H0.out _).mono ?_;rintro e w1 ⟨rfl,rfl⟩;go_wp2_with fail;refine(H1.out _).mono ?_;rintro e w1 ⟨rfl,rfl⟩;go_wp2_with fail;refine(H2.out _).mono ?_;rintro e w1 ⟨rfl,rfl⟩;go_wp2;go_ret;exact⟨by rw[he.out];simp,(Fr.refl _ _).alloc _⟩
 by_cases k3:1≤n∧n≤17592186044415
 case neg=>
  have H0:=hid fun w=>bQ t w
  rw[decide_eq_true k0] at H0;have H1:=hid fun w=>iD s w
  rw[decide_eq_true k1] at H1;have H2:=hid fun w=>cL r w
  rw[decide_eq_true k2] at H2;have H3:=hid fun w=>gp n w
  rw[decide_eq_false k3] at H3;have he:=hid (jg (t:=t) (s:=s) (r:=r) (n:=n) fun h=>k3 h.2.2.2);generalize pkE t s r n=v at *;clear k0 k1 k2 k3;go_enter Tryz.func193,Tryz.ntmps193;go_wp2_with fail;refine(H0.out _).mono ?_;rintro e w1 ⟨rfl,rfl⟩;go_wp2_with fail;refine(H1.out _).mono ?_;rintro e w1 ⟨rfl,rfl⟩;go_wp2_with fail;refine(H2.out _).mono ?_;rintro e w1 ⟨rfl,rfl⟩;go_wp2_with fail;refine(H3.out _).mono ?_;rintro e w1 ⟨rfl,rfl⟩;go_wp2;go_ret;exact⟨by rw[he.out];simp,(Fr.refl _ _).alloc _⟩
 have H0:=hid fun w=>bQ t w
 rw[decide_eq_true k0] at H0;have H1:=hid fun w=>iD s w
 rw[decide_eq_true k1] at H1;have H2:=hid fun w=>cL r w
 rw[decide_eq_true k2] at H2;have H3:=hid fun w=>gp n w
 rw[decide_eq_true k3] at H3;have he:=hid (ib (t:=t) (s:=s) (r:=r) (n:=n) ⟨k0,k1,k2,k3⟩);generalize pkE t s r n=v at *;clear k0 k1 k2 k3;go_enter Tryz.func193,Tryz.ntmps193;go_wp2_with fail;refine(H0.out _).mono ?_;rintro e w1 ⟨rfl,rfl⟩;go_wp2_with fail;refine(H1.out _).mono ?_;rintro e w1 ⟨rfl,rfl⟩;go_wp2_with fail;refine(H2.out _).mono ?_;rintro e w1 ⟨rfl,rfl⟩;go_wp2_with fail;refine(H3.out _).mono ?_;rintro e w1 ⟨rfl,rfl⟩;go_wp2;go_ret;exact⟨by rw[he.out];simp,(Fr.refl _ _).alloc _⟩
theorem tx{x y:Int}(k:Nat)(h0:0≤x)(h1:x * ((2 ^ k:Nat):Int)+y≤18446744073709551615)(h2:0≤y)(h3:y<((2 ^ k:Nat):Int)):Go.bits .or .u64 (x * ((2 ^ k:Nat):Int)) y=x * ((2 ^ k:Nat):Int)+y:=by
 obtain⟨a,rfl⟩:∃a:Nat,x=(a:Int):=⟨x.toNat,by omega⟩;obtain⟨b,rfl⟩:∃b:Nat,y=(b:Int):=⟨y.toNat,by omega⟩;have hb:b<2 ^ k:=by omega
 have e:(a:Int) * ((2 ^ k:Nat):Int)=((2 ^ k * a:Nat):Int):=by rw[Int.natCast_mul,Int.mul_comm]
 rw[e] at h1 ⊢;rw[bits_or_u64_nat _ _ (by omega) (by omega),←Nat.two_pow_add_eq_or_of_lt hb a];rfl
theorem zy(t s r n:Int)(w:World):Calls Tryz.prog 135 #[.agg #[.int .i64 t,.int .i64 s,.int .i64 r,.int .i64 n]] w fun e w'=>e=.returned (.tuple #[.int .u64 (pkB t s r n),.int .i64 (pkE t s r n)])∧Fr (fun _=>False) w w':=by
 have H1:=hid fun w=>BO t s r n w
 have HA:=hid (Kb.new w t s r n);have c0:=HA.out.c0;have c1:=HA.out.c1;have c2:=HA.out.c2;have c3:=HA.out.c3;by_cases h:KR t s r n
 ·have e1:=hid (ie h);have e2:=hid (ib h);rw[ib h] at H1;unfold KR at h;have u0:=gC t (by omega) (by omega);have u1:=gC s (by omega) (by omega);have u2:=gC r (by omega) (by omega);have u3:=gC n (by omega) (by omega);have u4:=gC (n * 8192) (by omega) (by omega);have u5:=gC ((n * 8192+s) * 8) (by omega) (by omega);have u6:=gC (((n * 8192+s) * 8+r) * 16) (by omega) (by omega);have o1:Go.bits .or .u64 (n * 8192) s=n * 8192+s:=tx 13 (by omega) (by omega) (by omega) (by omega);have o2:Go.bits .or .u64 ((n * 8192+s) * 8) r=(n * 8192+s) * 8+r:=tx 3 (by omega) (by omega) (by omega) (by omega);have o3:Go.bits .or .u64 (((n * 8192+s) * 8+r) * 16) t=((n * 8192+s) * 8+r) * 16+t:=tx 4 (by omega) (by omega) (by omega) (by omega);clear h;go_enter Tryz.func135,Tryz.ntmps135;go_wp2_with fail;refine(H1.out _).mono ?_;rintro e w1 ⟨rfl,f1⟩;have HA1:=hid (HA.out.kept f1);have HF1:=hid (((Fr.refl (fun _=>False) w).alloc _).trans f1);clear f1 c0 c1 c2 c3 HA;have c0:=HA1.out.c0;have c1:=HA1.out.c1;have c2:=HA1.out.c2;have c3:=HA1.out.c3;go_wp2;go_ret2;exact⟨by rw[e1.out,e2.out];simp;omega,HF1.out⟩
 ·have e1:=hid (pkB_no h);have e2:=hid (jg h);rw[jg h] at H1;clear h;go_enter Tryz.func135,Tryz.ntmps135;go_wp2_with fail;refine(H1.out _).mono ?_;rintro e w1 ⟨rfl,f1⟩;have HF1:=hid (((Fr.refl (fun _=>False) w).alloc _).trans f1);clear f1;go_wp2;go_ret2;exact⟨by rw[e1.out,e2.out];simp,HF1.out⟩
theorem Kb.set0{w:World}{B:Nat}{t s r n:Int}(h:Kb w B t s r n)(x:Int):Kb (w.setCell ⟨B,0,none⟩ (.int .i64 x)) B x s r n:=⟨by simp[World.setCell,Array.getElem?_modify,h.heap]⟩
structure Un(w w':World)(t s r n:Int):Prop where
 z:Kb w' w.heap.size 0 0 0 0
 k:Kb w' (w.heap.size+1) t s r n
 f:Fr (fun k=>w.heap.size≤k) w w'
section
variable{w w' w1:World}{t s r n:Int}
theorem Un.start(w:World):Un w ((w.alloc (.cells #[.int .i64 0,.int .i64 0,.int .i64 0,.int .i64 0] 190)).alloc (.cells #[.int .i64 0,.int .i64 0,.int .i64 0,.int .i64 0] 190)) 0 0 0 0:=
 ⟨(Kb.new w 0 0 0 0).alloc _,by simpa using Kb.new (w.alloc (.cells #[.int .i64 0,.int .i64 0,.int .i64 0,.int .i64 0] 190)) 0 0 0 0,((Fr.refl _ w).alloc _).alloc _⟩
theorem Un.step(h:Un w w' t s r n)(f:Fr (fun _=>False) w' w1):Un w w1 t s r n:=⟨h.z.kept f,h.k.kept f,h.f.trans (f.mono fun _ _ e=>e.elim)⟩
theorem Un.cell(h:Un w w' t s r n)(j:Nat)(v:Value){t' s' r' n':Int}(hk:Kb (w'.setCell ⟨w.heap.size+1,j,none⟩ v) (w.heap.size+1) t' s' r' n'):Un w (w'.setCell ⟨w.heap.size+1,j,none⟩ v) t' s' r' n':=
 ⟨h.z.carry (Fr.setCell (S:=fun k=>k=w.heap.size+1) (Fr.refl _ _) rfl _) (by omega),hk,h.f.setCell (p:=⟨w.heap.size+1,j,none⟩) (Nat.le_succ _) _⟩
theorem Un.put0(h:Un w w' t s r n)(x:Int)(f:Fr (fun _=>False) (w'.setCell ⟨w.heap.size+1,0,none⟩ (.int .i64 x)) w1):Un w w1 x s r n:=(h.cell 0 _ (h.k.set0 x)).step f
theorem Un.put1(h:Un w w' t s r n)(x:Int)(f:Fr (fun _=>False) (w'.setCell ⟨w.heap.size+1,1,none⟩ (.int .i64 x)) w1):Un w w1 t x r n:=(h.cell 1 _ (h.k.set1 x)).step f
theorem Un.put2(h:Un w w' t s r n)(x:Int)(f:Fr (fun _=>False) (w'.setCell ⟨w.heap.size+1,2,none⟩ (.int .i64 x)) w1):Un w w1 t s x n:=(h.cell 2 _ (h.k.set2 x)).step f
theorem Un.put3(h:Un w w' t s r n)(x:Int)(f:Fr (fun _=>False) (w'.setCell ⟨w.heap.size+1,3,none⟩ (.int .i64 x)) w1):Un w w1 t s r x:=(h.cell 3 _ (h.k.set3 x)).step f
theorem still{P:Program}{g:Nat}{a:Array Value}{w:World}{v:Ending}(h:Calls P g a w fun e w'=>e=v∧w'=w):Calls P g a w fun e w'=>e=v∧Fr (fun _=>False) w w':=h.mono fun _ _ ⟨he,hw⟩=>⟨he,hw▸Fr.refl _ _⟩
theorem drawn{P:Program}{g:Nat}{a:Array Value}{w:World}{v:Ending}(h:Calls P g a w fun e w'=>e=v∧w'=w.drew):Calls P g a w fun e w'=>e=v∧Fr (fun _=>False) w w':=h.mono fun _ _ ⟨he,hw⟩=>⟨he,hw▸(Fr.refl _ _).drew⟩
end
theorem xA{h:Int}(h0:0≤h)(h1:h≤18446744073709551615)(w:World):Calls Tryz.prog 132 #[.int .u64 h] w fun e w'=>e=.returned (.tuple #[.agg #[.int .i64 (unT h),.int .i64 (unS h),.int .i64 (unR h),.int .i64 (unN h)],.int .i64 (unE h)])∧Fr (fun _=>False) w w':=by
 have HC0:=hid fun w=>drawn (h_cut4 h0 h1 w)
 have HC1:=hid fun w=>drawn (h_cut3 (h:=h / 16) (by omega) (by omega) w)
 have HC2:=hid fun w=>drawn (BN (h:=h / 128) (by omega) (by omega) w)
 rw[show h / 16 / 8=h / 128 by omega] at HC1;rw[show h / 128 / 8192=h / 1048576 by omega] at HC2;have i6:=ot (h / 1048576) (by omega) (by omega);have HS:=hid (Un.start w);by_cases k0:0≤h % 16∧h % 16≤7
 case neg=>
  have H0:=hid fun w=>still (bQ (h % 16) w)
  rw[decide_eq_false k0] at H0;have HU:=hid (rY (h:=h) fun kh=>k0 kh.1);rw[HU.out.1,HU.out.2.1,HU.out.2.2.1,HU.out.2.2.2.1,HU.out.2.2.2.2];clear HU k0;generalize h / 16 % 8=R at *;generalize h / 128 % 8192=S at *;generalize h / 1048576=N at *;generalize h % 16=T at *;generalize h / 16=h2 at *;generalize h / 128=h3 at *;go_enter Tryz.func132,Tryz.ntmps132;go_wp2_with fail;refine wp_scope_jumps 0 (fun a' w'=>(Kb w' w.heap.size 0 0 0 0∧Fr (fun k=>w.heap.size≤k) w w')∧∃(u0 u1 u3 u4 u5 u6 u7 u8 u9 u10 u11 u12 u13 u14 u15 u16 u17 u18 u19 u20 u21 u22 u23 u24 u25 u26 u27 u28 u29 u30 u31 u32 u33 u34 u35 u36 u37 u38 u39 u40 u41 u42 u43:Value),a'={ tmps:=#[u0,u1,.pointer (some ⟨w.heap.size,0,none⟩),u3,u4,u5,u6,u7,u8,u9,u10,u11,u12,u13,u14,u15,u16,u17,u18,u19,u20,u21,u22,u23,u24,u25,u26,u27,u28,u29,u30,u31,u32,u33,u34,u35,u36,u37,u38,u39,u40,u41,u42,u43],defers:=[] }) (fun _ _=>0) rfl ?first ?pass
  case first=>
   go_wp2_with fail;refine(HC0.out _).mono ?_;rintro e w1 ⟨rfl,f1⟩;have HA:=hid (HS.out.step f1);clear f1 HS;have c0:=HA.out.k.c0;have c1:=HA.out.k.c1;have c2:=HA.out.k.c2;have c3:=HA.out.k.c3;have g:∀k,w1.frozen? ⟨w.heap.size+1,k,none⟩=false:=fun k=>HA.out.k.g k
   go_wp2_with fail;refine(H0.out _).mono ?_;rintro e w2 ⟨rfl,f1⟩;have HB1:=hid (HA.out.put0 T f1);clear f1 c0 c1 c2 c3 g HA
   try clear w1
   have HS1:=HB1;clear HB1;have c0:=HS1.out.k.c0;have c1:=HS1.out.k.c1;have c2:=HS1.out.k.c2;have c3:=HS1.out.k.c3;have g:∀k,w2.frozen? ⟨w.heap.size+1,k,none⟩=false:=fun k=>HS1.out.k.g k
   go_wp2;go_step3;exact⟨rfl,⟨HS1.out.z,HS1.out.f⟩,_,_,_,_,_,_,_,_,_,_,_,_,_,_,_,_,_,_,_,_,_,_,_,_,_,_,_,_,_,_,_,_,_,_,_,_,_,_,_,_,_,_,_,rfl⟩
  case pass=>
   rintro a' w1 ⟨⟨z,f⟩,u0,u1,u3,u4,u5,u6,u7,u8,u9,u10,u11,u12,u13,u14,u15,u16,u17,u18,u19,u20,u21,u22,u23,u24,u25,u26,u27,u28,u29,u30,u31,u32,u33,u34,u35,u36,u37,u38,u39,u40,u41,u42,u43,rfl⟩;have z0:=z.c0;have z1:=z.c1;have z2:=z.c2;have z3:=z.c3;have gz:∀k,w1.frozen? ⟨w.heap.size,k,none⟩=false:=fun k=>z.g k
   have Hz:=hid z;have Hf:=hid f;clear z f;go_wp2;rw[ao];have q:=Hz.out.put 0 0 0 0;have q0:=q.c0;have q1:=q.c1;have q2:=q.c2;have q3:=q.c3;exact bodyPost_ret (v:=.tuple #[.agg #[.int .i64 0,.int .i64 0,.int .i64 0,.int .i64 0],.int .i64 5]) (by simp[results,Tryz.results132,go_sem,q0,q1,q2,q3]) rfl ⟨rfl,((((Fr.setCell Hf.out (p:=⟨w.heap.size,0,none⟩) (Nat.le_refl _) _).setCell (p:=⟨w.heap.size,1,none⟩) (Nat.le_refl _) _).setCell (p:=⟨w.heap.size,2,none⟩) (Nat.le_refl _) _).setCell (p:=⟨w.heap.size,3,none⟩) (Nat.le_refl _) _).new⟩
 by_cases k1:1≤h / 16 % 8∧h / 16 % 8≤7
 case neg=>
  have H0:=hid fun w=>still (bQ (h % 16) w)
  rw[decide_eq_true k0] at H0;have H1:=hid fun w=>still (cL (h / 16 % 8) w)
  rw[decide_eq_false k1] at H1;have HU:=hid (rY (h:=h) fun kh=>k1 kh.2.2.1);rw[HU.out.1,HU.out.2.1,HU.out.2.2.1,HU.out.2.2.2.1,HU.out.2.2.2.2];clear HU k0 k1;generalize h / 16 % 8=R at *;generalize h / 128 % 8192=S at *;generalize h / 1048576=N at *;generalize h % 16=T at *;generalize h / 16=h2 at *;generalize h / 128=h3 at *;go_enter Tryz.func132,Tryz.ntmps132;go_wp2_with fail;refine wp_scope_jumps 0 (fun a' w'=>(Kb w' w.heap.size 0 0 0 0∧Fr (fun k=>w.heap.size≤k) w w')∧∃(u0 u1 u3 u4 u5 u6 u7 u8 u9 u10 u11 u12 u13 u14 u15 u16 u17 u18 u19 u20 u21 u22 u23 u24 u25 u26 u27 u28 u29 u30 u31 u32 u33 u34 u35 u36 u37 u38 u39 u40 u41 u42 u43:Value),a'={ tmps:=#[u0,u1,.pointer (some ⟨w.heap.size,0,none⟩),u3,u4,u5,u6,u7,u8,u9,u10,u11,u12,u13,u14,u15,u16,u17,u18,u19,u20,u21,u22,u23,u24,u25,u26,u27,u28,u29,u30,u31,u32,u33,u34,u35,u36,u37,u38,u39,u40,u41,u42,u43],defers:=[] }) (fun _ _=>0) rfl ?first ?pass
  case first=>
   go_wp2_with fail;refine(HC0.out _).mono ?_;rintro e w1 ⟨rfl,f1⟩;have HA:=hid (HS.out.step f1);clear f1 HS;have c0:=HA.out.k.c0;have c1:=HA.out.k.c1;have c2:=HA.out.k.c2;have c3:=HA.out.k.c3;have g:∀k,w1.frozen? ⟨w.heap.size+1,k,none⟩=false:=fun k=>HA.out.k.g k
   go_wp2_with fail;refine(H0.out _).mono ?_;rintro e w2 ⟨rfl,f1⟩;have HB1:=hid (HA.out.put0 T f1);clear f1 c0 c1 c2 c3 g HA
   try clear w1
   have HS1:=HB1;clear HB1;have c0:=HS1.out.k.c0;have c1:=HS1.out.k.c1;have c2:=HS1.out.k.c2;have c3:=HS1.out.k.c3;have g:∀k,w2.frozen? ⟨w.heap.size+1,k,none⟩=false:=fun k=>HS1.out.k.g k
   go_wp2_with fail;refine(HC1.out _).mono ?_;rintro e w1 ⟨rfl,f1⟩;have HA:=hid (HS1.out.step f1);clear f1 HS1 c0 c1 c2 c3 g;have c0:=HA.out.k.c0;have c1:=HA.out.k.c1;have c2:=HA.out.k.c2;have c3:=HA.out.k.c3;have g:∀k,w1.frozen? ⟨w.heap.size+1,k,none⟩=false:=fun k=>HA.out.k.g k
   go_wp2_with fail;refine(H1.out _).mono ?_;rintro e w2 ⟨rfl,f1⟩;have HB1:=hid (HA.out.put2 R f1);clear f1 c0 c1 c2 c3 g HA
   try clear w1
   have HS2:=HB1;clear HB1;have c0:=HS2.out.k.c0;have c1:=HS2.out.k.c1;have c2:=HS2.out.k.c2;have c3:=HS2.out.k.c3;have g:∀k,w2.frozen? ⟨w.heap.size+1,k,none⟩=false:=fun k=>HS2.out.k.g k
   go_wp2;go_step3;exact⟨rfl,⟨HS2.out.z,HS2.out.f⟩,_,_,_,_,_,_,_,_,_,_,_,_,_,_,_,_,_,_,_,_,_,_,_,_,_,_,_,_,_,_,_,_,_,_,_,_,_,_,_,_,_,_,_,rfl⟩
  case pass=>
   rintro a' w1 ⟨⟨z,f⟩,u0,u1,u3,u4,u5,u6,u7,u8,u9,u10,u11,u12,u13,u14,u15,u16,u17,u18,u19,u20,u21,u22,u23,u24,u25,u26,u27,u28,u29,u30,u31,u32,u33,u34,u35,u36,u37,u38,u39,u40,u41,u42,u43,rfl⟩;have z0:=z.c0;have z1:=z.c1;have z2:=z.c2;have z3:=z.c3;have gz:∀k,w1.frozen? ⟨w.heap.size,k,none⟩=false:=fun k=>z.g k
   have Hz:=hid z;have Hf:=hid f;clear z f;go_wp2;rw[ao];have q:=Hz.out.put 0 0 0 0;have q0:=q.c0;have q1:=q.c1;have q2:=q.c2;have q3:=q.c3;exact bodyPost_ret (v:=.tuple #[.agg #[.int .i64 0,.int .i64 0,.int .i64 0,.int .i64 0],.int .i64 5]) (by simp[results,Tryz.results132,go_sem,q0,q1,q2,q3]) rfl ⟨rfl,((((Fr.setCell Hf.out (p:=⟨w.heap.size,0,none⟩) (Nat.le_refl _) _).setCell (p:=⟨w.heap.size,1,none⟩) (Nat.le_refl _) _).setCell (p:=⟨w.heap.size,2,none⟩) (Nat.le_refl _) _).setCell (p:=⟨w.heap.size,3,none⟩) (Nat.le_refl _) _).new⟩
 by_cases k2:0≤h / 128 % 8192∧h / 128 % 8192≤4159
 case neg=>
  have H0:=hid fun w=>still (bQ (h % 16) w)
  rw[decide_eq_true k0] at H0;have H1:=hid fun w=>still (cL (h / 16 % 8) w)
  rw[decide_eq_true k1] at H1;have H2:=hid fun w=>still (iD (h / 128 % 8192) w)
  rw[decide_eq_false k2] at H2;have HU:=hid (rY (h:=h) fun kh=>k2 kh.2.1);rw[HU.out.1,HU.out.2.1,HU.out.2.2.1,HU.out.2.2.2.1,HU.out.2.2.2.2];clear HU k0 k1 k2;generalize h / 16 % 8=R at *;generalize h / 128 % 8192=S at *;generalize h / 1048576=N at *;generalize h % 16=T at *;generalize h / 16=h2 at *;generalize h / 128=h3 at *;go_enter Tryz.func132,Tryz.ntmps132;go_wp2_with fail;refine wp_scope_jumps 0 (fun a' w'=>(Kb w' w.heap.size 0 0 0 0∧Fr (fun k=>w.heap.size≤k) w w')∧∃(u0 u1 u3 u4 u5 u6 u7 u8 u9 u10 u11 u12 u13 u14 u15 u16 u17 u18 u19 u20 u21 u22 u23 u24 u25 u26 u27 u28 u29 u30 u31 u32 u33 u34 u35 u36 u37 u38 u39 u40 u41 u42 u43:Value),a'={ tmps:=#[u0,u1,.pointer (some ⟨w.heap.size,0,none⟩),u3,u4,u5,u6,u7,u8,u9,u10,u11,u12,u13,u14,u15,u16,u17,u18,u19,u20,u21,u22,u23,u24,u25,u26,u27,u28,u29,u30,u31,u32,u33,u34,u35,u36,u37,u38,u39,u40,u41,u42,u43],defers:=[] }) (fun _ _=>0) rfl ?first ?pass
  case first=>
   go_wp2_with fail;refine(HC0.out _).mono ?_;rintro e w1 ⟨rfl,f1⟩;have HA:=hid (HS.out.step f1);clear f1 HS;have c0:=HA.out.k.c0;have c1:=HA.out.k.c1;have c2:=HA.out.k.c2;have c3:=HA.out.k.c3;have g:∀k,w1.frozen? ⟨w.heap.size+1,k,none⟩=false:=fun k=>HA.out.k.g k
   go_wp2_with fail;refine(H0.out _).mono ?_;rintro e w2 ⟨rfl,f1⟩;have HB1:=hid (HA.out.put0 T f1);clear f1 c0 c1 c2 c3 g HA
   try clear w1
   have HS1:=HB1;clear HB1;have c0:=HS1.out.k.c0;have c1:=HS1.out.k.c1;have c2:=HS1.out.k.c2;have c3:=HS1.out.k.c3;have g:∀k,w2.frozen? ⟨w.heap.size+1,k,none⟩=false:=fun k=>HS1.out.k.g k
   go_wp2_with fail;refine(HC1.out _).mono ?_;rintro e w1 ⟨rfl,f1⟩;have HA:=hid (HS1.out.step f1);clear f1 HS1 c0 c1 c2 c3 g;have c0:=HA.out.k.c0;have c1:=HA.out.k.c1;have c2:=HA.out.k.c2;have c3:=HA.out.k.c3;have g:∀k,w1.frozen? ⟨w.heap.size+1,k,none⟩=false:=fun k=>HA.out.k.g k
   go_wp2_with fail;refine(H1.out _).mono ?_;rintro e w2 ⟨rfl,f1⟩;have HB1:=hid (HA.out.put2 R f1);clear f1 c0 c1 c2 c3 g HA
   try clear w1
   have HS2:=HB1;clear HB1;have c0:=HS2.out.k.c0;have c1:=HS2.out.k.c1;have c2:=HS2.out.k.c2;have c3:=HS2.out.k.c3;have g:∀k,w2.frozen? ⟨w.heap.size+1,k,none⟩=false:=fun k=>HS2.out.k.g k
   go_wp2_with fail;refine(HC2.out _).mono ?_;rintro e w1 ⟨rfl,f1⟩;have HA:=hid (HS2.out.step f1);clear f1 HS2 c0 c1 c2 c3 g;have c0:=HA.out.k.c0;have c1:=HA.out.k.c1;have c2:=HA.out.k.c2;have c3:=HA.out.k.c3;have g:∀k,w1.frozen? ⟨w.heap.size+1,k,none⟩=false:=fun k=>HA.out.k.g k
   go_wp2_with fail;refine(H2.out _).mono ?_;rintro e w2 ⟨rfl,f1⟩;have HB1:=hid (HA.out.put1 S f1);clear f1 c0 c1 c2 c3 g HA
   try clear w1
   have HS3:=HB1;clear HB1;have c0:=HS3.out.k.c0;have c1:=HS3.out.k.c1;have c2:=HS3.out.k.c2;have c3:=HS3.out.k.c3;have g:∀k,w2.frozen? ⟨w.heap.size+1,k,none⟩=false:=fun k=>HS3.out.k.g k
   go_wp2;go_step3;exact⟨rfl,⟨HS3.out.z,HS3.out.f⟩,_,_,_,_,_,_,_,_,_,_,_,_,_,_,_,_,_,_,_,_,_,_,_,_,_,_,_,_,_,_,_,_,_,_,_,_,_,_,_,_,_,_,_,rfl⟩
  case pass=>
   rintro a' w1 ⟨⟨z,f⟩,u0,u1,u3,u4,u5,u6,u7,u8,u9,u10,u11,u12,u13,u14,u15,u16,u17,u18,u19,u20,u21,u22,u23,u24,u25,u26,u27,u28,u29,u30,u31,u32,u33,u34,u35,u36,u37,u38,u39,u40,u41,u42,u43,rfl⟩;have z0:=z.c0;have z1:=z.c1;have z2:=z.c2;have z3:=z.c3;have gz:∀k,w1.frozen? ⟨w.heap.size,k,none⟩=false:=fun k=>z.g k
   have Hz:=hid z;have Hf:=hid f;clear z f;go_wp2;rw[ao];have q:=Hz.out.put 0 0 0 0;have q0:=q.c0;have q1:=q.c1;have q2:=q.c2;have q3:=q.c3;exact bodyPost_ret (v:=.tuple #[.agg #[.int .i64 0,.int .i64 0,.int .i64 0,.int .i64 0],.int .i64 5]) (by simp[results,Tryz.results132,go_sem,q0,q1,q2,q3]) rfl ⟨rfl,((((Fr.setCell Hf.out (p:=⟨w.heap.size,0,none⟩) (Nat.le_refl _) _).setCell (p:=⟨w.heap.size,1,none⟩) (Nat.le_refl _) _).setCell (p:=⟨w.heap.size,2,none⟩) (Nat.le_refl _) _).setCell (p:=⟨w.heap.size,3,none⟩) (Nat.le_refl _) _).new⟩
 by_cases k3:1≤h / 1048576∧h / 1048576≤17592186044415
 case neg=>
  have H0:=hid fun w=>still (bQ (h % 16) w)
  rw[decide_eq_true k0] at H0;have H1:=hid fun w=>still (cL (h / 16 % 8) w)
  rw[decide_eq_true k1] at H1;have H2:=hid fun w=>still (iD (h / 128 % 8192) w)
  rw[decide_eq_true k2] at H2;have H3:=hid fun w=>still (gp (h / 1048576) w)
  rw[decide_eq_false k3] at H3;have HU:=hid (rY (h:=h) fun kh=>k3 kh.2.2.2);rw[HU.out.1,HU.out.2.1,HU.out.2.2.1,HU.out.2.2.2.1,HU.out.2.2.2.2];clear HU k0 k1 k2 k3;generalize h / 16 % 8=R at *;generalize h / 128 % 8192=S at *;generalize h / 1048576=N at *;generalize h % 16=T at *;generalize h / 16=h2 at *;generalize h / 128=h3 at *;go_enter Tryz.func132,Tryz.ntmps132;go_wp2_with fail;refine wp_scope_jumps 0 (fun a' w'=>(Kb w' w.heap.size 0 0 0 0∧Fr (fun k=>w.heap.size≤k) w w')∧∃(u0 u1 u3 u4 u5 u6 u7 u8 u9 u10 u11 u12 u13 u14 u15 u16 u17 u18 u19 u20 u21 u22 u23 u24 u25 u26 u27 u28 u29 u30 u31 u32 u33 u34 u35 u36 u37 u38 u39 u40 u41 u42 u43:Value),a'={ tmps:=#[u0,u1,.pointer (some ⟨w.heap.size,0,none⟩),u3,u4,u5,u6,u7,u8,u9,u10,u11,u12,u13,u14,u15,u16,u17,u18,u19,u20,u21,u22,u23,u24,u25,u26,u27,u28,u29,u30,u31,u32,u33,u34,u35,u36,u37,u38,u39,u40,u41,u42,u43],defers:=[] }) (fun _ _=>0) rfl ?first ?pass
  case first=>
   go_wp2_with fail;refine(HC0.out _).mono ?_;rintro e w1 ⟨rfl,f1⟩;have HA:=hid (HS.out.step f1);clear f1 HS;have c0:=HA.out.k.c0;have c1:=HA.out.k.c1;have c2:=HA.out.k.c2;have c3:=HA.out.k.c3;have g:∀k,w1.frozen? ⟨w.heap.size+1,k,none⟩=false:=fun k=>HA.out.k.g k
   go_wp2_with fail;refine(H0.out _).mono ?_;rintro e w2 ⟨rfl,f1⟩;have HB1:=hid (HA.out.put0 T f1);clear f1 c0 c1 c2 c3 g HA
   try clear w1
   have HS1:=HB1;clear HB1;have c0:=HS1.out.k.c0;have c1:=HS1.out.k.c1;have c2:=HS1.out.k.c2;have c3:=HS1.out.k.c3;have g:∀k,w2.frozen? ⟨w.heap.size+1,k,none⟩=false:=fun k=>HS1.out.k.g k
   go_wp2_with fail;refine(HC1.out _).mono ?_;rintro e w1 ⟨rfl,f1⟩;have HA:=hid (HS1.out.step f1);clear f1 HS1 c0 c1 c2 c3 g;have c0:=HA.out.k.c0;have c1:=HA.out.k.c1;have c2:=HA.out.k.c2;have c3:=HA.out.k.c3;have g:∀k,w1.frozen? ⟨w.heap.size+1,k,none⟩=false:=fun k=>HA.out.k.g k
   go_wp2_with fail;refine(H1.out _).mono ?_;rintro e w2 ⟨rfl,f1⟩;have HB1:=hid (HA.out.put2 R f1);clear f1 c0 c1 c2 c3 g HA
   try clear w1
   have HS2:=HB1;clear HB1;have c0:=HS2.out.k.c0;have c1:=HS2.out.k.c1;have c2:=HS2.out.k.c2;have c3:=HS2.out.k.c3;have g:∀k,w2.frozen? ⟨w.heap.size+1,k,none⟩=false:=fun k=>HS2.out.k.g k
   go_wp2_with fail;refine(HC2.out _).mono ?_;rintro e w1 ⟨rfl,f1⟩;have HA:=hid (HS2.out.step f1);clear f1 HS2 c0 c1 c2 c3 g;have c0:=HA.out.k.c0;have c1:=HA.out.k.c1;have c2:=HA.out.k.c2;have c3:=HA.out.k.c3;have g:∀k,w1.frozen? ⟨w.heap.size+1,k,none⟩=false:=fun k=>HA.out.k.g k
   go_wp2_with fail;refine(H2.out _).mono ?_;rintro e w2 ⟨rfl,f1⟩;have HB1:=hid (HA.out.put1 S f1);clear f1 c0 c1 c2 c3 g HA
   try clear w1
   have HS3:=HB1;clear HB1;have c0:=HS3.out.k.c0;have c1:=HS3.out.k.c1;have c2:=HS3.out.k.c2;have c3:=HS3.out.k.c3;have g:∀k,w2.frozen? ⟨w.heap.size+1,k,none⟩=false:=fun k=>HS3.out.k.g k
   go_wp2_with fail;refine(H3.out _).mono ?_;rintro e w2 ⟨rfl,f1⟩;have HB1:=hid (HS3.out.put3 N f1);clear f1 c0 c1 c2 c3 g HS3
   try clear w1
   have HS4:=HB1;clear HB1;have c0:=HS4.out.k.c0;have c1:=HS4.out.k.c1;have c2:=HS4.out.k.c2;have c3:=HS4.out.k.c3;have g:∀k,w2.frozen? ⟨w.heap.size+1,k,none⟩=false:=fun k=>HS4.out.k.g k
   go_wp2;go_step3;exact⟨rfl,⟨HS4.out.z,HS4.out.f⟩,_,_,_,_,_,_,_,_,_,_,_,_,_,_,_,_,_,_,_,_,_,_,_,_,_,_,_,_,_,_,_,_,_,_,_,_,_,_,_,_,_,_,_,rfl⟩
  case pass=>
   rintro a' w1 ⟨⟨z,f⟩,u0,u1,u3,u4,u5,u6,u7,u8,u9,u10,u11,u12,u13,u14,u15,u16,u17,u18,u19,u20,u21,u22,u23,u24,u25,u26,u27,u28,u29,u30,u31,u32,u33,u34,u35,u36,u37,u38,u39,u40,u41,u42,u43,rfl⟩;have z0:=z.c0;have z1:=z.c1;have z2:=z.c2;have z3:=z.c3;have gz:∀k,w1.frozen? ⟨w.heap.size,k,none⟩=false:=fun k=>z.g k
   have Hz:=hid z;have Hf:=hid f;clear z f;go_wp2;rw[ao];have q:=Hz.out.put 0 0 0 0;have q0:=q.c0;have q1:=q.c1;have q2:=q.c2;have q3:=q.c3;exact bodyPost_ret (v:=.tuple #[.agg #[.int .i64 0,.int .i64 0,.int .i64 0,.int .i64 0],.int .i64 5]) (by simp[results,Tryz.results132,go_sem,q0,q1,q2,q3]) rfl ⟨rfl,((((Fr.setCell Hf.out (p:=⟨w.heap.size,0,none⟩) (Nat.le_refl _) _).setCell (p:=⟨w.heap.size,1,none⟩) (Nat.le_refl _) _).setCell (p:=⟨w.heap.size,2,none⟩) (Nat.le_refl _) _).setCell (p:=⟨w.heap.size,3,none⟩) (Nat.le_refl _) _).new⟩
 have H0:=hid fun w=>still (bQ (h % 16) w)
 rw[decide_eq_true k0] at H0;have H1:=hid fun w=>still (cL (h / 16 % 8) w)
 rw[decide_eq_true k1] at H1;have H2:=hid fun w=>still (iD (h / 128 % 8192) w)
 rw[decide_eq_true k2] at H2;have H3:=hid fun w=>still (gp (h / 1048576) w)
 rw[decide_eq_true k3] at H3;have HU:=hid (ow (h:=h) ⟨k0,k2,k1,k3⟩);rw[HU.out.1,HU.out.2.1,HU.out.2.2.1,HU.out.2.2.2.1,HU.out.2.2.2.2];clear HU k0 k1 k2 k3;generalize h / 16 % 8=R at *;generalize h / 128 % 8192=S at *;generalize h / 1048576=N at *;generalize h % 16=T at *;generalize h / 16=h2 at *;generalize h / 128=h3 at *;go_enter Tryz.func132,Tryz.ntmps132;go_wp2_with fail;refine wp_scope_jumps 0 (fun _ _=>False) (fun _ _=>0) rfl ?first ?pass
 case first=>
  go_wp2_with fail;refine(HC0.out _).mono ?_;rintro e w1 ⟨rfl,f1⟩;have HA:=hid (HS.out.step f1);clear f1 HS;have c0:=HA.out.k.c0;have c1:=HA.out.k.c1;have c2:=HA.out.k.c2;have c3:=HA.out.k.c3;have g:∀k,w1.frozen? ⟨w.heap.size+1,k,none⟩=false:=fun k=>HA.out.k.g k
  go_wp2_with fail;refine(H0.out _).mono ?_;rintro e w2 ⟨rfl,f1⟩;have HB1:=hid (HA.out.put0 T f1);clear f1 c0 c1 c2 c3 g HA
  try clear w1
  have HS1:=HB1;clear HB1;have c0:=HS1.out.k.c0;have c1:=HS1.out.k.c1;have c2:=HS1.out.k.c2;have c3:=HS1.out.k.c3;have g:∀k,w2.frozen? ⟨w.heap.size+1,k,none⟩=false:=fun k=>HS1.out.k.g k
  go_wp2_with fail;refine(HC1.out _).mono ?_;rintro e w1 ⟨rfl,f1⟩;have HA:=hid (HS1.out.step f1);clear f1 HS1 c0 c1 c2 c3 g;have c0:=HA.out.k.c0;have c1:=HA.out.k.c1;have c2:=HA.out.k.c2;have c3:=HA.out.k.c3;have g:∀k,w1.frozen? ⟨w.heap.size+1,k,none⟩=false:=fun k=>HA.out.k.g k
  go_wp2_with fail;refine(H1.out _).mono ?_;rintro e w2 ⟨rfl,f1⟩;have HB1:=hid (HA.out.put2 R f1);clear f1 c0 c1 c2 c3 g HA
  try clear w1
  have HS2:=HB1;clear HB1;have c0:=HS2.out.k.c0;have c1:=HS2.out.k.c1;have c2:=HS2.out.k.c2;have c3:=HS2.out.k.c3;have g:∀k,w2.frozen? ⟨w.heap.size+1,k,none⟩=false:=fun k=>HS2.out.k.g k
  go_wp2_with fail;refine(HC2.out _).mono ?_;rintro e w1 ⟨rfl,f1⟩;have HA:=hid (HS2.out.step f1);clear f1 HS2 c0 c1 c2 c3 g;have c0:=HA.out.k.c0;have c1:=HA.out.k.c1;have c2:=HA.out.k.c2;have c3:=HA.out.k.c3;have g:∀k,w1.frozen? ⟨w.heap.size+1,k,none⟩=false:=fun k=>HA.out.k.g k
  go_wp2_with fail;refine(H2.out _).mono ?_;rintro e w2 ⟨rfl,f1⟩;have HB1:=hid (HA.out.put1 S f1);clear f1 c0 c1 c2 c3 g HA
  try clear w1
  have HS3:=HB1;clear HB1;have c0:=HS3.out.k.c0;have c1:=HS3.out.k.c1;have c2:=HS3.out.k.c2;have c3:=HS3.out.k.c3;have g:∀k,w2.frozen? ⟨w.heap.size+1,k,none⟩=false:=fun k=>HS3.out.k.g k
  go_wp2_with fail;refine(H3.out _).mono ?_;rintro e w2 ⟨rfl,f1⟩;have HB1:=hid (HS3.out.put3 N f1);clear f1 c0 c1 c2 c3 g HS3
  try clear w1
  have HS4:=HB1;clear HB1;have c0:=HS4.out.k.c0;have c1:=HS4.out.k.c1;have c2:=HS4.out.k.c2;have c3:=HS4.out.k.c3;have g:∀k,w2.frozen? ⟨w.heap.size+1,k,none⟩=false:=fun k=>HS4.out.k.g k
  have z0:=HS4.out.z.c0;have z1:=HS4.out.z.c1;have z2:=HS4.out.z.c2;have z3:=HS4.out.z.c3;have gz:∀k,w2.frozen? ⟨w.heap.size,k,none⟩=false:=fun k=>HS4.out.z.g k
  go_wp2;rw[ao];have q:=HS4.out.z.put T S R N;have q0:=q.c0;have q1:=q.c1;have q2:=q.c2;have q3:=q.c3;exact bodyPost_ret (v:=.tuple #[.agg #[.int .i64 T,.int .i64 S,.int .i64 R,.int .i64 N],.int .i64 0]) (by simp[results,Tryz.results132,go_sem,q0,q1,q2,q3]) rfl ⟨rfl,((((Fr.setCell HS4.out.f (p:=⟨w.heap.size,0,none⟩) (Nat.le_refl _) _).setCell (p:=⟨w.heap.size,1,none⟩) (Nat.le_refl _) _).setCell (p:=⟨w.heap.size,2,none⟩) (Nat.le_refl _) _).setCell (p:=⟨w.heap.size,3,none⟩) (Nat.le_refl _) _).new⟩
 case pass=>exact fun _ _ h=>h.elim
end Go.Proofs.YtndhbnhobhkmaaaGreatDoor.Ka
