/-
  What the calls of package table do: piece, Pieces.
  The library's functions that are called stand in this dump as the library's proof has them: numbers and bodies.
  What All of package table does: slices.Sorted(maps.Keys(m)), by the library's contracts.
  What the calls of package table answer, and what they leave, at the landed code.
-/
import Derived.Test.YtndhbnhobhkmaaaGreatDoorSpRow
import Derived.Shelf.SlIterI.Nil
import Derived.Shelf.SortM.Plain
import Derived.Shelf.SortM.SortNone
import Derived.Test.YtndhbnhobhkmaaaGreatDoorProg
set_option maxRecDepth 20000
set_option maxHeartbeats 4000000
namespace Go.Proofs.YtndhbnhobhkmaaaGreatDoor
open Go.RowKit
section
variable{w w0:World}{t:Nat}{Z:Nat→Prop}{T:Tb}{m1 m2:Option Nat}
theorem Gr3.cap_le{w0:World}{ad:Option Addr}{n cap:Nat}{L:List Sq}(h:Gr3 w w0 (.slice ad n cap) L):L.length≤cap:=by
 rcases h.row.2 with⟨e,e2⟩|⟨g,c,cur,e,_,_,h3,_⟩
 ·omega
 ·simp only[Value.slice.injEq] at e;omega
theorem uP(ok:TbOk T)(v:Int):(fF T v).getD (-1)=tbF T v:=(zF ok v).symm
theorem qx(c:Tw w t m1 m2)(o:Og w m1 (fF T) T.length)(ok:TbOk T){p r n:Int}(hp:0≤p∧p<6400)(hf:tbF T p<0):Calls Tryz.prog 158 #[.pointer (some ⟨t,0,none⟩),.complex .f64 (floatOfInt .f64 p) (floatOfInt .f64 r),.int .i64 n] w fun e w'=>e=.returned (.tuple #[.agg #[.int .i64 0,.int .i64 0,.bool false],.int .i64 4])∧Fr (fun _=>False) w w':=by
 have H1:=hid (sf (c.carry (S:=fun _=>False) ((Fr.refl _ w).alloc (.cells #[.int .i64 0,.int .i64 0,.bool false] 132)) id) (o.carry (S:=fun _=>False) ((Fr.refl _ w).alloc (.cells #[.int .i64 0,.int .i64 0,.bool false] 132)) fun _ _=>id) (k:=p) ⟨by omega,by omega⟩);rw[uP ok,(ok.eO hf).1] at H1;have v1:=Pt.bS _ p (iI p (by omega))
 change ∀w,(convert 121 3 (.float .f64 (floatOfInt .f64 p))).run Tryz.prog w=.ok (.int .i64 p) w at v1
 clear c o ok hf hp;go_enter Tryz.func158,Tryz.ntmps158;go_wp2_with fail;refine H1.out.mono ?_;rintro e w1 ⟨rfl,hw⟩;obtain rfl:=hw.symm;go_wp2;exact bodyPost_ret (v:=.tuple #[.agg #[.int .i64 0,.int .i64 0,.bool false],.int .i64 4]) (by simp[results,Tryz.results158,go_sem]) rfl ⟨rfl,(Fr.refl _ w).alloc _⟩
theorem zW(c:Tw w t m1 m2)(o:Og w m1 (fF T) T.length)(ok:TbOk T){p r n:Int}(hp:0≤p∧p<6400)(hr:0≤r∧r<512)(hf:¬tbF T p<0):Calls Tryz.prog 158 #[.pointer (some ⟨t,0,none⟩),.complex .f64 (floatOfInt .f64 p) (floatOfInt .f64 r),.int .i64 n] w fun e w'=>e=.returned (.tuple #[.agg #[.int .i64 (tbF T p * 512+r),.int .i64 (if n<512 - r then n else 512 - r),.bool false],.int .i64 0])∧Fr (fun _=>False) w w':=by
 have H1:=hid (sf (c.carry (S:=fun _=>False) ((Fr.refl _ w).alloc (.cells #[.int .i64 0,.int .i64 0,.bool false] 132)) id) (o.carry (S:=fun _=>False) ((Fr.refl _ w).alloc (.cells #[.int .i64 0,.int .i64 0,.bool false] 132)) fun _ _=>id) (k:=p) ⟨by omega,by omega⟩);rw[uP ok] at H1;have hq:=ok.dm p;have v1:=Pt.bS _ p (iI p (by omega))
 change ∀w,(convert 121 3 (.float .f64 (floatOfInt .f64 p))).run Tryz.prog w=.ok (.int .i64 p) w at v1
 have v2:=Pt.bS _ r (iI r (by omega))
 change ∀w,(convert 121 3 (.float .f64 (floatOfInt .f64 r))).run Tryz.prog w=.ok (.int .i64 r) w at v2
 clear c o ok;generalize tbF T p=q at *;have x1:IntKind.i64.wrap (q * 512)=q * 512:=by rw[IntKind.wrap_i64];omega
 have x2:IntKind.i64.wrap (q * 512+r)=q * 512+r:=by rw[IntKind.wrap_i64];omega
 have x3:IntKind.i64.wrap (512 - r)=512 - r:=by rw[IntKind.wrap_i64];omega
 have e2:∀ts t w,(Builtin.min_ ts t #[.int .i64 n,.int .i64 (512 - r)]).run Tryz.prog w=.ok (.int .i64 (if n<512 - r then n else 512 - r)) w:=by
  intro ts t w;rw[run_min_int2];congr 2;split<;>split<;>omega
 have hq1:(q== -1)=false:=by simp;omega
 generalize (if n<512 - r then n else 512 - r)=M at *;clear hp hr hf hq;go_enter Tryz.func158,Tryz.ntmps158;go_wp2_with fail;refine H1.out.mono ?_;rintro e w1 ⟨rfl,hw⟩;obtain rfl:=hw.symm;go_wp2;exact bodyPost_ret (v:=.tuple #[.agg #[.int .i64 (q * 512+r),.int .i64 M,.bool false],.int .i64 0]) (by simp[results,Tryz.results158,go_sem]) rfl ⟨rfl,(Fr.refl _ w).alloc _⟩
theorem qv(h:Tm t T w Z)(ok:TbOk T){a n:Int}(ha:I64 a)(hn:I64 n):Calls Tryz.prog 112 #[.pointer (some ⟨t,0,none⟩),.int .i64 a,.int .i64 n] w fun e w'=>∃ad cap,e=.returned (.tuple #[.slice ad (piL T a n).length cap,.int .i64 (piE T a n)])∧SpAt w' ad (piL T a n)∧(∀b off,ad=some ⟨b,off,none⟩→0<(piL T a n).length→w.heap.size≤b)∧Fr (fun _=>False) w w'∧(piL T a n).length≤cap:=by
 obtain⟨m1,m2,h⟩:=h;have HW:=hid (Pt.gm a n ha hn (Fr.refl _ w:Pt.K w w));by_cases hw:InWt a n
 case neg=>
  obtain⟨e1,e2⟩:=pi_out (T:=T) hw;rw[e1,e2];rw[decide_eq_false (show ¬InW a n from hw)] at HW;clear e1 e2 hw h ok ha hn;go_enter Tryz.func112,Tryz.ntmps112;go_wp2_with fail;refine HW.out.mono ?_;rintro e w1 ⟨rfl,hk⟩;have HK:=hid hk;clear hk HW;go_wp2;go_ret2;exact⟨none,0,by simp,SpAt.nil _ _,(fun b off e=>by cases e),HK.out,by simp⟩
 rw[decide_eq_true (show InW a n from hw)] at HW;have HAT:Hid (∀w0 y L x,Gr3 w w0 y L→Win x→Calls Tryz.prog 157 #[.int .i64 x] w0 fun e w'=>e=.returned (.tuple #[.complex .f64 (floatOfInt .f64 (x / 512)) (floatOfInt .f64 (x % 512)),.int .i64 0])∧Gr3 w w' y L):=fun w0 y L x hg hx=>(Pt.l_at hx (Fr.refl _ w0:Pt.K w0 w0)).mono fun _ _ ⟨he,f⟩=>⟨he,hg.kept f⟩
 have HT:Hid (∀w0 y L,Gr3 w w0 y L→Tw w0 t m1 m2∧Og w0 m1 (fF T) T.length):=fun w0 y L hg=>⟨h.c.carry hg.fr (by have:=h.c.lt;omega),h.o1.carry hg.fr fun B e=>by have:=h.lt B (h.z1 B e).1;omega⟩
 have HPN:Hid (∀w0 y L p r n,Gr3 w w0 y L→(0≤p∧p<6400)→tbF T p<0→Calls Tryz.prog 158 #[.pointer (some ⟨t,0,none⟩),.complex .f64 (floatOfInt .f64 p) (floatOfInt .f64 r),.int .i64 n] w0 fun e w'=>e=.returned (.tuple #[.agg #[.int .i64 0,.int .i64 0,.bool false],.int .i64 4])∧Gr3 w w' y L):=fun w0 y L p r n hg hp hf=>(qx (HT.out w0 y L hg).1 (HT.out w0 y L hg).2 ok hp hf).mono fun _ _ ⟨he,f⟩=>⟨he,hg.kept f⟩
 have HPY:Hid (∀w0 y L p r n,Gr3 w w0 y L→(0≤p∧p<6400)→(0≤r∧r<512)→¬tbF T p<0→Calls Tryz.prog 158 #[.pointer (some ⟨t,0,none⟩),.complex .f64 (floatOfInt .f64 p) (floatOfInt .f64 r),.int .i64 n] w0 fun e w'=>e=.returned (.tuple #[.agg #[.int .i64 (tbF T p * 512+r),.int .i64 (if n<512 - r then n else 512 - r),.bool false],.int .i64 0])∧Gr3 w w' y L):=fun w0 y L p r n hg hp hr hf=>(zW (HT.out w0 y L hg).1 (HT.out w0 y L hg).2 ok hp hr hf).mono fun _ _ ⟨he,f⟩=>⟨he,hg.kept f⟩
 have HOK:=hid ok;have HINW:=hid hw;obtain⟨N,rfl⟩:∃N:Nat,n=N:=⟨n.toNat,by omega⟩;obtain⟨h0,h1,h2,h3⟩:=hw;clear h ok HT ha hn;go_enter Tryz.func112,Tryz.ntmps112;go_wp2_with fail;refine HW.out.mono ?_;rintro e w1 ⟨rfl,hk⟩;have HG0:Hid (Gr3 w w1 (.slice none 0 0) []):=(Gr3.start w).kept hk;clear hk HW;go_wp2;go_loopw [1,2,8] (fun x n y wr=>∃(k:Nat) (L:List Sq),k≤N∧x=.int .i64 (a+k)∧n=.int .i64 ((N:Int) - k)∧Hid (pcs T a k=some L)∧(k=0∨(a+k) % 512=0∨k=N)∧Hid (Gr3 w wr y L)) (fun _ n _ _=>(intOf n).toNat)
 case atStart=>exact⟨0,[],by omega,by simp,by simp,rfl,.inl rfl,HG0⟩
 case round=>
  obtain⟨k,L,hk,rfl,rfl,HP,hmod,HG⟩:=hrel;have HPC:=hid (lz (by omega) k L HP.out);have hLl:L.length≤6400:=by
   rcases Nat.eq_zero_or_pos L.length with e|e
   ·omega
   ·have hj:=(HPC.out.all (L.length - 1) (by omega)).2.2.2.2;have:=(HOK.out.at_ _ (HOK.out.aP (by omega:¬tbF T (a / 512+((L.length - 1:Nat):Int))<0))).1;simp only at this;omega
  clear HPC HG0;obtain⟨ad,cap,rfl⟩:=HG.out.form;by_cases hlt:k<N
  ·have hwin:Win (a+k):=by omega
   have hpg:0≤(a+k) / 512∧(a+k) / 512<6400:=by omega
   have hrr:0≤(a+k) % 512∧(a+k) % 512<512:=by omega
   have hn0:decide ((N:Int) - k>0)=true:=by simp;omega
   have HA:=hid (HAT.out _ _ _ (a+k) HG.out hwin);by_cases hf:tbF T ((a+k) / 512)<0
   ·have hnone:pcs T a (N:Int).toNat=none:=fZ hf (by omega);have E:=hid (AF hnone);have HC:=hid fun w0 (hg:Gr3 w w0 (.slice ad L.length cap) L)=>HPN.out w0 _ L ((a+k) / 512) ((a+k) % 512) ((N:Int) - k) hg hpg hf
    clear hnone HPN HPY HAT hf hmod HP;generalize a+(k:Int)=i at *;generalize i / 512=pg at *;generalize i % 512=rr at *;go_wp2_with fail;refine HA.out.mono ?_;rintro e w2 ⟨rfl,h2⟩;have HG2:=hid h2;clear h2 HG HA;go_wp2_with fail;refine(HC.out _ HG2.out).mono ?_;rintro e w3 ⟨rfl,h3⟩;have HG3:=hid h3;clear h3 HC HG2;go_wp2;go_ret2;exact⟨none,0,by rw[E.out.1,E.out.2];simp,by rw[E.out.1];exact SpAt.nil _ _,(fun b off e=>by cases e),Fr.new (HG3.out.fr.alloc _),by rw[E.out.1];simp⟩
   have hfr:=HOK.out.dm ((a+k) / 512);obtain⟨M,hM,hM0,hM1,hM2⟩:∃M:Nat,(if(N:Int) - k<512 - (a+k) % 512 then(N:Int) - k else 512 - (a+k) % 512)=((M+1:Nat):Int)∧(a+k) % 512+((M+1:Nat):Int)≤512∧k+(M+1)≤N∧((a+((k+(M+1):Nat):Int)) % 512=0∨k+(M+1)=N):=by
    refine⟨((if(N:Int) - k<512 - (a+k) % 512 then(N:Int) - k else 512 - (a+k) % 512) - 1).toNat,?_⟩;split<;>omega
   have HP2:=hid (pf HP.out (by omega) hf M hM0);have HC:=hid fun w0 (hg:Gr3 w w0 (.slice ad L.length cap) L)=>HPY.out w0 _ L ((a+k) / 512) ((a+k) % 512) ((N:Int) - k) hg hpg hrr (by omega)
   rw[hM] at HC;have y1:IntKind.i64.wrap (a+k+((M+1:Nat):Int))=a+k+((M+1:Nat):Int):=by rw[IntKind.wrap_i64];omega
   have y2:IntKind.i64.wrap ((N:Int) - k - ((M+1:Nat):Int))=(N:Int) - k - ((M+1:Nat):Int):=by rw[IntKind.wrap_i64];omega
   have HE:Hid (a+k+((M+1:Nat):Int)=a+((k+(M+1):Nat):Int)∧(N:Int) - k - ((M+1:Nat):Int)=(N:Int) - ((k+(M+1):Nat):Int)∧k+(M+1)≤N∧(k+(M+1)=0∨(a+((k+(M+1):Nat):Int)) % 512=0∨k+(M+1)=N)∧((N:Int) - k - ((M+1:Nat):Int)).toNat<((N:Int) - k).toNat):=⟨by omega,by omega,by omega,by omega,by omega⟩;generalize hbb:k+(M+1)=k2 at *;clear hbb;clear HPN HPY HAT hmod HP hM hM0 hM1 hM2 hfr hrr hpg hwin hlt;generalize a+(k:Int)=i at *;generalize (N:Int) - k=nn at *;generalize tbF T (i / 512)=q at *;generalize i / 512=pg at *;generalize i % 512=rr at *;generalize ((M+1:Nat):Int)=m at *;go_wp2_with fail;refine HA.out.mono ?_;rintro e w2 ⟨rfl,h2⟩;have HG2:=hid h2;clear h2 HG HA;go_wp2_with fail;refine(HC.out _ HG2.out).mono ?_;rintro e w3 ⟨rfl,h3⟩;have hbx:∀k,Value.ownBlock (.slice ad L.length cap)=some k→k<w3.heap.size:=fun k e=>(h3.row.lt k e).2
   have HG3:=hid (h3.kept ((Fr.refl _ w3).alloc (.cells #[.int .i64 (q * 512+rr),.int .i64 m,.bool false] 132)));have HBX:Hid (∀w',Fr (fun k=>Value.ownBlock (.slice ad L.length cap)=some k) (w3.alloc (.cells #[.int .i64 (q * 512+rr),.int .i64 m,.bool false] 132)) w'→w'.cell? ⟨w3.heap.size,1,none⟩=some (.int .i64 m)):=fun w' f=>by
    rw[World.cell?_of_block (f.block w3.heap.size (by simp) fun e=>absurd (hbx _ e) (by omega))];simp only[World.cell?,heap_alloc_new];rfl
   clear h3 HC HG2 hbx;go_wp2_with (at_builtin;refine yW (x:=(q * 512+rr,m,false)) rfl (.tmp 40) (.tmp 42) rfl HG3.out rfl (by simp[Act.eval]) (by omega) ?_);intro w4 y4 hG4 hF4;obtain⟨ad4,cap4,rfl⟩:=hG4.form;have HG4:=hid hG4;have hcell:=HBX.out _ hF4;clear hG4 hF4 HBX HG3;go_wp2;go_roundw
   case rel=>exact⟨k2,_,HE.out.2.2.1,by rw[HE.out.1],by rw[HE.out.2.1],HP2,HE.out.2.2.2.1,HG4⟩
   case measure=>simp only[intOf];exact HE.out.2.2.2.2
  ·obtain rfl:k=N:=by omega
   have hn0:decide ((k:Int) - k>0)=false:=by simp
   have E:=hid (yY HINW.out (show pcs T a (k:Int).toNat=some L from HP.out));clear HPN HPY HAT hmod HP;go_wp2;go_ret2;exact⟨ad,cap,by rw[E.out.1,E.out.2];simp,by rw[E.out.1];exact HG.out.vU.1,by rw[E.out.1];exact HG.out.vU.2,Fr.new HG.out.fr,by rw[E.out.1];exact HG.out.cap_le⟩
end
end Go.Proofs.YtndhbnhobhkmaaaGreatDoor
namespace Go.Proofs
open Go.Shelf
def Tryz.iA:Go.Shelf.Ren:=⟨fun|7=>151|10=>208|n=>n,fun|23=>197|26=>3|3=>3|28=>92|0=>0|27=>91|33=>147|4=>4|n=>n,fun|n=>n⟩
theorem Tryz.Bs:Go.Proofs.SlLaysZI.n7 Tryz.prog Tryz.iA:={
 mixed:=by kernel_rfl
 f7:=⟨Tryz.f151.name,by decide,Tryz.func151.trans (congrArg some (by kernel_rfl))⟩
 f10:=⟨Tryz.f208.name,by decide,Tryz.func208.trans (congrArg some (by kernel_rfl))⟩
 t0:=Tryz.underlying0
 a0:=Tryz.isAgg0
 z0:=Tryz.sizeOf0
 v0:=Tryz.zeroValue0
 t4:=Tryz.underlying4
 a4:=Tryz.isAgg4
 z4:=Tryz.sizeOf4
 v4:=Tryz.zeroValue4
 t23:=Tryz.underlying197
 a23:=Tryz.isAgg197
 z23:=Tryz.sizeOf197
 v23:=Tryz.zeroValue197
 t26:=Tryz.underlying3
 a26:=Tryz.isAgg3
 z26:=Tryz.sizeOf3
 v26:=Tryz.zeroValue3
 t27:=Tryz.underlying91
 a27:=Tryz.isAgg91
 z27:=Tryz.sizeOf91
 v27:=Tryz.zeroValue91
 t28:=Tryz.underlying92
 a28:=Tryz.isAgg92
 z28:=Tryz.sizeOf92
 v28:=Tryz.zeroValue92
 t33:=Tryz.underlying147
 a33:=Tryz.isAgg147
 z33:=Tryz.sizeOf147
 v33:=Tryz.zeroValue147 }
def Tryz.gL:Go.Shelf.Ren:=⟨fun|6=>41|8=>76|9=>77|11=>118|13=>120|12=>119|23=>169|24=>170|14=>160|15=>161|16=>162|17=>163|18=>164|19=>165|20=>166|21=>167|22=>168|25=>211|26=>212|27=>213|28=>214|29=>215|30=>216|31=>236|n=>n,fun|26=>3|28=>92|24=>24|0=>0|3=>3|37=>66|48=>226|50=>37|4=>4|40=>219|39=>218|45=>223|5=>5|9=>9|51=>244|55=>248|57=>258|58=>259|33=>147|n=>n,fun|n=>n⟩
theorem Tryz.mX:Go.Proofs.SlLaysZI.n6 Tryz.prog Tryz.gL:={
 mixed:=by kernel_rfl
 f6:=⟨Tryz.f41.name,by decide,Tryz.func41.trans (congrArg some (by kernel_rfl))⟩
 f8:=⟨Tryz.f76.name,by decide,Tryz.func76.trans (congrArg some (by kernel_rfl))⟩
 f11:=⟨Tryz.f118.name,by decide,Tryz.func118.trans (congrArg some (by kernel_rfl))⟩
 t0:=Tryz.underlying0
 a0:=Tryz.isAgg0
 z0:=Tryz.sizeOf0
 v0:=Tryz.zeroValue0
 t24:=Tryz.underlying24
 a24:=Tryz.isAgg24
 z24:=Tryz.sizeOf24
 v24:=Tryz.zeroValue24
 t26:=Tryz.underlying3
 a26:=Tryz.isAgg3
 z26:=Tryz.sizeOf3
 v26:=Tryz.zeroValue3
 t28:=Tryz.underlying92
 a28:=Tryz.isAgg92
 z28:=Tryz.sizeOf92
 v28:=Tryz.zeroValue92
 i26:=by kernel_rfl }
def Tryz.sD:Go.Shelf.Ren:=⟨fun|5=>77|8=>120|7=>119|19=>169|20=>170|10=>160|11=>161|12=>162|13=>163|14=>164|15=>165|16=>166|17=>167|18=>168|30=>211|31=>212|32=>213|33=>214|34=>215|35=>216|40=>236|n=>n,fun|23=>24|25=>3|3=>3|32=>66|22=>24|0=>0|44=>226|46=>37|4=>4|36=>219|35=>218|41=>223|5=>5|9=>9|53=>244|57=>248|63=>258|64=>259|n=>n,fun|n=>n⟩
theorem Tryz.sortA:Go.Proofs.SlLaysM.n5 Tryz.prog Tryz.sD:={
 mixed:=by kernel_rfl
 f5:=⟨Tryz.f77.name,by decide,Tryz.func77.trans (congrArg some (by kernel_rfl))⟩
 f7:=⟨Tryz.f119.name,by decide,Tryz.func119.trans (congrArg some (by kernel_rfl))⟩
 f8:=Tryz.func120.trans (congrArg some (by kernel_rfl))
 f10:=⟨Tryz.f160.name,by decide,Tryz.func160.trans (congrArg some (by kernel_rfl))⟩
 f11:=⟨Tryz.f161.name,by decide,Tryz.func161.trans (congrArg some (by kernel_rfl))⟩
 f12:=⟨Tryz.f162.name,by decide,Tryz.func162.trans (congrArg some (by kernel_rfl))⟩
 f13:=⟨Tryz.f163.name,by decide,Tryz.func163.trans (congrArg some (by kernel_rfl))⟩
 f14:=⟨Tryz.f164.name,by decide,Tryz.func164.trans (congrArg some (by kernel_rfl))⟩
 f15:=⟨Tryz.f165.name,by decide,Tryz.func165.trans (congrArg some (by kernel_rfl))⟩
 f16:=⟨Tryz.f166.name,by decide,Tryz.func166.trans (congrArg some (by kernel_rfl))⟩
 f17:=⟨Tryz.f167.name,by decide,Tryz.func167.trans (congrArg some (by kernel_rfl))⟩
 f18:=⟨Tryz.f168.name,by decide,Tryz.func168.trans (congrArg some (by kernel_rfl))⟩
 f19:=Tryz.func169.trans (congrArg some (by kernel_rfl))
 f20:=Tryz.func170.trans (congrArg some (by kernel_rfl))
 f30:=⟨Tryz.f211.name,by decide,Tryz.func211.trans (congrArg some (by kernel_rfl))⟩
 f31:=Tryz.func212.trans (congrArg some (by kernel_rfl))
 f32:=Tryz.func213.trans (congrArg some (by kernel_rfl))
 f33:=⟨Tryz.f214.name,by decide,Tryz.func214.trans (congrArg some (by kernel_rfl))⟩
 f34:=⟨Tryz.f215.name,by decide,Tryz.func215.trans (congrArg some (by kernel_rfl))⟩
 f35:=⟨Tryz.f216.name,by decide,Tryz.func216.trans (congrArg some (by kernel_rfl))⟩
 f40:=⟨Tryz.f236.name,by decide,Tryz.func236.trans (congrArg some (by kernel_rfl))⟩
 t0:=Tryz.underlying0
 a0:=Tryz.isAgg0
 z0:=Tryz.sizeOf0
 v0:=Tryz.zeroValue0
 t3:=Tryz.underlying3
 a3:=Tryz.isAgg3
 z3:=Tryz.sizeOf3
 v3:=Tryz.zeroValue3
 t4:=Tryz.underlying4
 a4:=Tryz.isAgg4
 z4:=Tryz.sizeOf4
 v4:=Tryz.zeroValue4
 t5:=Tryz.underlying5
 a5:=Tryz.isAgg5
 z5:=Tryz.sizeOf5
 v5:=Tryz.zeroValue5
 t9:=Tryz.underlying9
 a9:=Tryz.isAgg9
 z9:=Tryz.sizeOf9
 v9:=Tryz.zeroValue9
 t22:=Tryz.underlying24
 a22:=Tryz.isAgg24
 z22:=Tryz.sizeOf24
 v22:=Tryz.zeroValue24
 t23:=Tryz.underlying24
 a23:=Tryz.isAgg24
 z23:=Tryz.sizeOf24
 v23:=Tryz.zeroValue24
 t25:=Tryz.underlying3
 a25:=Tryz.isAgg3
 z25:=Tryz.sizeOf3
 v25:=Tryz.zeroValue3
 t32:=Tryz.underlying66
 a32:=Tryz.isAgg66
 z32:=Tryz.sizeOf66
 v32:=Tryz.zeroValue66
 t35:=Tryz.underlying218
 a35:=Tryz.isAgg218
 z35:=Tryz.sizeOf218
 v35:=Tryz.zeroValue218
 t36:=Tryz.underlying219
 a36:=Tryz.isAgg219
 z36:=Tryz.sizeOf219
 v36:=Tryz.zeroValue219
 t41:=Tryz.underlying223
 a41:=Tryz.isAgg223
 z41:=Tryz.sizeOf223
 v41:=Tryz.zeroValue223
 t44:=Tryz.underlying226
 a44:=Tryz.isAgg226
 z44:=Tryz.sizeOf226
 v44:=Tryz.zeroValue226
 t46:=Tryz.underlying37
 a46:=Tryz.isAgg37
 z46:=Tryz.sizeOf37
 v46:=Tryz.zeroValue37
 t53:=Tryz.underlying244
 a53:=Tryz.isAgg244
 z53:=Tryz.sizeOf244
 v53:=Tryz.zeroValue244
 t57:=Tryz.underlying248
 a57:=Tryz.isAgg248
 z57:=Tryz.sizeOf248
 v57:=Tryz.zeroValue248
 t63:=Tryz.underlying258
 a63:=Tryz.isAgg258
 z63:=Tryz.sizeOf258
 v63:=Tryz.zeroValue258
 t64:=Tryz.underlying259
 a64:=Tryz.isAgg259
 z64:=Tryz.sizeOf259
 v64:=Tryz.zeroValue259 }
def Tryz.ma:Go.Shelf.Ren:=⟨fun|7=>42|10=>78|n=>n,fun|23=>72|26=>3|3=>81|28=>92|0=>0|27=>91|33=>147|4=>4|n=>n,fun|n=>n⟩
theorem Tryz.keysO:Go.Proofs.SlLaysZI.n7 Tryz.prog Tryz.ma:={
 mixed:=by kernel_rfl
 f7:=⟨Tryz.f42.name,by decide,Tryz.func42.trans (congrArg some (by kernel_rfl))⟩
 f10:=⟨Tryz.f78.name,by decide,Tryz.func78.trans (congrArg some (by kernel_rfl))⟩
 t0:=Tryz.underlying0
 a0:=Tryz.isAgg0
 z0:=Tryz.sizeOf0
 v0:=Tryz.zeroValue0
 t4:=Tryz.underlying4
 a4:=Tryz.isAgg4
 z4:=Tryz.sizeOf4
 v4:=Tryz.zeroValue4
 t23:=Tryz.underlying72
 a23:=Tryz.isAgg72
 z23:=Tryz.sizeOf72
 v23:=Tryz.zeroValue72
 t26:=Tryz.underlying3
 a26:=Tryz.isAgg3
 z26:=Tryz.sizeOf3
 v26:=Tryz.zeroValue3
 t27:=Tryz.underlying91
 a27:=Tryz.isAgg91
 z27:=Tryz.sizeOf91
 v27:=Tryz.zeroValue91
 t28:=Tryz.underlying92
 a28:=Tryz.isAgg92
 z28:=Tryz.sizeOf92
 v28:=Tryz.zeroValue92
 t33:=Tryz.underlying147
 a33:=Tryz.isAgg147
 z33:=Tryz.sizeOf147
 v33:=Tryz.zeroValue147 }
end Go.Proofs
namespace Go.Proofs.YtndhbnhobhkmaaaGreatDoor
open Go.RowKit Go.Maps Go.Sort Go.Shelf
theorem sC(m:Nat):AnyZI.SortsIn Tryz.prog Tryz.gL Fence.wide m:=
 ⟨fun blk off cap ss W hH hblk hsz=>callsIn_wide.2 (AnyM.slices_Sort_int Tryz.sortA blk off cap ss W hH hblk hsz),
  fun p cap W=>callsIn_wide.2 (AnyM.slices_Sort_int_none Tryz.sortA p cap W)⟩
theorem zq(mb:Option Nat)(W:World):CallsIn Fence.wide 5 Tryz.prog 151 #[.map mb] W fun e w'=>e=.returned (.func (.func 208) #[] #[.pointer (some ⟨W.heap.size,0,none⟩)])∧w'=W.alloc (.cells #[.map mb] 197):=AnyZI.keys_in Tryz.Bs Fence.wide 5 trivial rfl mb W
section
variable{w:World}{t:Nat}{T:Tb}{m1 m2:Option Nat}
theorem Bq{B n:Nat}(ok:TbOk T){D:DataW Unit}(h1:w.ownsMap Tryz.prog 3 (plainElem Tryz.prog 3) B n D)(h2:Di D (fF T) T.length):(T.map Prod.fst).Perm (intKeys D):=by
 have hc:CollectedI D (fun _=>false) (T.map Prod.fst):=by
  refine⟨List.pairwise_map.2 (ok.up.imp fun{x y} h=>by omega),fun x=> ?_⟩;rw[h2.1 x];constructor
  ·intro h;obtain⟨y,hy,rfl⟩:=List.mem_map.1 h;have:=(ju ok (v:=y.1) (p:=y.2)).2 hy;simp[this]
  ·rintro⟨h,_⟩;obtain⟨p,hp⟩:=Option.isSome_iff_exists.1 h;exact List.mem_map.2 ⟨_,(ju ok).1 hp,rfl⟩
 exact hc.perm h1 bg Tryz.underlying3 fun _=>rfl
theorem u_all(c:Tw w t m1 m2)(o:Og w m1 (fF T) T.length)(ok:TbOk T):Calls Tryz.prog 108 #[.pointer (some ⟨t,0,none⟩)] w fun e w'=>∃ad cap,e=.returned (.slice ad (T.map Prod.fst).length cap)∧az w' ad (T.map Prod.fst)∧(∀b off,ad=some ⟨b,off,none⟩→0<(T.map Prod.fst).length→w.heap.size≤b)∧Fr (fun _=>False) w w':=by
 have c0:=c.c0;have hlen:=Tb.few ok;refine(callsIn_wide (n:=6)).1 ?_;have hfK:Fence.wide.fn 151:=trivial;have hfS:Fence.wide.fn 41:=trivial;rcases o with⟨rfl,e1,e2⟩|⟨B,rfl,D,hown,hD⟩
 ·have eT:T=[]:=List.eq_nil_of_length_eq_zero e2;subst eT;have hseq:SeqGives Fence.wide 2 Tryz.prog 208 #[.pointer (some ⟨w.heap.size,0,none⟩)] encZ (fun ss:List Int=>ss=[]) 0 (w.alloc (.cells #[.map none] 197)):=
   AnyZI.keys_gives_nil (ρ:=Tryz.iA) { Tryz.Bs with } Fence.wide _ trivial rfl w.heap.size _ (by simp) (by simp)
  have cS:=AnyZI.sorted_in Tryz.mX Fence.wide 5 trivial trivial trivial trivial rfl (by omega) (sC _) (enters_of Tryz.func77 (by kernel_rfl) rfl) 208 #[.pointer (some ⟨w.heap.size,0,none⟩)] trivial (enters_of Tryz.func208 (by kernel_rfl) rfl) _ 0 (Nat.zero_le _) (by omega) _ hseq
  change CallsIn _ _ Tryz.prog 41 _ _ _ at cS
  have HS:=hid cS;clear cS hseq c ok hlen e1 e2;refine callsIn_of_wp Tryz.func108 rfl trivial ?_ rfl;simp only[Tryz.ntmps108,List.size_toArray,List.length_cons,List.length_nil,Nat.reduceAdd,Nat.reduceSub,Array.replicate_succ,Array.replicate_zero,List.push_toArray,List.append_toArray,List.nil_append,List.cons_append]
  gi_wp2_with (first
   |(gi_at_call 151;refine(zq _ _).mono ?_;rintro e w' ⟨rfl,rfl⟩)
   |(gi_at_call 41;refine HS.out.mono ?_;rintro e w' ⟨v,ss,rfl,rfl,hrow,hnil,hb⟩;obtain rfl:v=.slice none 0 0:=hnil.2 rfl))
  go_ret;exact⟨none,0,by simp,fun i hi=>by simp at hi,(fun b off e=>by cases e),Fr.trans ((Fr.refl _ w).alloc _) (Fr.nv hb)⟩
 ·have hbl:=hown.lt;have hsz:Maps.size D=T.length:=hD.2.2;have HP:=hid (Bq ok hown hD);have hseq:SeqGives Fence.wide 2 Tryz.prog 208 #[.pointer (some ⟨w.heap.size,0,none⟩)] encZ (fun ss=>ss.Perm (intKeys D)) (Maps.size D) (w.alloc (.cells #[.map (some B)] 197)):=
   AnyZI.keys_gives (ρ:=Tryz.iA) { Tryz.Bs with } Fence.wide _ trivial rfl (by omega) w.heap.size B T.length D _ (by simp) (by simp) (by
    obtain⟨es,clock,hb,Ft,hs,hD⟩:=hown;exact⟨es,clock,(Below.heap_alloc _ _ B hbl).trans hb,Ft,hs,hD⟩)
  have cS:=AnyZI.sorted_in Tryz.mX Fence.wide 5 trivial trivial trivial trivial rfl (by omega) (sC _) (enters_of Tryz.func77 (by kernel_rfl) rfl) 208 #[.pointer (some ⟨w.heap.size,0,none⟩)] trivial (enters_of Tryz.func208 (by kernel_rfl) rfl) _ _ (by unfold maxLen;omega) (by omega) _ hseq
  change CallsIn _ _ Tryz.prog 41 _ _ _ at cS
  have HS:=hid cS;have HOK:=hid ok;clear cS hseq c ok hlen hown hD hbl hsz;refine callsIn_of_wp Tryz.func108 rfl trivial ?_ rfl;simp only[Tryz.ntmps108,List.size_toArray,List.length_cons,List.length_nil,Nat.reduceAdd,Nat.reduceSub,Array.replicate_succ,Array.replicate_zero,List.push_toArray,List.append_toArray,List.nil_append,List.cons_append]
  gi_wp2_with (first
   |(gi_at_call 151;refine(zq _ _).mono ?_;rintro e w' ⟨rfl,rfl⟩)
   |(gi_at_call 41;refine HS.out.mono ?_;rintro e w' ⟨v,ss,rfl,hS,hrow,hnil,hb⟩))
  go_ret;have hs:=nM HOK.out (hS.trans HP.out.symm);have hl:ss.length=(T.map Prod.fst).length:=(hS.trans HP.out.symm).length_eq;rw[hs,hl] at hrow;have hrow2:w'.ownsRow w.heap.size 3 1 v (T.map Prod.fst).length (ic (T.map Prod.fst)):=ownsRow_base_a hrow (by simp);obtain⟨ad,cap,rfl,h1,h2⟩:=fW hrow2;exact⟨ad,cap,rfl,h1,fun b off e _=>h2 b off e,Fr.trans ((Fr.refl _ w).alloc _) (Fr.nv hb)⟩
end
end Go.Proofs.YtndhbnhobhkmaaaGreatDoor
namespace Go.Proofs.YtndhbnhobhkmaaaGreatDoor
open Go.RowKit
section
variable{w:World}{t:Nat}{Z:Nat→Prop}{T:Tb}
theorem Tm.kept{w':World}(h:Tm t T w Z)(f:Fr (fun _=>False) w w'):Tm t T w' Z:=(Tm.good t T).1 h f fun _ _=>id
theorem Tm.lt(h:Tm t T w Z):∀i,Z i→i<w.heap.size:=by obtain⟨m1,m2,h⟩:=h;exact h.lt
theorem yj(w:World):Calls Tryz.prog 95 #[] w fun e w'=>∃t Z,e=.returned (.pointer (some ⟨t,0,none⟩))∧Tm t [] w' Z∧Fr (fun _=>False) w w'∧∀i,Z i→w.heap.size≤i∧i<w'.heap.size:=by
 go_enter Tryz.func95,Tryz.ntmps95;go_wp2;go_ret;exact⟨w.heap.size,fun i=>i=w.heap.size,by simp,⟨none,none,heap_alloc_new w _,.inl ⟨rfl,fun _=>rfl,rfl⟩,.inl ⟨rfl,fun _=>rfl,rfl⟩,Iff.rfl,rfl,(fun B e=>by cases e),(fun B e=>by cases e),(fun B e=>by cases e),(fun i e=>by subst e;simp)⟩,(Fr.refl _ _).alloc _,fun i e=>by subst e;simp⟩
theorem eW(h:Tm t T w Z)(ok:TbOk T){v:Int}(hv:I64 v):Calls Tryz.prog 142 #[.pointer (some ⟨t,0,none⟩),.int .i64 v] w fun e w'=>e=.returned (.int .i64 (tbF T v))∧Fr (fun _=>False) w w':=by
 obtain⟨m1,m2,h⟩:=h;refine(sf h.c h.o1 hv).mono ?_;rintro e w' ⟨rfl,rfl⟩;exact⟨by rw[←zF ok],Fr.refl _ _⟩
theorem gu(h:Tm t T w Z)(ok:TbOk T){p:Int}(hp:I64 p):Calls Tryz.prog 203 #[.pointer (some ⟨t,0,none⟩),.int .i64 p] w fun e w'=>e=.returned (.int .i64 (tbH T p))∧Fr (fun _=>False) w w':=by
 obtain⟨m1,m2,h⟩:=h;refine(vH h.c h.o2 hp).mono ?_;rintro e w' ⟨rfl,rfl⟩;exact⟨by rw[←fH_get ok],Fr.refl _ _⟩
theorem c_all(h:Tm t T w Z)(ok:TbOk T):Calls Tryz.prog 108 #[.pointer (some ⟨t,0,none⟩)] w fun e w'=>∃ad cap,e=.returned (.slice ad (T.map Prod.fst).length cap)∧az w' ad (T.map Prod.fst)∧(∀b off,ad=some ⟨b,off,none⟩→0<(T.map Prod.fst).length→w.heap.size≤b)∧Fr (fun _=>False) w w':=by
 obtain⟨m1,m2,h⟩:=h;exact u_all h.c h.o1 ok
theorem rC(h:Tm t T w Z)(ok:TbOk T){a n:Int}(ha:I64 a)(hn:I64 n):Calls Tryz.prog 112 #[.pointer (some ⟨t,0,none⟩),.int .i64 a,.int .i64 n] w fun e w'=>∃ad cap,e=.returned (.tuple #[.slice ad (piL T a n).length cap,.int .i64 (piE T a n)])∧SpAt w' ad (piL T a n)∧(∀b off,ad=some ⟨b,off,none⟩→0<(piL T a n).length→w.heap.size≤b)∧Fr (fun _=>False) w w'∧(piL T a n).length≤cap:=qv h ok ha hn
theorem Ci(h:Tm t T w Z)(ok:TbOk T){v:Int}(hv:I64 v):Calls Tryz.prog 152 #[.pointer (some ⟨t,0,none⟩),.int .i64 v] w fun e w'=>e=.returned (.tuple #[.int .i64 (tbUV T v),.int .i64 (tbUE T v)])∧∃Z',Tm t (tbU T v) w' Z'∧Gw w w' Z Z':=by
 have H1:=hid (eW h ok hv);have hr:=ok.dm v;unfold tbUV tbUE;by_cases hf:tbF T v<0
 ·rw[if_pos hf,if_pos hf,vO ok hf];have e1:tbF T v= -1:=by omega
  have HR:Hid (∀w',Fr (fun _=>False) w w'→∃Z',Tm t T w' Z'∧Gw w w' Z Z'):=fun w' f=>⟨Z,h.kept f,Gw.same h.lt (f.mono fun _ _ e=>e.elim)⟩
  rw[e1] at H1;clear h ok hv hr hf e1;go_enter Tryz.func152,Tryz.ntmps152;go_wp2_with fail;refine H1.out.mono ?_;rintro e w1 ⟨rfl,hf1⟩;have HF:=hid hf1;clear hf1;go_wp2;go_ret2;exact⟨by simp,HR.out _ HF.out⟩
 ·rw[if_neg hf,if_neg hf];have H2:Hid (∀w0,Fr (fun _=>False) w w0→Calls Tryz.prog 204 #[.pointer (some ⟨t,0,none⟩),.int .i64 v,.int .i64 (tbF T v)] w0 fun e w'=>e=.returned (.tuple #[])∧∃Z',Tm t (tbU T v) w' Z'∧Gw w w' Z Z'):=fun w0 f=>(yK (h.kept f) ok hf).mono fun _ _ ⟨he,Z',h1,h2⟩=>⟨he,Z',h1,h2.ahead f⟩
  have hq1:(tbF T v== -1)=false:=by simp;omega
  clear h ok hv hr hf;generalize tbF T v=p at *;go_enter Tryz.func152,Tryz.ntmps152;go_wp2_with fail;refine H1.out.mono ?_;rintro e w1 ⟨rfl,hf1⟩;have HF:=hid hf1;clear hf1;go_wp2_with fail;refine(H2.out _ HF.out).mono ?_;rintro e w2 ⟨rfl,h2⟩;have HR:=hid h2;clear h2;go_wp2;go_ret2;exact⟨by simp,HR.out⟩
theorem vc(h:Tm t T w Z)(ok:TbOk T){v p:Int}(hv:I64 v)(hp:I64 p)(hs:¬SwOk T v p):Calls Tryz.prog 145 #[.pointer (some ⟨t,0,none⟩),.int .i64 v,.int .i64 p] w fun e w'=>e=.returned (.tuple #[.int .i64 0,.int .i64 (tbSE T v p)])∧Fr (fun _=>False) w w':=by
 have H1:=hid (eW h ok hv);have HP:Hid (∀w0,Calls Tryz.prog 202 #[.int .i64 p] w0 fun e w'=>e=.returned (.bool (decide (POk p)))∧w'=w0):=fun w0=>ox p w0
 have HH:Hid (∀w0,Fr (fun _=>False) w w0→Calls Tryz.prog 203 #[.pointer (some ⟨t,0,none⟩),.int .i64 p] w0 fun e w'=>e=.returned (.int .i64 (tbH T p))∧Fr (fun _=>False) w w'):=fun w0 f=>(gu (h.kept f) ok hp).mono fun _ _ ⟨he,f2⟩=>⟨he,f.trans f2⟩
 have r1:=ok.dm v;have r2:=ok.ky p;unfold tbSE;by_cases c1:POk p
 case neg=>
  rw[if_pos c1];rw[decide_eq_false c1] at HP;clear h ok hv hp hs HH r1 r2 c1;generalize tbF T v=y at *;go_enter Tryz.func145,Tryz.ntmps145;go_wp2_with fail;refine H1.out.mono ?_;rintro e w1 ⟨rfl,hf1⟩;have HF:=hid hf1;clear hf1;go_wp2_with fail;refine(HP.out _).mono ?_;rintro e w2 ⟨rfl,hw⟩;obtain rfl:=hw.symm;go_wp2;go_ret2;exact⟨by simp,HF.out⟩
 rw[if_neg (by simpa using c1)];rw[decide_eq_true c1] at HP;by_cases c2:tbF T v<0
 case pos=>
  rw[if_pos c2];have e1:tbF T v= -1:=by omega
  rw[e1] at H1;clear h ok hv hp hs HH r1 r2 c1 c2 e1;go_enter Tryz.func145,Tryz.ntmps145;go_wp2_with fail;refine H1.out.mono ?_;rintro e w1 ⟨rfl,hf1⟩;have HF:=hid hf1;clear hf1;go_wp2_with fail;refine(HP.out _).mono ?_;rintro e w2 ⟨rfl,hw⟩;obtain rfl:=hw.symm;go_wp2;go_ret2;exact⟨by simp,HF.out⟩
 rw[if_neg c2];have c3:¬tbH T p<0:=fun c3=>hs ⟨c1,c2,c3⟩
 rw[if_neg c3];have q1:(tbF T v== -1)=false:=by simp;omega
 have q2:(tbH T p != -1)=true:=by simp;omega
 clear h ok hv hp hs r1 r2 c1 c2 c3;generalize tbF T v=y at *;generalize tbH T p=z at *;go_enter Tryz.func145,Tryz.ntmps145;go_wp2_with fail;refine H1.out.mono ?_;rintro e w1 ⟨rfl,hf1⟩;have HF:=hid hf1;clear hf1;go_wp2_with fail;refine(HP.out _).mono ?_;rintro e w2 ⟨rfl,hw⟩;obtain rfl:=hw.symm;clear hw;go_wp2_with fail;refine(HH.out _ HF.out).mono ?_;rintro e w3 ⟨rfl,hf3⟩;have HF3:=hid hf3;clear hf3;go_wp2;go_ret2;exact⟨by simp,HF3.out⟩
theorem rA(h:Tm t T w Z)(ok:TbOk T){v p:Int}(hv:I64 v)(hp:I64 p)(hs:SwOk T v p):Calls Tryz.prog 145 #[.pointer (some ⟨t,0,none⟩),.int .i64 v,.int .i64 p] w fun e w'=>e=.returned (.tuple #[.int .i64 (tbF T v),.int .i64 0])∧∃Z',Tm t (tbW T v p) w' Z'∧Gw w w' Z Z':=by
 have H1:=hid (eW h ok hv);have HP:Hid (∀w0,Calls Tryz.prog 202 #[.int .i64 p] w0 fun e w'=>e=.returned (.bool (decide (POk p)))∧w'=w0):=fun w0=>ox p w0
 have HH:Hid (∀w0,Fr (fun _=>False) w w0→Calls Tryz.prog 203 #[.pointer (some ⟨t,0,none⟩),.int .i64 p] w0 fun e w'=>e=.returned (.int .i64 (tbH T p))∧Fr (fun _=>False) w w'):=fun w0 f=>(gu (h.kept f) ok hp).mono fun _ _ ⟨he,f2⟩=>⟨he,f.trans f2⟩
 have H2:Hid (∀w0,Fr (fun _=>False) w w0→Calls Tryz.prog 204 #[.pointer (some ⟨t,0,none⟩),.int .i64 v,.int .i64 (tbF T v)] w0 fun e w'=>e=.returned (.tuple #[])∧∃Z',Tm t (tbU T v) w' Z'∧Gw w w' Z Z'):=fun w0 f=>(yK (h.kept f) ok hs.2.1).mono fun _ _ ⟨he,Z',h1,h2⟩=>⟨he,Z',h1,h2.ahead f⟩
 have r1:=ok.dm v;have r2:=ok.ky p;have hm:=ok.aP hs.2.1;have hvo:=(ok.at_ _ hm).1;simp only at hvo;have n1:tbF (tbU T v) v<0:=by
  rcases kV (v:=v) (tbU T v) with⟨e,_⟩|e
  ·omega
  ·exact absurd rfl ((kj.1 e).2)
 have n2:tbH (tbU T v) p<0:=by
  rcases kU (p:=p) (tbU T v) with⟨e,_⟩|e
  ·omega
  ·exact absurd rfl ((ok.mw hs.2.2).2 _ (kj.1 e).1)
 have H3:Hid (∀w0 Z0,Tm t (tbU T v) w0 Z0→Gw w w0 Z Z0→Calls Tryz.prog 205 #[.pointer (some ⟨t,0,none⟩),.int .i64 v,.int .i64 p] w0 fun e w'=>e=.returned (.tuple #[])∧∃Z',Tm t (tbW T v p) w' Z'∧Gw w w' Z Z'):=fun w0 Z0 h0 g0=>(yL h0 (ok.vG v) hvo hs.1 n1 n2).mono fun _ _ ⟨he,Z',h1,h2⟩=>⟨he,Z',by rw[←sk ok hs.2.1];exact h1,g0.trans h2⟩
 rw[decide_eq_true hs.1] at HP;have q1:(tbF T v== -1)=false:=by simp;omega
 have q2:tbH T p= -1:=by omega
 rw[q2] at HH;clear h ok hv hp r1 r2 hm hvo n1 n2 hs q2;generalize tbF T v=y at *;go_enter Tryz.func145,Tryz.ntmps145;go_wp2_with fail;refine H1.out.mono ?_;rintro e w1 ⟨rfl,hf1⟩;have HF:=hid hf1;clear hf1;go_wp2_with fail;refine(HP.out _).mono ?_;rintro e w2 ⟨rfl,hw⟩;obtain rfl:=hw.symm;clear hw;go_wp2_with fail;refine(HH.out _ HF.out).mono ?_;rintro e w3 ⟨rfl,hf3⟩;have HF3:=hid hf3;clear hf3;go_wp2_with fail;refine(H2.out _ HF3.out).mono ?_;rintro e w4 ⟨rfl,Z4,h4,g4⟩;have HG4:=hid (And.intro h4 g4);clear h4 g4;go_wp2_with fail;refine(H3.out _ _ HG4.out.1 HG4.out.2).mono ?_;rintro e w5 ⟨rfl,h5⟩;have HR:=hid h5;clear h5;go_wp2;go_ret2;exact⟨by simp,HR.out⟩
theorem c_swap(h:Tm t T w Z)(ok:TbOk T){v p:Int}(hv:I64 v)(hp:I64 p):Calls Tryz.prog 145 #[.pointer (some ⟨t,0,none⟩),.int .i64 v,.int .i64 p] w fun e w'=>e=.returned (.tuple #[.int .i64 (tbSV T v p),.int .i64 (tbSE T v p)])∧∃Z',Tm t (tbS T v p) w' Z'∧Gw w w' Z Z':=by
 by_cases hs:SwOk T v p
 ·have e1:tbSV T v p=tbF T v:=if_pos hs;have e2:tbSE T v p=0:=by unfold tbSE;rw[if_neg (by simpa using hs.1),if_neg hs.2.1,if_pos hs.2.2]
  have e3:tbS T v p=tbW T v p:=if_pos hs;rw[e1,e2,e3];exact rA h ok hv hp hs
 ·have e1:tbSV T v p=0:=if_neg hs;have e3:tbS T v p=T:=if_neg hs;rw[e1,e3];exact(vc h ok hv hp hs).mono fun _ _ ⟨he,f⟩=>⟨he,Z,h.kept f,Gw.same h.lt (f.mono fun _ _ e=>e.elim)⟩
theorem yk(h:Tm t T w Z)(ok:TbOk T){v p:Int}(hv:I64 v)(hp:I64 p)(hs:¬((VOk v∧POk p)∧tbF T v<0∧tbH T p<0)):Calls Tryz.prog 237 #[.pointer (some ⟨t,0,none⟩),.int .i64 v,.int .i64 p] w fun e w'=>e=.returned (.int .i64 (tbME T v p))∧Fr (fun _=>False) w w':=by
 have HL:=hid (rZ (v:=v) (Fr.refl _ w:Pt.K w w));have HP:Hid (∀w0,Calls Tryz.prog 202 #[.int .i64 p] w0 fun e w'=>e=.returned (.bool (decide (POk p)))∧w'=w0):=fun w0=>ox p w0
 have H1:Hid (∀w0,Fr (fun _=>False) w w0→Calls Tryz.prog 142 #[.pointer (some ⟨t,0,none⟩),.int .i64 v] w0 fun e w'=>e=.returned (.int .i64 (tbF T v))∧Fr (fun _=>False) w w'):=fun w0 f=>(eW (h.kept f) ok hv).mono fun _ _ ⟨he,f2⟩=>⟨he,f.trans f2⟩
 have HH:Hid (∀w0,Fr (fun _=>False) w w0→Calls Tryz.prog 203 #[.pointer (some ⟨t,0,none⟩),.int .i64 p] w0 fun e w'=>e=.returned (.int .i64 (tbH T p))∧Fr (fun _=>False) w w'):=fun w0 f=>(gu (h.kept f) ok hp).mono fun _ _ ⟨he,f2⟩=>⟨he,f.trans f2⟩
 have r1:=ok.dm v;have r2:=ok.ky p;unfold tbME;by_cases c0:VOk v
 case neg=>
  rw[if_neg fun e=>c0 e.1];rw[decide_eq_false c0] at HL;clear h ok hv hp hs HH H1 HP r1 r2 c0;go_enter Tryz.func237,Tryz.ntmps237;go_wp2_with fail;refine HL.out.mono ?_;rintro e w1 ⟨rfl,hf1⟩;have HF:=hid hf1;clear hf1;go_wp2;go_ret;exact⟨by simp,HF.out⟩
 rw[decide_eq_true c0] at HL;by_cases c1:POk p
 case neg=>
  rw[if_neg fun e=>c1 e.2];rw[decide_eq_false c1] at HP;clear h ok hv hp hs HH H1 r1 r2 c0 c1;go_enter Tryz.func237,Tryz.ntmps237;go_wp2_with fail;refine HL.out.mono ?_;rintro e w1 ⟨rfl,hf1⟩;have HF:=hid hf1;clear hf1;go_wp2_with fail;refine(HP.out _).mono ?_;rintro e w2 ⟨rfl,hw⟩;obtain rfl:=hw.symm;go_wp2;go_ret;exact⟨by simp,HF.out⟩
 rw[decide_eq_true c1] at HP;rw[if_pos ⟨c0,c1⟩];have hs2:¬(tbF T v<0∧tbH T p<0):=fun e=>hs ⟨⟨c0,c1⟩,e⟩
 rw[if_neg hs2];by_cases c2:tbF T v<0
 ·have c3:¬tbH T p<0:=fun c3=>hs2 ⟨c2,c3⟩
  have q1:tbF T v= -1:=by omega
  have q2:(tbH T p != -1)=true:=by simp;omega
  rw[q1] at H1;clear h ok hv hp hs r1 r2 c0 c1 c2 c3 hs2 q1;generalize tbH T p=z at *;go_enter Tryz.func237,Tryz.ntmps237;go_wp2_with fail;refine HL.out.mono ?_;rintro e w1 ⟨rfl,hf1⟩;have HF:=hid hf1;clear hf1;go_wp2_with fail;refine(HP.out _).mono ?_;rintro e w2 ⟨rfl,hw⟩;obtain rfl:=hw.symm;clear hw;go_wp2_with fail;refine(H1.out _ HF.out).mono ?_;rintro e w3 ⟨rfl,hf3⟩;have HF3:=hid hf3;clear hf3;go_wp2_with fail;refine(HH.out _ HF3.out).mono ?_;rintro e w4 ⟨rfl,hf4⟩;have HF4:=hid hf4;clear hf4;go_wp2;go_ret;exact⟨by simp,HF4.out⟩
 ·have q1:(tbF T v != -1)=true:=by simp;omega
  clear h ok hv hp hs r1 r2 c0 c1 c2 hs2;generalize tbF T v=y at *;go_enter Tryz.func237,Tryz.ntmps237;go_wp2_with fail;refine HL.out.mono ?_;rintro e w1 ⟨rfl,hf1⟩;have HF:=hid hf1;clear hf1;go_wp2_with fail;refine(HP.out _).mono ?_;rintro e w2 ⟨rfl,hw⟩;obtain rfl:=hw.symm;clear hw;go_wp2_with fail;refine(H1.out _ HF.out).mono ?_;rintro e w3 ⟨rfl,hf3⟩;have HF3:=hid hf3;clear hf3;go_wp2;go_ret;exact⟨by simp,HF3.out⟩
theorem vf(h:Tm t T w Z)(ok:TbOk T){v p:Int}(hv:I64 v)(hp:I64 p)(hs:(VOk v∧POk p)∧tbF T v<0∧tbH T p<0):Calls Tryz.prog 237 #[.pointer (some ⟨t,0,none⟩),.int .i64 v,.int .i64 p] w fun e w'=>e=.returned (.int .i64 0)∧∃Z',Tm t (tbI T v p) w' Z'∧Gw w w' Z Z':=by
 have HL:=hid (rZ (v:=v) (Fr.refl _ w:Pt.K w w));have HP:Hid (∀w0,Calls Tryz.prog 202 #[.int .i64 p] w0 fun e w'=>e=.returned (.bool (decide (POk p)))∧w'=w0):=fun w0=>ox p w0
 have H1:Hid (∀w0,Fr (fun _=>False) w w0→Calls Tryz.prog 142 #[.pointer (some ⟨t,0,none⟩),.int .i64 v] w0 fun e w'=>e=.returned (.int .i64 (tbF T v))∧Fr (fun _=>False) w w'):=fun w0 f=>(eW (h.kept f) ok hv).mono fun _ _ ⟨he,f2⟩=>⟨he,f.trans f2⟩
 have HH:Hid (∀w0,Fr (fun _=>False) w w0→Calls Tryz.prog 203 #[.pointer (some ⟨t,0,none⟩),.int .i64 p] w0 fun e w'=>e=.returned (.int .i64 (tbH T p))∧Fr (fun _=>False) w w'):=fun w0 f=>(gu (h.kept f) ok hp).mono fun _ _ ⟨he,f2⟩=>⟨he,f.trans f2⟩
 have HJ:Hid (∀w0,Fr (fun _=>False) w w0→Calls Tryz.prog 205 #[.pointer (some ⟨t,0,none⟩),.int .i64 v,.int .i64 p] w0 fun e w'=>e=.returned (.tuple #[])∧∃Z',Tm t (tbI T v p) w' Z'∧Gw w w' Z Z'):=fun w0 f=>(yL (h.kept f) ok hs.1.1 hs.1.2 hs.2.1 hs.2.2).mono fun _ _ ⟨he,Z',h1,h2⟩=>⟨he,Z',h1,h2.ahead f⟩
 have r1:=ok.dm v;have r2:=ok.ky p;rw[decide_eq_true hs.1.1] at HL;rw[decide_eq_true hs.1.2] at HP;have q1:tbF T v= -1:=by omega
 have q2:tbH T p= -1:=by omega
 rw[q1] at H1;rw[q2] at HH;clear h ok hv hp hs r1 r2 q1 q2;go_enter Tryz.func237,Tryz.ntmps237;go_wp2_with fail;refine HL.out.mono ?_;rintro e w1 ⟨rfl,hf1⟩;have HF:=hid hf1;clear hf1;go_wp2_with fail;refine(HP.out _).mono ?_;rintro e w2 ⟨rfl,hw⟩;obtain rfl:=hw.symm;clear hw;go_wp2_with fail;refine(H1.out _ HF.out).mono ?_;rintro e w3 ⟨rfl,hf3⟩;have HF3:=hid hf3;clear hf3;go_wp2_with fail;refine(HH.out _ HF3.out).mono ?_;rintro e w4 ⟨rfl,hf4⟩;have HF4:=hid hf4;clear hf4;go_wp2_with fail;refine(HJ.out _ HF4.out).mono ?_;rintro e w5 ⟨rfl,h5⟩;have HR:=hid h5;clear h5;go_wp2;go_ret;exact⟨by simp,HR.out⟩
theorem c_map(h:Tm t T w Z)(ok:TbOk T){v p:Int}(hv:I64 v)(hp:I64 p):Calls Tryz.prog 237 #[.pointer (some ⟨t,0,none⟩),.int .i64 v,.int .i64 p] w fun e w'=>e=.returned (.int .i64 (tbME T v p))∧∃Z',Tm t (tbM T v p) w' Z'∧Gw w w' Z Z':=by
 by_cases hs:(VOk v∧POk p)∧tbF T v<0∧tbH T p<0
 ·have e2:tbME T v p=0:=by unfold tbME;rw[if_pos hs.1,if_pos hs.2]
  have e3:tbM T v p=tbI T v p:=if_pos hs;rw[e2,e3];exact vf h ok hv hp hs
 ·have e3:tbM T v p=T:=if_neg hs;rw[e3];exact(yk h ok hv hp hs).mono fun _ _ ⟨he,f⟩=>⟨he,Z,h.kept f,Gw.same h.lt (f.mono fun _ _ e=>e.elim)⟩
end
end Go.Proofs.YtndhbnhobhkmaaaGreatDoor
