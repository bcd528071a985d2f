/-
  Calls of a tenant as they come in; the laws' own 'long'.
  Numbers that came in, laid anew: append([]int{}, l...).
  The laws' own 'made': a tenant of a new arena.
  A tenant that keeps its word: each object is a block that is had, charged what it costs; what each call leaves.
  What each call leaves of a tenant that keeps its word: mathematics.
-/
import Derived.Test.YtndhbnhobhkmaaaGreatDoorTnAwake
set_option maxRecDepth 20000
set_option maxHeartbeats 2000000
namespace Go.Proofs.YtndhbnhobhkmaaaGreatDoor
open Go.RowKit
open An
theorem min_is(P:Program)(x y m:Int)(h:m=min x y):∀ts t w,(Builtin.min_ ts t #[.int .i64 x,.int .i64 y]).run P w=.ok (.int .i64 m) w:=by
 intro ts t w;rw[run_min_int2,show(if y<x then y else x)=m by rw[h];split<;>omega]
structure O18 where
 kd:Int
 n:Int
 m:Int
 pk:Int
 tu:Int
 d:ByteArray
 ad:Option Addr
 cap:Nat
 W:List Int
def O18.cs(o:O18):Array Value:=#[.int .i64 o.kd,.int .i64 o.n,.int .i64 o.m,.int .i64 o.pk,.int .u64 o.tu,.string o.d,.slice o.ad o.W.length o.cap]
structure mQ(w:World)(o:O18):Prop where
 kd:I64 o.kd
 n:I64 o.n
 m:I64 o.m
 pk:I64 o.pk
 tu:0≤o.tu∧o.tu≤18446744073709551615
 d:o.d.size≤maxLen
 W:aA w o.ad o.W
 lW:o.W.length≤17592186044416
theorem mQ.fr{w w':World}{o:O18}(h:mQ w o)(f:Fr (fun _=>False) w w'):mQ w' o:=⟨h.kd,h.n,h.m,h.pk,h.tu,h.d,h.W.fr f,h.lW⟩
def OpsT(w:World)(ad:Option Addr)(l:List O18):Prop:=∀i (h:i<l.length),∃b off,ad=some ⟨b,off,none⟩∧b<w.heap.size∧w.cell? ⟨b,off+i * 7,none⟩=some (.int .i64 l[i].kd)∧w.cell? ⟨b,off+i * 7+1,none⟩=some (.int .i64 l[i].n)∧w.cell? ⟨b,off+i * 7+2,none⟩=some (.int .i64 l[i].m)∧w.cell? ⟨b,off+i * 7+3,none⟩=some (.int .i64 l[i].pk)∧w.cell? ⟨b,off+i * 7+4,none⟩=some (.int .u64 l[i].tu)∧w.cell? ⟨b,off+i * 7+5,none⟩=some (.string l[i].d)∧w.cell? ⟨b,off+i * 7+6,none⟩=some (.slice l[i].ad l[i].W.length l[i].cap)∧mQ w l[i]
theorem OpsT.fr{w w':World}{ad:Option Addr}{l:List O18}(h:OpsT w ad l)(hf:Fr (fun _=>False) w w'):OpsT w' ad l:=fun i hi=>by
 obtain⟨b,off,h1,h2,h3,h4,h5,h6,h7,h8,h9,h10⟩:=h i hi;have k:∀j,w'.cell? ⟨b,j,none⟩=w.cell? ⟨b,j,none⟩:=fun j=>World.cell?_of_block (hf.block b h2 (fun h=>h))
 exact⟨b,off,h1,by have:=hf.size;omega,(k _).trans h3,(k _).trans h4,(k _).trans h5,(k _).trans h6,(k _).trans h7,(k _).trans h8,(k _).trans h9,h10.fr hf⟩
structure C18 where
 P:Int
 K:Int
 q:Int
 id:Int
 se:Int
 ad:Option Addr
 cap:Nat
 W:List Int
def C18.cs(c:C18):Array Value:=#[.int .i64 c.P,.int .i64 c.K,.int .i64 c.q,.int .i64 c.id,.int .i64 c.se,.slice c.ad c.W.length c.cap]
structure CfgT(w:World)(c:C18):Prop where
 p:I64 c.P
 k:I64 c.K
 q:I64 c.q
 id:I64 c.id
 se:I64 c.se
 W:aA w c.ad c.W
 lW:c.W.length≤17592186044416
theorem CfgT.fr{w w':World}{c:C18}(h:CfgT w c)(f:Fr (fun _=>False) w w'):CfgT w' c:=⟨h.p,h.k,h.q,h.id,h.se,h.W.fr f,h.lW⟩
structure vu(c:C18)(l:List O18):Prop where
 win:l≠[]→c.W.length≤2000
 len:l.length≤150
 ops:∀i (hi:i<l.length),l[i].W.length≤2000∧l[i].d.size≤40000
 P:c.P≤512
def LongR(c:C18)(l:List O18)(e:Ending):Prop:=∃b:Bool,e=.returned (.bool b)∧(b=false→vu c l)
theorem wX{w:World}{ad:Option Addr}{cap:Nat}{l:List O18}{c:C18}(h:OpsT w ad l)(hc:CfgT w c)(hmax:l.length≤maxLen):Calls Tryz.prog 9 #[.agg c.cs,.slice ad l.length cap] w fun e w'=>LongR c l e∧Fr (fun _=>False) w w':=by
 have HO:=hid h;have la:=hc.lW;obtain⟨p1,p2⟩:=hc.p;clear h hc;unfold maxLen at hmax;unfold C18.cs;obtain⟨P,K,q,id,se,ad0,cap0,W⟩:=c;simp only at la p1 p2 ⊢;have HL:Hid ((l≠[]→W.length≤2000)→(∀i (hi:i<l.length),l[i].W.length≤2000∧l[i].d.size≤40000)→l.length≤150→P≤512→vu ⟨P,K,q,id,se,ad0,cap0,W⟩ l):=fun a b c d=>⟨a,c,b,d⟩
 generalize W.length=nA at *;go_enter Tryz.func9,Tryz.ntmps9;have HB:Hid (∀wr,Fr (fun _=>False) (w.alloc (.cells #[.int .i64 P,.int .i64 K,.int .i64 q,.int .i64 id,.int .i64 se,.slice ad0 nA cap0] 26)) wr→wr.cell? ⟨w.heap.size,0,none⟩=some (.int .i64 P)):=fun wr f=>by
  rw[World.cell?_of_block (f.block w.heap.size (by simp) fun h=>h)];unfold World.cell?;rw[heap_alloc_new];rfl
 have HF0:Hid (Fr (fun _=>False) (w.alloc (.cells #[.int .i64 P,.int .i64 K,.int .i64 q,.int .i64 id,.int .i64 se,.slice ad0 nA cap0] 26)) (w.alloc (.cells #[.int .i64 P,.int .i64 K,.int .i64 q,.int .i64 id,.int .i64 se,.slice ad0 nA cap0] 26))):=Fr.refl _ _;have HW:Hid (∀wr,Fr (fun _=>False) (w.alloc (.cells #[.int .i64 P,.int .i64 K,.int .i64 q,.int .i64 id,.int .i64 se,.slice ad0 nA cap0] 26)) wr→Fr (fun _=>False) w wr):=fun wr f=>Fr.trans ((Fr.refl _ _).alloc _) f
 go_wp2;generalize w.alloc (.cells #[.int .i64 P,.int .i64 K,.int .i64 q,.int .i64 id,.int .i64 se,.slice ad0 nA cap0] 26)=w0 at *;go_loopw [5,13] (fun n i wr=>∃(j N:Nat),j≤l.length∧i=.int .i64 j∧n=.int .i64 N∧N≤17592186044416+2000 * j∧Hid (nA≤N∧(0<j→N≤2000)∧∀k (hk:k<l.length),k<j→l[k].W.length≤2000∧l[k].d.size≤40000)∧Hid (Fr (fun _=>False) w0 wr)) (fun _ i _=>l.length - (intOf i).toNat)
 case atStart=>exact⟨0,nA,by omega,rfl,by simp,by omega,⟨by omega,fun e=>by omega,fun k _ hk=>by omega⟩,HF0⟩
 case round=>
  obtain⟨j,N,hj,rfl,rfl,hN,HK,HF⟩:=hrel;have hc0:=HB.out _ HF.out;by_cases hlt:j<l.length
  ·obtain⟨bb,off,rfl,hbb,hc1,hc2,hc3,hc4,hc5,hc6,hc7,hR⟩:=HO.out.fr (HW.out _ HF.out) j hlt;have hwl:=hR.lW;have hdl:=hR.d;clear hR;generalize hk:l[j]=o at hc1 hc2 hc3 hc4 hc5 hc6 hc7 hwl hdl;obtain⟨kd,n,mm,pk,tu,ds,oad,ocap,oW⟩:=o;simp only at hc1 hc2 hc3 hc4 hc5 hc6 hc7 hwl hdl;unfold maxLen at hdl;have HS:Hid (l[j].W.length=oW.length∧l[j].d.size=ds.size):=by rw[hk];exact⟨rfl,rfl⟩
   have HF2:=hid (HF.out.alloc (.cells #[.int .i64 kd,.int .i64 n,.int .i64 mm,.int .i64 pk,.int .u64 tu,.string ds,.slice oad oW.length ocap] 39));clear hk HF hc0;generalize oW.length=m at *;obtain⟨u,hu⟩:∃u:Nat,u=ds.size / 16:=⟨_,rfl⟩;obtain⟨v,hv⟩:∃v:Nat,v=min u 1048576:=⟨_,rfl⟩;have d0:((ds.size:Nat):Int).tdiv 16=(u:Int):=by rw[Int.tdiv_eq_ediv_of_nonneg (by omega)];omega
   have d1:=min_is Tryz.prog (u:Int) 1048576 v (by omega);have r0:IntKind.i64.wrap (u:Int)=u:=by rw[IntKind.wrap_i64];omega
   have HV:=hid (And.intro hu hv);have hv2:v≤1048576:=by omega
   have r1:IntKind.i64.wrap (4+(m:Int))=4+m:=by rw[IntKind.wrap_i64];omega
   have r3:IntKind.i64.wrap (4+(m:Int)+v)=4+m+v:=by rw[IntKind.wrap_i64];omega
   have hN2:N≤17592186044416+2000∨True:=.inr trivial;clear hu hv;by_cases hbig:2000<N
   ·have hj0:j=0:=by
     by_cases e:j=0
     ·exact e
     ·have:=HK.out.2.1 (by omega);omega
    subst hj0;have r2:IntKind.i64.wrap ((N:Int)+(4+m+v))=N+(4+m+v):=by rw[IntKind.wrap_i64];omega
    have hb:(2000:Int)<N+(4+m+v):=by omega
    clear HK HO HB hN hN2;simp only[Nat.zero_mul,Nat.add_zero] at hc1 hc2 hc3 hc4 hc5 hc6 hc7;go_wp2;go_ret;exact⟨⟨true,by simp,fun e=>by cases e⟩,HW.out _ HF2.out⟩
   ·have r2:IntKind.i64.wrap ((N:Int)+(4+m+v))=N+(4+m+v):=by rw[IntKind.wrap_i64];omega
    by_cases hb:(2000:Int)<N+(4+m+v)
    ·clear HK HO HB hN hN2;go_wp2;go_ret;exact⟨⟨true,by simp,fun e=>by cases e⟩,HW.out _ HF2.out⟩
    ·have hb2:(N:Int)+(4+m+v)≤2000:=by omega
     clear HO HB hN2;go_wp2;go_roundw
     case rel=>
      refine⟨j+1,N+(4+m+v),by omega,by go_num,by go_num,by omega,⟨by have:=HK.out.1;omega,fun _=>by omega,fun k hk hkj=> ?_⟩,HF2⟩;by_cases e:k=j
      ·subst e;have h1:=HS.out;have h2:=HV.out;omega
      ·exact HK.out.2.2 k hk (by omega)
     case measure=>simp[intOf];omega
  ·obtain rfl:l.length=j:=by omega
   by_cases h1:(150:Int)<l.length
   ·go_wp2;go_ret;exact⟨⟨true,by simp,fun e=>by cases e⟩,HW.out _ HF.out⟩
   ·have h2:(l.length:Int)≤150:=by omega
    by_cases h3:(512:Int)<P
    ·go_wp2;go_ret;exact⟨⟨true,by simp,fun e=>by cases e⟩,HW.out _ HF.out⟩
    ·have h4:P≤512:=by omega
     go_wp2;go_ret;refine⟨⟨false,by simp,fun _=>HL.out (fun e=> ?_) (fun i hi=>HK.out.2.2 i hi hi) (by omega) h4⟩,HW.out _ HF.out⟩;have h5:0<l.length:=List.length_pos_iff.2 e;have:=HK.out.2.1 h5;have:=HK.out.1;omega
theorem yq{P:Program}{w:World}(t ty e:TypeId)(i:TypeInfo)(ht:P.underlying t=some (.slice e))(hi:P.info? e=some i)(a:Addr)(ad:Option Addr)(c:Nat):
  (Builtin.append_ #[t,t] ty #[.slice (some a) 0 0,.slice ad 0 c]).run P w=.ok (.slice (some a) 0 0) w:=by
 cases ad<;>simp[Builtin.append_,run_underlying ht,sizeOf,typeInfo,hi,Builtin.lenOf,Builtin.firstCells,loadCells,loadCellsFrom,storeCells]
theorem sP{w:World}{ad:Option Addr}{l:List Int}(ty:TypeId)(c:Nat)(hl:aA w ad l)(hn:l.length≤17592186044416):∃ad' cap' w',(Builtin.append_ #[24,24] ty #[.slice (some ⟨w.heap.size,0,none⟩) 0 0,.slice ad l.length c]).run Tryz.prog (w.alloc (.cells #[] 3))=.ok (.slice ad' l.length cap') w'∧aA w' ad' l∧Fr (fun _=>False) w w'∧∀b off,ad'=some ⟨b,off,none⟩→w.heap.size≤b:=by
 obtain⟨i0,hi,hz0,hz1,hz2⟩:=info_parts Tryz.iy;have f0:Fr (fun _=>False) w (w.alloc (.cells #[] 3)):=(Fr.refl _ _).alloc _;cases hL:l with
 |nil=>
  refine⟨_,_,_,yq _ _ _ i0 Tryz.underlying24 hi _ ad c,tE _ _,f0,fun b off e=> ?_⟩;simp only[Option.some.injEq,Addr.mk.injEq] at e;omega
 |cons x r=>
  rw[←hL];have h0:0<l.length:=by rw[hL];simp
  obtain⟨B,off,rfl,hB,_⟩:=hl 0 h0;have hl':=hl.fr f0;obtain⟨g,cap,w',hr,h2,h3,h4⟩:=cA (P:=Tryz.prog) (w.alloc (.cells #[] 3)) w.heap.size 24 ty 3 i0 (.int .i64 0) 1 8 Tryz.underlying24 hi hz0 hz1 hz2 rfl (by decide) (.slice (some ⟨w.heap.size,0,none⟩) 0 0) 0 [] ⟨by simp,.inr ⟨w.heap.size,0,#[],rfl,Nat.le_refl _,heap_alloc_new w _,Nat.le_refl _,by unfold maxLen;omega,by simp,by simp⟩⟩ ⟨B,off,none⟩ l.length c h0 (ic l) (by rw[iz];simp) (fun j u hj=>by
    have hj2:j<l.length:=by have:=(List.getElem?_eq_some_iff.1 hj).1;simpa [ic] using this
    obtain⟨b,off',h1,h2,h3⟩:=hl' j hj2;cases h1;rw[add_plain,h3,←hj];simp[ic,hj2]) (ue l) (by unfold maxLen;omega) (by omega) (by simp)
  rw[Nat.zero_add] at hr h2;rw[List.nil_append] at h2;refine⟨_,_,w',hr,gg h2,?_,fun b off e=> ?_⟩
  ·refine Fr.new (Fr.grown (S:=fun i=>w.heap.size≤i) ((Fr.refl _ _).alloc _) h3 fun k e=>.inl ?_);simp only[Value.ownBlock,Option.some.injEq] at e;omega
  ·simp only[Option.some.injEq,Addr.mk.injEq] at e;have:=(h2.lt g rfl).1;omega
theorem vr{P:Program}{w w':World}{ops:Array Oper}{o:Oper}{a:Act}{K:Act→World→Prop}{Q:Exit→Act→World→Prop}(hgd:o.guard=none)(s x:Operand)(t u:TypeId)(ho:o.op=.call { callee:=.builtin .append,args:=#[s,x],argTypes:=#[t,u] }){y z v:Value}(hs:a.eval s=y)(hx:a.eval x=z)
  (hrun:(Builtin.append_ #[t,u] o.type #[y,z]).run P w=.ok v w')(hK:K (a.put o.dst v) w'):if Region.wanted o (yielded ops a.tmps)=true then o.wp P a w K Q else K (a.put o.dst undef) w:=by
 have hw:Region.wanted o (yielded ops a.tmps)=true:=by unfold Region.wanted;rw[hgd]
 rw[if_pos hw];unfold Oper.wp;simp[execOp,ho,resolve,invoke,builtin,hs,hx,hrun,Result.andThen];exact hK
theorem gH{fn:Func}{t u v x:Tmp}(h:fn.results=#[.tmp t,.tmp u,.tmp v,.tmp x])(tmps:Array Value)(P:Program)(w:World):
  (results fn tmps).run P w=.ok (.tuple #[tmps.getD t undef,tmps.getD u undef,tmps.getD v undef,tmps.getD x undef]) w:=by
 simp[results,h]
section
variable{W w:World}{ts:List (World→(Nat→Prop)→Prop)}
theorem aa.tail{P:World→(Nat→Prop)→Prop}(h:aa W w (P::ts)):aa W w ts:=by
 have h2:aa W w (ts++[P]):=h.order (fun j=>if j=0 then ts.length else j - 1) (fun j=>if j=ts.length then 0 else j+1) (fun j hj=>by
  simp only[List.length_cons,List.length_append,List.length_nil] at hj ⊢;by_cases h0:j=0
  ·simp[h0]
  ·simp only[if_neg h0];refine⟨by omega,?_⟩;rw[if_neg (by omega)];omega) fun j hj=>by
  simp only[List.length_cons,List.length_append,List.length_nil] at hj ⊢;by_cases h0:j=ts.length
  ·subst h0;simp
  ·simp only[if_neg h0];refine⟨by omega,by simp,?_⟩;rw[List.getElem?_append_left (by omega)];simp
 exact aa.less h2
def mN(n:Nat):Ms:=⟨List.replicate n false,List.replicate (n * 512) 0,[]⟩
theorem yZ{n k:Nat}(hc:Cq.Cfg n k):MsOk (mN n):=(uB hc (l:=[]) (by simp)).ms
def ox(W:World)(ts:List (World→(Nat→Prop)→Prop))(c:C18)(e:Ending)(w':World):Prop:=
 (∃v1 v2 v3 E,E≠0∧e=.returned (.tuple #[v1,v2,v3,.int .i64 E])∧aa W w' ts)∨
 (∃(n k:Nat) (x:Tp) (a m:Nat) (ad:Option Addr) (B:Nat) (ob:Obj),Cq.Cfg n k∧c.P=n∧c.K=k∧x.k=k∧x.id=c.id∧x.pk=c.q∧fitE 0 c.q c.q (pgI n k c.W)=0∧((0≤c.id∧c.id≤7)∧1≤c.se∧c.se≤17592186044416)∧e=.returned (.tuple #[.pointer (some ⟨x.T,0,none⟩),.pointer (some ⟨a,0,none⟩),.pointer (some ⟨m,0,none⟩),.int .i64 0])∧aa W w' (tnl x (newT (mN n) c.W c.id c.se c.q) (Lv ad c.W::Blk B ob::ts)))
theorem AK(g:aa W w ts){c:C18}(hcf:¬Cq.Cfg c.P c.K):Calls Tryz.prog 7 #[.agg c.cs] w fun e w'=>ox W ts c e w':=by
 have H1:Hid (∀w,Calls Tryz.prog 23 #[.agg #[.int .i64 c.P,.int .i64 c.K]] w fun e w'=>e=.returned (.tuple #[.pointer none,.int .i64 12])∧Fr (fun _=>False) w w'):=fun w=>uX hcf w
 obtain⟨P,K,q,id,se,ad0,cap0,W0⟩:=c;have G:Hid (aa W (w.alloc (.cells #[.int .i64 P,.int .i64 K,.int .i64 q,.int .i64 id,.int .i64 se,.slice ad0 W0.length cap0] 26)) ts):=g.kept ((Fr.refl _ _).alloc _);have HR:Hid (∀v1 v2 v3 E w',E≠0→aa W w' ts→ox W ts ⟨P,K,q,id,se,ad0,cap0,W0⟩ (.returned (.tuple #[v1,v2,v3,.int .i64 E])) w'):=fun v1 v2 v3 E w' h0 h=>.inl ⟨v1,v2,v3,E,h0,rfl,h⟩
 unfold C18.cs;simp only at H1;clear g hcf;generalize W0.length=wl at *;go_enter Tryz.func7,Tryz.ntmps7;go_wp2_with fail;refine(H1.out _).mono ?_;rintro e w1 ⟨rfl,f1⟩;have G1:=hid (G.out.kept f1);clear f1 G H1;go_wp2
 (try simp only[Exit.inBlock,Exit.then]);refine bodyPost_ret (gH rfl _ _ _) rfl ?_
 simp;exact HR.out _ _ _ _ _ (by decide) G1.out
theorem wT(g:aa W w ts)(gr:G17 W){n k:Nat}(cf:Cq.Cfg n k){q id se:Int}{ad0:Option Addr}{cap0:Nat}{W0:List Int}(hc:CfgT W ⟨n,k,q,id,se,ad0,cap0,W0⟩):Calls Tryz.prog 7 #[.agg (C18.cs ⟨n,k,q,id,se,ad0,cap0,W0⟩)] w fun e w'=>ox W ts ⟨n,k,q,id,se,ad0,cap0,W0⟩ e w':=by
 have hn:n≤4096:=by have:=cf.2.2.2.1;omega
 have hk:1≤k∧k≤32:=by have:=cf.1;have:=cf.2.1;omega
 have r0:IntKind.i64.wrap ((n:Int) * 512)=((n * 512:Nat):Int):=by rw[IntKind.wrap_i64];omega
 have HR:Hid (∀v1 v2 v3 E w',E≠0→aa W w' ts→ox W ts ⟨n,k,q,id,se,ad0,cap0,W0⟩ (.returned (.tuple #[v1,v2,v3,.int .i64 E])) w'):=fun v1 v2 v3 E w' h0 h=>.inl ⟨v1,v2,v3,E,h0,rfl,h⟩
 have hlW:W0.length≤17592186044416:=hc.lW;have G:Hid (aa W (w.alloc (.cells #[.int .i64 n,.int .i64 k,.int .i64 q,.int .i64 id,.int .i64 se,.slice ad0 W0.length cap0] 26)) (Blk w.heap.size (.cells #[.int .i64 n,.int .i64 k,.int .i64 q,.int .i64 id,.int .i64 se,.slice ad0 W0.length cap0] 26 (0,0))::ts)):=aa.rot [] ts (g.blk _);have H1:Hid (∀w1,aa W w1 ((Blk w.heap.size (.cells #[.int .i64 n,.int .i64 k,.int .i64 q,.int .i64 id,.int .i64 se,.slice ad0 W0.length cap0] 26 (0,0)))::ts)→Calls Tryz.prog 23 #[.agg #[.int .i64 n,.int .i64 k]] w1 fun e w'=>∃m,e=.returned (.tuple #[.pointer (some ⟨m,0,none⟩),.int .i64 0])∧aa W w' (Ct m k (mN n).has::(Blk w.heap.size (.cells #[.int .i64 n,.int .i64 k,.int .i64 q,.int .i64 id,.int .i64 se,.slice ad0 W0.length cap0] 26 (0,0)))::ts)):=fun w1 h=>(q_map h gr cf).mono fun e w' ⟨m,he,h2⟩=>⟨m,he,aa.rot [] ((Blk w.heap.size (.cells #[.int .i64 n,.int .i64 k,.int .i64 q,.int .i64 id,.int .i64 se,.slice ad0 W0.length cap0] 26 (0,0)))::ts) h2⟩
 have H2:Hid (∀w1 m,aa W w1 (Ct m k (mN n).has::(Blk w.heap.size (.cells #[.int .i64 n,.int .i64 k,.int .i64 q,.int .i64 id,.int .i64 se,.slice ad0 W0.length cap0] 26 (0,0)))::ts)→Calls Tryz.prog 24 #[.int .i64 (n * 512:Nat)] w1 fun e w'=>∃a,e=.returned (.tuple #[.pointer (some ⟨a,0,none⟩),.int .i64 0])∧aa W w' (Ac a m k (mN n)::(Blk w.heap.size (.cells #[.int .i64 n,.int .i64 k,.int .i64 q,.int .i64 id,.int .i64 se,.slice ad0 W0.length cap0] 26 (0,0)))::ts)):=fun w1 m h=>(sV h (n * 512) (by omega)).mono fun e w' ⟨a,he,h2⟩=>⟨a,he,by
  have h3:aa W w' (Both (Ct m k (mN n).has) (Am 111 a (mN n).bs (mN n).ss)::(Blk w.heap.size (.cells #[.int .i64 n,.int .i64 k,.int .i64 q,.int .i64 id,.int .i64 se,.slice ad0 W0.length cap0] 26 (0,0)))::ts):=aa.join (ts:=Ct m k (mN n).has::(Blk w.heap.size (.cells #[.int .i64 n,.int .i64 k,.int .i64 q,.int .i64 id,.int .i64 se,.slice ad0 W0.length cap0] 26 (0,0)))::ts) h2 0 rfl;exact h3.view 0 rfl (Ac.good a m k (mN n)) fun _=>Both.swap⟩
 have HD:Hid (∀w1 a m,aa W w1 (Ac a m k (mN n)::(Blk w.heap.size (.cells #[.int .i64 n,.int .i64 k,.int .i64 q,.int .i64 id,.int .i64 se,.slice ad0 W0.length cap0] 26 (0,0)))::ts)→∃ad' cap' w',(Builtin.append_ #[24,24] 24 #[.slice (some ⟨w1.heap.size,0,none⟩) 0 0,.slice ad0 W0.length cap0]).run Tryz.prog (w1.alloc (.cells #[] 3))=.ok (.slice ad' W0.length cap') w'∧aa W w' (Both (Ac a m k (mN n)) (Lv ad' W0)::(Blk w.heap.size (.cells #[.int .i64 n,.int .i64 k,.int .i64 q,.int .i64 id,.int .i64 se,.slice ad0 W0.length cap0] 26 (0,0)))::ts)):=fun w1 a m h=>by
  obtain⟨ad',cap',w',h1,h2,h3,h4⟩:=sP (w:=w1) 24 cap0 (hc.W.fr h.nw.fr) hlW;refine⟨ad',cap',w',h1,?_⟩;have h5:aa W w' ((Ac a m k (mN n)::(Blk w.heap.size (.cells #[.int .i64 n,.int .i64 k,.int .i64 q,.int .i64 id,.int .i64 se,.slice ad0 W0.length cap0] 26 (0,0)))::ts)++[Lv ad' W0]):=h.more (Lv.good _ _) (Lv.new h2) h3 fun j ⟨⟨off,e⟩,h0⟩=>⟨h4 j off e,(Lv.new h2).2.2 j ⟨⟨off,e⟩,h0⟩⟩
  exact aa.join (ts:=Ac a m k (mN n)::(Blk w.heap.size (.cells #[.int .i64 n,.int .i64 k,.int .i64 q,.int .i64 id,.int .i64 se,.slice ad0 W0.length cap0] 26 (0,0)))::ts) h5 0 rfl
 have H3:Hid (∀w1 a m ad' cap',aa W w1 (Both (Ac a m k (mN n)) (Lv ad' W0)::(Blk w.heap.size (.cells #[.int .i64 n,.int .i64 k,.int .i64 q,.int .i64 id,.int .i64 se,.slice ad0 W0.length cap0] 26 (0,0)))::ts)→Calls Tryz.prog 25 #[.pointer (some ⟨a,0,none⟩),.pointer (some ⟨m,0,none⟩),.int .i64 id,.int .i64 se,.int .i64 q,.slice ad' W0.length cap'] w1 fun e w'=>∃v E,e=.returned (.tuple #[v,.int .i64 E])∧(w'.cell? ⟨w.heap.size,2,none⟩=some (.int .i64 q)∧w'.cell? ⟨w.heap.size,3,none⟩=some (.int .i64 id)∧w'.cell? ⟨w.heap.size,4,none⟩=some (.int .i64 se)∧w'.cell? ⟨w.heap.size,5,none⟩=some (.slice ad0 W0.length cap0))∧∀a m,ox W ts ⟨n,k,q,id,se,ad0,cap0,W0⟩ (.returned (.tuple #[v,.pointer (some ⟨a,0,none⟩),.pointer (some ⟨m,0,none⟩),.int .i64 E])) w'):=fun w1 a m ad' cap' h=>by
  by_cases hi:(0≤id∧id≤7)∧1≤se∧se≤17592186044416
  ·refine(pF (cap:=cap') h gr (yZ cf) hk.1 hk.2 (by simp[mN];exact hn) hlW hi rfl).mono fun e w' ⟨x,hx,he,h2⟩=>⟨_,_,he,⟨ae (h2.cells 6 rfl) 2 rfl,ae (h2.cells 6 rfl) 3 rfl,ae (h2.cells 6 rfl) 4 rfl,ae (h2.cells 6 rfl) 5 rfl⟩,fun a m=> ?_⟩
   rw[show(mN n).has.length=n by simp[mN]];by_cases hE:fitE 0 q q (pgI n k W0)=0
   ·rw[hE];exact .inr ⟨n,k,x,a,m,ad',_,_,cf,rfl,rfl,hx.2.2.1,hx.2.2.2.1,hx.2.2.2.2,hE,hi,rfl,h2⟩
   ·exact HR.out _ _ _ _ _ hE h2.tail.tail.tail.tail.tail.tail.tail
  ·exact(tH (cap:=cap') (q:=q) h gr (yZ cf) hk.1 hk.2 hlW hi).mono fun e w' ⟨_,_,he,h2⟩=>⟨_,12,he,⟨ae (h2.cells 1 rfl) 2 rfl,ae (h2.cells 1 rfl) 3 rfl,ae (h2.cells 1 rfl) 4 rfl,ae (h2.cells 1 rfl) 5 rfl⟩,fun a m=>HR.out _ _ _ _ _ (by decide) h2.tail.tail⟩
 have HCC:Hid (∀w1 P,aa W w1 (P::(Blk w.heap.size (.cells #[.int .i64 n,.int .i64 k,.int .i64 q,.int .i64 id,.int .i64 se,.slice ad0 W0.length cap0] 26 (0,0)))::ts)→w1.cell? ⟨w.heap.size,0,none⟩=some (.int .i64 n)∧w1.cell? ⟨w.heap.size,2,none⟩=some (.int .i64 q)∧w1.cell? ⟨w.heap.size,3,none⟩=some (.int .i64 id)∧w1.cell? ⟨w.heap.size,4,none⟩=some (.int .i64 se)∧w1.cell? ⟨w.heap.size,5,none⟩=some (.slice ad0 W0.length cap0)):=fun w1 P h=>⟨ae (h.cells 1 rfl) 0 rfl,ae (h.cells 1 rfl) 2 rfl,ae (h.cells 1 rfl) 3 rfl,ae (h.cells 1 rfl) 4 rfl,ae (h.cells 1 rfl) 5 rfl⟩
 unfold C18.cs;simp only;clear g gr hc hk hn cf hlW HR;generalize W0.length=wl at *;go_enter Tryz.func7,Tryz.ntmps7;go_wp2_with fail;refine(H1.out _ G.out).mono ?_;rintro e w1 ⟨m,rfl,g1⟩;have G1:=hid g1;obtain⟨c0,c2,c3,c4,c5⟩:=HCC.out _ _ g1;clear g1 G H1;go_wp2_with fail;refine(H2.out _ _ G1.out).mono ?_;rintro e w2 ⟨a,rfl,g2⟩;have G2:=hid g2;clear c0 c2 c3 c4 c5;obtain⟨c0,c2,c3,c4,c5⟩:=HCC.out _ _ g2;clear c0 c2 c3 c4 c5 g2 G1 H2;go_wp2_with fail;have gd:=G2.out.kept ((Fr.refl _ _).drew);obtain⟨ad',cap',w3,hr,g3⟩:=HD.out _ _ _ gd;rw[show w2.drew.heap.size=w2.heap.size from by simp] at hr;have hrun:(Builtin.append_ #[24,24] 24 #[.slice (some ⟨w2.heap.size,0,none⟩) 0 0,.slice ad0 wl cap0]).run Tryz.prog (w2.alloc (.cells #[] 3)).drew=.ok (.slice ad' wl cap') w3:=hr;have ge:=gd.kept ((Fr.refl _ _).alloc (.cells #[] 3));obtain⟨_,a2,a3,a4,a5⟩:=HCC.out _ _ gd;obtain⟨_,b2,b3,b4,b5⟩:=HCC.out _ _ ge;obtain⟨_,d2,d3,d4,d5⟩:=HCC.out _ _ g3;have b2':(w2.alloc (.cells #[] 3)).drew.cell? ⟨w.heap.size,2,none⟩=some (.int .i64 q):=b2;have b3':(w2.alloc (.cells #[] 3)).drew.cell? ⟨w.heap.size,3,none⟩=some (.int .i64 id):=b3;have b4':(w2.alloc (.cells #[] 3)).drew.cell? ⟨w.heap.size,4,none⟩=some (.int .i64 se):=b4;have b5':(w2.alloc (.cells #[] 3)).drew.cell? ⟨w.heap.size,5,none⟩=some (.slice ad0 wl cap0):=b5;have HN:=hid (H3.out _ _ _ _ cap' g3);clear hr gd ge g3 H3 HD b2 b3 b4 b5 HCC
 go_region_held3 (fun w'=>w'.cell? ⟨w.heap.size,2,none⟩=some (.int .i64 q)∧w'.cell? ⟨w.heap.size,3,none⟩=some (.int .i64 id)∧w'.cell? ⟨w.heap.size,4,none⟩=some (.int .i64 se)∧w'.cell? ⟨w.heap.size,5,none⟩=some (.slice ad0 wl cap0)) (first|exact⟨by assumption,by assumption,by assumption,by assumption⟩|go_keep) (first|(refine vr rfl (.tmp 37) (.tmp 39) _ _ rfl rfl rfl hrun ?_)|(go_at_call 25;refine HN.out.mono ?_;rintro e w4 ⟨v,E,rfl,⟨n2,n3,n4,n5⟩,hm⟩;have HM:=hid hm;clear hm))
 all_goals
  go_wp2
  (try simp only[Exit.inBlock,Exit.then]);refine bodyPost_ret (gH rfl _ _ _) rfl ?_
  simp;exact HM.out _ _
theorem wV(g:aa W w ts)(gr:G17 W){c:C18}(hc:CfgT W c):Calls Tryz.prog 7 #[.agg c.cs] w fun e w'=>ox W ts c e w':=by
 by_cases hcf:Cq.Cfg c.P c.K
 ·obtain⟨P,K,q,id,se,ad0,cap0,W0⟩:=c;obtain⟨n,rfl⟩:∃n:Nat,P=n:=⟨P.toNat,by have:=hcf.2.2.1;simp only at this;omega⟩;obtain⟨k,rfl⟩:∃k:Nat,K=k:=⟨K.toNat,by have:=hcf.1;simp only at this;omega⟩;exact wT g gr hcf hc
 ·exact AK g hcf
end
def csum(f:Int→Option (Int×Int)):List Int→Int
 |[]=>0
 |a::r=>((f a).getD (0,0)).2+csum f r
def Kys(f:Int→Option (Int×Int))(n:Nat)(cb:Int):Prop:=∃ks:List Int,ks.Nodup∧(∀a,a∈ks↔(f a).isSome=true)∧n=ks.length∧cb=csum f ks
theorem dy{f g:Int→Option (Int×Int)}:∀{ks:List Int},(∀a∈ks,((f a).getD (0,0)).2=((g a).getD (0,0)).2)→csum f ks=csum g ks
 |[],_=>rfl
 |a::r,h=>by
  show _+_=_+_
  rw[h a (List.mem_cons_self ..),dy fun b hb=>h b (List.mem_cons_of_mem _ hb)]
theorem fG{f:Int→Option (Int×Int)}{a:Int}:∀{ks:List Int},a∈ks→csum f ks=((f a).getD (0,0)).2+csum f (ks.erase a)
 |b::r,h=>by
  by_cases e:b=a
  ·subst e;rw[List.erase_cons_head];rfl
  ·rw[List.erase_cons_tail (by simpa using e)];have h2:a∈r:=(List.mem_cons.1 h).resolve_left fun k=>e k.symm
   show _+csum f r=_+(_+csum f (r.erase a))
   rw[fG h2];omega
theorem js{f:Int→Option (Int×Int)}:∀{ks:List Int},(∀a∈ks,16≤((f a).getD (0,0)).2)→16 * (ks.length:Int)≤csum f ks
 |[],_=>by simp[csum]
 |a::r,h=>by
  have h1:=h a (List.mem_cons_self ..);have h2:=js fun b hb=>h b (List.mem_cons_of_mem _ hb)
  show 16 * (((r.length+1:Nat)):Int)≤_+csum f r
  omega
section
variable{f:Int→Option (Int×Int)}{n:Nat}{cb a m ch:Int}{y:Int×Int}
theorem Kys.noneK:Kys (fun _=>none) 0 0:=⟨[],List.nodup_nil,fun a=>by simp,rfl,rfl⟩
theorem Kys.new(h:Kys f n cb)(ha:f a=none):Kys (fun z=>if z=a then some (m,ch) else f z) (n+1) (cb+ch):=by
 obtain⟨ks,h1,h2,h3,h4⟩:=h;have hn:a∉ks:=fun e=>by have:=(h2 a).1 e;rw[ha] at this;exact absurd this (by simp)
 refine⟨a::ks,List.nodup_cons.2 ⟨hn,h1⟩,fun z=> ?_,by rw[h3];rfl,?_⟩
 ·rw[List.mem_cons];show _↔(if z=a then some (m,ch) else f z).isSome=true;by_cases e:z=a
  ·subst e;simp
  ·rw[if_neg e,←h2 z];simp[e]
 ·show _=((if a=a then some (m,ch) else f a).getD (0,0)).2+csum _ ks
  have e2:csum (fun z=>if z=a then some (m,ch) else f z) ks=csum f ks:=dy fun b hb=>by
   have hne:b≠a:=fun e=>hn (by rw[←e];exact hb)
   simp only[if_neg hne]
  rw[if_pos rfl,h4,e2];show _=ch+_;omega
theorem Kys.del(h:Kys f n cb)(ha:f a=some y):Kys (fun z=>if z=a then none else f z) (n - 1) (cb+ -y.2):=by
 obtain⟨ks,h1,h2,h3,h4⟩:=h;have hm:a∈ks:=(h2 a).2 (by rw[ha];rfl);refine⟨ks.erase a,h1.erase a,fun z=> ?_,by rw[List.length_erase_of_mem hm,h3],?_⟩
 ·rw[h1.mem_erase_iff];show _↔(if z=a then none else f z).isSome=true;by_cases e:z=a
  ·subst e;simp
  ·rw[if_neg e,←h2 z];simp[e]
 ·have e2:csum (fun z=>if z=a then none else f z) (ks.erase a)=csum f (ks.erase a):=dy fun b hb=>by
   have hne:b≠a:=(h1.mem_erase_iff.1 hb).1;simp only[if_neg hne]
  rw[h4,fG hm,ha,e2];show y.2+_+ -y.2=_;omega
theorem Kys.size(h:Kys f n cb)(ha:f a=some y):Kys (fun z=>if z=a then some (m,y.2) else f z) n cb:=by
 obtain⟨ks,h1,h2,h3,h4⟩:=h;refine⟨ks,h1,fun z=> ?_,h3,?_⟩
 ·rw[h2 z];show _↔(if z=a then some (m,y.2) else f z).isSome=true;by_cases e:z=a
  ·subst e;simp[ha]
  ·rw[if_neg e]
 ·rw[h4];refine dy fun b _=> ?_
  by_cases e:b=a
  ·subst e;simp[ha]
  ·simp only[if_neg e]
theorem Kys.few(h:Kys f n cb)(hl:∀a y,f a=some y→16≤y.2)(hc:cb≤65536):n≤4096:=by
 obtain⟨ks,h1,h2,h3,h4⟩:=h;have:=js (f:=f) (ks:=ks) fun a ha=>by
  obtain⟨y,hy⟩:=Option.isSome_iff_exists.1 ((h2 a).1 ha);rw[hy];exact hl a y hy
 omega
end
structure TnOk(x:Tp)(S:TnS)(b:Nat):Prop where
 q:Plain S.s
 lb:S.s.lb≤65536
 hc:Hc x.k S.M S.H
 ss:S.M.ss.length≤b
 id:0≤x.id∧x.id≤7
 cT:S.c.T=x.id
 ob:∀a y,S.f a=some y→∃c s j:Nat,HadB S.H.L c s j∧a=adI c s j∧y.2=ah c∧1≤y.1∧y.1≤y.2
 bo:∀c s j:Nat,HadB S.H.L c s j→(S.f (adI c s j)).isSome=true
 sl:∀z∈S.c.L,(S.f z.a).isSome=true
 ks:Kys S.f S.n S.s.cb
 pgs:S.M.has.length≤512
section
variable{x:Tp}{S:TnS}{b:Nat}{n a:Int}{y:Int×Int}
theorem TnOk.obj(h:TnOk x S b)(ha:S.f a=some y):∃c s j:Nat,HadB S.H.L c s j∧PlT c s j∧c≤23∧a=adI c s j∧y.2=ah c∧1≤y.1∧y.1≤y.2∧16≤y.2∧y.2≤8192∧131072≤a∧a+y.2≤3276800:=by
 obtain⟨c,s,j,hb,e,e2,e3,e4⟩:=h.ob a y ha;obtain⟨p,c2,_⟩:=hb.there h.hc.ok;have hu:=cG c (by omega) (by omega);have hi:=p.inside;exact⟨c,s,j,hb,p,c2,e,e2,e3,e4,by omega,by omega,by omega,by omega⟩
theorem TnOk.few(h:TnOk x S b):S.n≤4096:=h.ks.few (fun a y ha=>by obtain⟨_,_,_,_,_,_,_,_,_,_,h1,_⟩:=h.obj ha;exact h1) (by have:=h.q.ok.fb1;have:=h.q.rb;have:=h.lb;omega)
theorem TnOk.less(h:TnOk x S b){b':Nat}(hb:b≤b'):TnOk x S b':=⟨h.q,h.lb,h.hc,Nat.le_trans h.ss hb,h.id,h.cT,h.ob,h.bo,h.sl,h.ks,h.pgs⟩
theorem TnOk.maxLen(h:TnOk x S b):S.n<maxLen:=by have:=h.few;unfold Go.maxLen;omega
theorem TnOk.found(h:TnOk x S b){hh r:Int}(hf:Ka.fiE S.c hh r=0):∃y,S.f (Ka.fiV S.c hh r)=some y:=by
 unfold Ka.fiE at hf;unfold Ka.fiV;cases e:Ka.look S.c hh with
 |none=>rw[e] at hf;simp at hf
 |some z=>
  rw[e] at hf;simp only at hf ⊢;by_cases k:Ka.fiOk z r
  ·rw[if_pos k];exact Option.isSome_iff_exists.1 (h.sl z (Ka.bR e).1)
  ·rw[if_neg k] at hf;simp at hf
theorem tn_new{p:Nat}{l:List Int}{t q pg:Int}(cf:Cq.Cfg p x.k)(hl:l.length≤17592186044416)(hfit:fitE 0 q q pg=0)(ht:0≤x.id∧x.id≤7)(ht2:x.id=t)(h512:p≤512){s:Int}:TnOk x (newT (mN p) l t s q) 0:=by
 have hq:May q:=by
  unfold fitE at hfit;split at hfit
  ·omega
  ·unfold May;omega
 obtain⟨hp,hlb⟩:=Plain.new hq;exact⟨hp,(by show(Qt.newQ (okA q 0) (okB q 0)).lb≤_;rw[hlb];exact hq.2),uB cf hl,(by show(0:Nat)≤0;omega),ht,ht2.symm,fun a y e=>(by cases e),fun c s j hb=>(by obtain⟨x,hx,_⟩:=hb;cases hx),fun z hz=>(by cases hz),Kys.noneK,(by show(List.replicate p false).length≤512;simpa using h512)⟩
theorem TnOk.took(h:TnOk x S b)(hb:b≤800000){c s j:Nat}{M':Ms}{H':Hp}(hr:hM x.k S.M S.H n=(M',H',adI c s j,0))(g:Gave (fun q=>Cq.inW x.k S.H.W q=true) S.M S.H n M' H' (adI c s j) c s j)(hq:S.s.cb+ag n≤S.s.lb)(hk:0≤ofI n){C:Ka.Ct}(hC:C.T=S.c.T∧∀z∈C.L,z∈S.c.L∨z.a=adI c s j):
  TnOk x { owS (S.took M' H' (ag n)) (adI c s j) n with c:=C } (b+2)∧S.f (adI c s j)=none∧ag n=ah c∧1≤n∧n≤ah c:=by
 have hn1:1≤n∧n≤8192:=by
  by_cases k:n<1∨8192<n
  ·have:=(cy n).2 k;omega
  ·omega
 have hch:ag n=ah c:=by rw[dm n hn1.1 hn1.2,g.kd]
 have hfits:n≤ah c:=by rw[←g.kd];exact jY n hn1.1 hn1.2
 obtain⟨t1,t2,t3⟩:=zV h.q h.hc hr (Nat.le_trans h.ss hb) hq (by omega);have hbn:HadB H'.L c s j:=(g.had c s j).2 (.inr ⟨rfl,rfl,rfl⟩);obtain⟨p0,_,_⟩:=hbn.there t2.ok;have hno:S.f (adI c s j)=none:=by
  cases e:S.f (adI c s j) with
  |none=>rfl
  |some y=>
   obtain⟨c',s',j',hb',e',_⟩:=h.ob _ y e;obtain⟨p1,_,_⟩:=hb'.there h.hc.ok;have:=p0.same p1 e';obtain⟨rfl,rfl,rfl⟩:c=c'∧s=s'∧j=j':=⟨by omega,by omega,by omega⟩;exact(g.new hb').elim
 have hss:=h.ss;have hlen:M'.has.length=S.M.has.length:=by
  have l1:=((iB (k:=x.k) (C:=fun q=>Cq.inW x.k S.H.W q=true) (fun _ e=>e) h.hc.ok h.hc.ms n).ok h.hc.ok h.hc.ms).1.stp.len;rw[hr] at l1;exact l1
 have hpg:=h.pgs;refine⟨⟨t1,h.lb,t2,by show M'.ss.length≤_;omega,h.id,by show C.T=_;rw[hC.1];exact h.cT,fun a y e=> ?_,fun c' s' j' hb'=> ?_,fun z hz=> ?_,?_,by show M'.has.length≤_;omega⟩,hno,hch,hn1.1,hfits⟩
 ·have e':(if a=adI c s j then some (n,ag n) else S.f a)=some y:=e;by_cases k:a=adI c s j
  ·rw[if_pos k] at e';cases e';exact⟨c,s,j,hbn,k,hch,hn1.1,by show n≤ag n;omega⟩
  ·rw[if_neg k] at e';obtain⟨c',s',j',hb',e2,e3⟩:=h.ob a y e';exact⟨c',s',j',(g.had c' s' j').2 (.inl hb'),e2,e3⟩
 ·show(if adI c' s' j'=adI c s j then some (n,ag n) else S.f (adI c' s' j')).isSome=true;rcases(g.had c' s' j').1 hb' with k|⟨rfl,rfl,rfl⟩
  ·split
   ·rfl
   ·exact h.bo c' s' j' k
  ·rw[if_pos rfl];rfl
 ·show(if z.a=adI c s j then some (n,ag n) else S.f z.a).isSome=true;split
  ·rfl
  ·rename_i k;rcases hC.2 z hz with hz'|hz'
   ·exact h.sl z hz'
   ·exact(k hz').elim
 ·show Kys (fun z=>if z=adI c s j then some (n,ag n) else S.f z) (if(S.f (adI c s j)).isSome then S.n else S.n+1) (S.s.cb+ag n)
  rw[hno];exact h.ks.new hno
end
section
variable{f:Int→Option (Int×Int)}{n:Nat}{cb a:Int}{y:Int×Int}
theorem iG{f:Int→Option (Int×Int)}:∀{ks:List Int},(∀a∈ks,0≤((f a).getD (0,0)).2)→0≤csum f ks
 |[],_=>Int.le_refl _
 |a::r,h=>by
  have h1:=h a (List.mem_cons_self ..);have h2:=iG fun b hb=>h b (List.mem_cons_of_mem _ hb)
  show 0≤_+csum f r
  omega
theorem Kys.le(h:Kys f n cb)(hl:∀a y,f a=some y→16≤y.2)(ha:f a=some y):y.2≤cb∧1≤n:=by
 obtain⟨ks,h1,h2,h3,h4⟩:=h;have hm:a∈ks:=(h2 a).2 (by rw[ha];rfl);have h5:=iG (f:=f) (ks:=ks.erase a) fun b hb=>by
  obtain⟨z,hz⟩:=Option.isSome_iff_exists.1 ((h2 b).1 (List.mem_of_mem_erase hb));rw[hz];have:=hl b z hz;show 0≤z.2;omega
 have h6:=fG (f:=f) hm;rw[ha] at h6;have h7:=List.length_pos_of_mem hm;refine⟨?_,by omega⟩;rw[h4,h6];show y.2≤y.2+_;omega
end
section
variable{x:Tp}{S:TnS}{b:Nat}{n a:Int}{y:Int×Int}{c s j:Nat}
theorem TnOk.released(h:TnOk x S b)(hb:b≤800000)(hy:S.f a=some y)(hd:HadB S.H.L c s j)(ha:a=adI c s j):TnOk x (rlS S a c s j 0 y.2) (b+18):=by
 obtain⟨_,hcl⟩:=h.ks.le (fun a y e=>by obtain⟨_,_,_,_,_,_,_,_,_,_,h1,_⟩:=h.obj e;exact h1) hy;have hle:y.2≤S.s.cb:=(h.ks.le (fun a y e=>by obtain⟨_,_,_,_,_,_,_,_,_,_,h1,_⟩:=h.obj e;exact h1) hy).1;obtain⟨c0,s0,j0,_,_,_,_,_,_,_,y16,_⟩:=h.obj hy;have hss:=h.ss;obtain⟨t1,t2⟩:=h.hc.free c s j 0 (by omega);have hfr:hFr S.M S.H (c:Int) (s:Int) (j:Int) 0=hF S.M S.H c s j:=by unfold hFr;rw[if_pos rfl,Int.toNat_natCast,Int.toNat_natCast]
 rw[hfr] at t1 t2;obtain⟨_,hh⟩:=hF_had h.hc.ok hd;have e1:rlS S a c s j 0 y.2={ S with M:=(hF S.M S.H c s j).1,H:=(hF S.M S.H c s j).2.1,s:=S.s.chg (-y.2),c:=Ka.rvS S.c a,f:=fun z=>if z=a then none else S.f z,n:=S.n - 1 }:=by
  unfold rlS gbS;rw[hfr,h.q.ref hle]
 rw[e1];obtain⟨p0,_,_⟩:=hd.there h.hc.ok;have hne:∀{c' s' j':Nat},HadB S.H.L c' s' j'→¬(c'=c∧s'=s∧j'=j)→adI c' s' j'≠a:=fun hb' k e=>by
  obtain⟨p1,_,_⟩:=hb'.there h.hc.ok;have:=p1.same p0 (e.trans ha);exact k ⟨by omega,by omega,by omega⟩
 have hlb:=h.q.ok.fb1;have hrb:=h.q.rb;refine⟨h.q.chg (by omega) (by omega),h.lb,t1,by show(hF S.M S.H c s j).1.ss.length≤_;omega,h.id,h.cT,fun z w e=> ?_,fun c' s' j' hb'=> ?_,fun z hz=> ?_,h.ks.del hy,by show(hF S.M S.H c s j).1.has.length≤_;rw[(hF_ok h.hc.ok h.hc.ms c s j).1.stp.len];exact h.pgs⟩
 ·have e':(if z=a then none else S.f z)=some w:=e;by_cases k:z=a
  ·rw[if_pos k] at e';cases e'
  ·rw[if_neg k] at e';obtain⟨c',s',j',hb',e2,e3⟩:=h.ob z w e';refine⟨c',s',j',(hh c' s' j').2 ⟨hb',fun q=> ?_⟩,e2,e3⟩;obtain⟨rfl,rfl,rfl⟩:=q;exact k (e2.trans ha.symm)
 ·obtain⟨hb0,k⟩:=(hh c' s' j').1 hb';show(if adI c' s' j'=a then none else S.f (adI c' s' j')).isSome=true;rw[if_neg (hne hb0 k)];exact h.bo c' s' j' hb0
 ·have hz2:z∈S.c.L.filter fun x=>decide (x.a≠a):=hz
  obtain⟨hz3,hz4⟩:=List.mem_filter.1 hz2;show(if z.a=a then none else S.f z.a).isSome=true;rw[if_neg (by simpa using hz4)];exact h.sl z hz3
theorem TnOk.mem(h:TnOk x S b){M':Ms}{b':Nat}(hc:Hc x.k M' S.H)(hs:M'.ss.length≤b')(he:M'.has=S.M.has):TnOk x { S with M:=M' } b':=⟨h.q,h.lb,hc,hs,h.id,h.cT,h.ob,h.bo,h.sl,h.ks,by show M'.has.length≤_;rw[he];exact h.pgs⟩
theorem TnOk.sized(h:TnOk x S b)(hy:S.f a=some y)(h1:1≤n)(h2:n≤y.2):TnOk x (ctS S a n y.2) b:=by
 refine⟨h.q,h.lb,h.hc,h.ss,h.id,h.cT,fun z w e=> ?_,fun c' s' j' hb'=> ?_,fun z hz=> ?_,h.ks.size hy,h.pgs⟩
 ·have e':(if z=a then some (n,y.2) else S.f z)=some w:=e;by_cases k:z=a
  ·rw[if_pos k] at e';cases e';obtain⟨c',s',j',hb',e2,e3,_⟩:=h.ob a y hy;exact⟨c',s',j',hb',k.trans e2,e3,h1,h2⟩
  ·rw[if_neg k] at e';exact h.ob z w e'
 ·show(if adI c' s' j'=a then some (n,y.2) else S.f (adI c' s' j')).isSome=true;split
  ·rfl
  ·exact h.bo c' s' j' hb'
 ·show(if z.a=a then some (n,y.2) else S.f z.a).isSome=true;split
  ·rfl
  ·exact h.sl z hz
theorem Au{c:Ka.Ct}{lo hi r a:Int}{z:Ka.Sl}(hz:z∈(Ka.plS c lo hi r a).L):z∈c.L∨z.a=a:=by
 unfold Ka.plS at hz;split at hz
 ·have hz':z∈c.L.take (Ka.scan c.L lo).1++c.slot lo r a::c.L.drop (Ka.scan c.L lo).1:=hz;rcases List.mem_append.1 hz' with k|k
  ·exact .inl (List.mem_of_mem_take k)
  ·rcases List.mem_cons.1 k with rfl|k
   ·exact .inr rfl
   ·exact .inl (List.mem_of_mem_drop k)
 ·exact .inl hz
theorem plS_T(c:Ka.Ct)(lo hi r a:Int):(Ka.plS c lo hi r a).T=c.T:=by unfold Ka.plS;split<;>rfl
theorem uE{c:Ka.Ct}{a:Int}:(Ka.grS c a).T=c.T∧∀z∈(Ka.grS c a).L,z∈c.L∨z.a=a:=by
 unfold Ka.grS;split
 ·exact⟨rfl,fun z hz=>.inl hz⟩
 ·exact⟨plS_T ..,fun z hz=>Au hz⟩
theorem TnOk.moved(h:TnOk x S b){l:List Int}(hl:l.length≤17592186044416)(hb:b+1536≤890000)(hmo:(hMo x.k S.M S.H l).2.2=0){q p:Int}(hq:May q)(hcb:S.s.cb≤q):TnOk (x.peak p) (rzS x.k S q l) (b+1536):=by
 obtain⟨l1,lW,ls⟩:=hMo_ok h.hc.ok h.hc.ms l hmo;have hrt:Rt q 0:=by unfold Rt;unfold May at hq;omega
 have ea:okA q 0=q:=if_pos hrt;have eb:okB q 0=0:=if_pos hrt;have hT:S.H.T.length≤512:=by
  have h1:=aE S.M.has.length (S.H.T.map fun y=>y.2.toNat) (by
   rw[List.nodup_iff_pairwise_ne,List.pairwise_map];refine List.Pairwise.imp_of_mem ?_ h.hc.ok.tp.tb.inj;intro y y' hy hy' hne e;have h3:=(h.hc.ok.tp.tk y hy).1;have h4:=(h.hc.ok.tp.tk y' hy').1;exact hne (by omega)) fun v hv=>by
   obtain⟨y,hy,rfl⟩:=List.mem_map.1 hv;exact(h.hc.ok.tp.tk y hy).2.1
  rw[List.length_map] at h1;have:=h.pgs;omega
 have hss:=h.ss;have hcH:Hc x.k (hMo x.k S.M S.H l).1 (hMo x.k S.M S.H l).2.1:=⟨by rw[lW];exact l1.ok,l1.ms,h.hc.k1,h.hc.k2,by omega,by rw[lW];exact hl⟩;have e1:=h.q.rb;have e2:=h.q.rp;have e3:=h.q.cp;have e4:=h.q.ok;have hs:Qt.rszS S.s (okA q 0) (okB q 0)=⟨q,0,S.s.cb,S.s.cp,S.s.rb,S.s.rp⟩:=by
  rw[ea,eb];unfold Qt.rszS;exact if_pos ⟨by omega,by omega⟩
 have er:rzS x.k S q l={ S with M:=(hMo x.k S.M S.H l).1,H:=(hMo x.k S.M S.H l).2.1,s:=⟨q,0,S.s.cb,S.s.cp,S.s.rb,S.s.rp⟩ }:=by unfold rzS;rw[hs]
 rw[er];have hpl:Plain ⟨q,0,S.s.cb,S.s.cp,S.s.rb,S.s.rp⟩:=⟨⟨hrt,e4.cb0,e4.cp0,e4.rb0,e4.rp0,by show S.s.cb+S.s.rb≤q;omega,by show S.s.cp+S.s.rp≤0;omega⟩,e1,e2,e3,rfl⟩;refine⟨hpl,hq.2,hcH,by show(hMo x.k S.M S.H l).1.ss.length≤_;omega,h.id,h.cT,fun z w e=> ?_,fun c' s' j' hb'=>h.bo c' s' j' ((uD l).1 hb'),h.sl,h.ks,by show(hMo x.k S.M S.H l).1.has.length≤_;rw[l1.stp.len];exact h.pgs⟩;obtain⟨c',s',j',hb',e5⟩:=h.ob z w e;exact⟨c',s',j',(uD l).2 hb',e5⟩
theorem TnOk.dropped(h:TnOk x S b)(hb:b+512≤890000)(cc B:Nat):TnOk (x.dropped cc B) (drS S x.id) (b+512):=by
 obtain⟨l1,ls⟩:=hDr_ok h.hc.ok h.hc.ms;have hT:S.H.T.length≤512:=by
  have h1:=aE S.M.has.length (S.H.T.map fun y=>y.2.toNat) (by
   rw[List.nodup_iff_pairwise_ne,List.pairwise_map];refine List.Pairwise.imp_of_mem ?_ h.hc.ok.tp.tb.inj;intro y y' hy hy' hne e;have h3:=(h.hc.ok.tp.tk y hy).1;have h4:=(h.hc.ok.tp.tk y' hy').1;exact hne (by omega)) fun v hv=>by
   obtain⟨y,hy,rfl⟩:=List.mem_map.1 hv;exact(h.hc.ok.tp.tk y hy).2.1
  rw[List.length_map] at h1;have:=h.pgs;omega
 have hss:=h.ss;have e1:=h.q.cp;have hs:Qt.refS S.s S.s.cb S.s.cp=S.s.chg (-S.s.cb):=by rw[e1];exact h.q.ref (Int.le_refl _)
 have e4:=h.q.ok.lim;have hp:=h.q.chg (a:= -S.s.cb) (by omega) (by unfold Rt at e4;omega);refine⟨by show Plain (Qt.refS S.s S.s.cb S.s.cp);rw[hs];exact hp,by show(Qt.refS S.s S.s.cb S.s.cp).lb≤_;rw[hs];exact h.lb,⟨l1.ok,l1.ms,h.hc.k1,h.hc.k2,by show(hDr S.M S.H).1.ss.length≤_;omega,h.hc.W⟩,by show(hDr S.M S.H).1.ss.length≤_;omega,h.id,rfl,fun z w e=>(by cases e),fun c' s' j' hb'=>(by obtain⟨x,hx,_⟩:=hb';cases hx),fun z hz=>(by cases hz),?_,by show(hDr S.M S.H).1.has.length≤_;rw[l1.stp.len];exact h.pgs⟩;show Kys (fun _=>none) 0 (Qt.refS S.s S.s.cb S.s.cp).cb;rw[hs];have e5:(S.s.chg (-S.s.cb)).cb=0:=by show S.s.cb+ -S.s.cb=0;omega
 rw[e5];exact Kys.noneK
end
end Go.Proofs.YtndhbnhobhkmaaaGreatDoor
