/-
  New; and the map of pages as a thing.
  The calls of package heap, over the landed code.
  Two heaps of one arena and one map: mathematics; and in memory.
  What the calls of a heap leave of things side by side.
  Local bytes, read and written page by page: mathematics. What each call of a view answers, and what it leaves.
-/
import Derived.Test.YtndhbnhobhkmaaaGreatDoorHpTopF
namespace Go.Proofs.YtndhbnhobhkmaaaGreatDoor
open Go.RowKit
open An
theorem ct_new{w:World}{n k:Nat}(h:Cq.Cfg n k)(gr:G17 w):Calls Tryz.prog 23 #[.agg #[.int .i64 (n:Int),.int .i64 (k:Int)]] w fun e w'=>∃m Z,e=.returned (.tuple #[.pointer (some ⟨m,0,none⟩),.int .i64 0])∧Ct m k (List.replicate n false) w' Z∧Fr (fun _=>False) w w'∧∀i,Z i→w.heap.size≤i∧i<w'.heap.size:=
 (Cq.yf h w gr.2).mono fun _ w' ⟨a,Z,he,h1,h2,h3⟩=>⟨a,Z,he,⟨w',Z,h2,fun _ hi=>⟨hi,rfl⟩,h2.zlt⟩,h3,fun i hi=>⟨h1 i hi,h2.zlt i hi⟩⟩
theorem uX{n k:Int}(h:¬Cq.Cfg n k)(w:World):Calls Tryz.prog 23 #[.agg #[.int .i64 n,.int .i64 k]] w fun e w'=>e=.returned (.tuple #[.pointer none,.int .i64 12])∧Fr (fun _=>False) w w':=Cq.ye h w
section
variable{w:World}{a m k:Nat}{U:Nat→Prop}{M:Ms}{W:List Int}{ad:Option Addr}{cap:Nat}
set_option maxRecDepth 20000 in
set_option maxHeartbeats 4000000 in
theorem y_new(h:Both (Ac a m k M) (Lv ad W) w U)(gr:G17 w)(fu:cO U)(_ms:MsOk M)(_h1:1≤k)(_h2:k≤32)(hW:W.length≤17592186044416):Calls Tryz.prog 56 #[.pointer (some ⟨a,0,none⟩),.pointer (some ⟨m,0,none⟩),.slice ad W.length cap] w fun e w'=>∃h t U',e=.returned (.tuple #[.pointer (some ⟨h,0,none⟩),.int .i64 0])∧Hs a m h t k M ⟨W,[],[],fun _=>[]⟩ w' U'∧Gw w w' U U':=by
 have cx:=jr gr fu;have hlt:=h.lt;have T0:=(aa.begin (Both.good (Ac.good ..) (Lv.good ..)) h hlt).da 0 (P:=Ac a m k M) (Q:=Lv ad W) rfl (Ac.good ..) (Lv.good ..);have H1:Hid (Calls Tryz.prog 94 #[.slice ad W.length cap] w fun e w'=>∃ad' cap',e=.returned (.slice ad' W.length cap')∧aa (Bare w) w' [Ac a m k M,Old w U,Lv ad W,Lv ad' W]):=(cl17 cap (T0.nums 2 rfl) hW).mono fun e w' ⟨⟨ad',cap',he,hn,hb⟩,f⟩=>⟨ad',cap',he,T0.more (Lv.good _ _) (Lv.new hn) f fun i ⟨⟨off,e⟩,h0⟩=>⟨hb i off e,(Lv.new hn).2.2 i ⟨⟨off,e⟩,h0⟩⟩⟩
 have H2:Hid (∀w1 ad',aa (Bare w) w1 [Ac a m k M,Old w U,Lv ad W,Lv ad' W]→Calls Tryz.prog 95 #[] w1 fun e w'=>∃t,e=.returned (.pointer (some ⟨t,0,none⟩))∧aa (Bare w) w' [Ac a m k M,Old w U,Lv ad W,Lv ad' W,Tm t []]):=fun w1 ad' h1=>(yf w1).mono fun e w' ⟨t,Z,he,k1,k2,k3⟩=>⟨t,he,h1.more (Tm.good t []) k1 k2 k3⟩
 have H3:Hid (∀w1 ad' cap' t,aa (Bare w) w1 [Ac a m k M,Old w U,Lv ad W,Lv ad' W,Tm t []]→Calls Tryz.prog 96 #[.pointer (some ⟨w1.heap.size,0,none⟩)] (w1.alloc (gob (.pointer (some ⟨a,0,none⟩)) (.pointer (some ⟨m,0,none⟩)) (.slice ad' W.length cap') (.pointer (some ⟨t,0,none⟩)) (fun _=>.pointer none) (fun _=>.pointer none) (.map none))) fun e w'=>e=.returned (.int .i64 0)∧∃U',Hs a m w1.heap.size t k M ⟨W,[],[],fun _=>[]⟩ w' U'∧Gw w w' U U'):=fun w1 ad' cap' t h1=>by
  have h2:=(h1.blk (gob (.pointer (some ⟨a,0,none⟩)) (.pointer (some ⟨m,0,none⟩)) (.slice ad' W.length cap') (.pointer (some ⟨t,0,none⟩)) (fun _=>.pointer none) (fun _=>.pointer none) (.map none))).swapAt 2 5 rfl rfl (by decide);refine(nX cx (b:=w1.heap.size) h2).mono ?_;rintro e w' ⟨he,A,B,N',pb,h3⟩;refine⟨he,?_⟩;have h4:=h3.da 0 (P:=Am 111 a M.bs M.ss) (Q:=Ct m k M.has) rfl (Am.good ..) (Ct.good ..);have h5:=h4.swapAt 3 9 rfl rfl (by decide);have h6:=h5.swapAt 5 9 rfl rfl (by decide);have h7:aa (Bare w) w' ([Am 111 a M.bs M.ss,Old w U,Blk w1.heap.size (gob (.pointer (some ⟨a,0,none⟩)) (.pointer (some ⟨m,0,none⟩)) (.slice ad' W.length cap') (.pointer (some ⟨t,0,none⟩)) (pvp 24 A (fun _=>.pointer none)) (pvp 8 N' (fun _=>.pointer none)) (.map (some pb))),Ct m k M.has,Tm t [],Lv ad' W,Fam 24 (shp 24 A B),Fam 8 (lnp 8 N'),Mg pb 0 (fun _=>none)]++[Lv ad W]):=h6;obtain⟨x',⟨e1,e2,e3,e4,e5⟩,h8⟩:=begun (x:=⟨a,m,w1.heap.size,t,k,ad',cap',A,B,N',pb⟩) h7.less;have:=Hz.finish h8 hlt (gV (Wd:=W));rw[e1,e2,e3,e4,e5] at this;exact this
 clear T0 cx hlt h gr fu hW;generalize W.length=wl at *;go_enter Tryz.func56,Tryz.ntmps56;go_wp2_with fail;refine H1.out.mono ?_;rintro e w1 ⟨ad',cap',rfl,h1⟩;have H4:=hid (H2.out _ _ h1);clear h1 H1 H2;go_wp2_with fail;refine H4.out.mono ?_;rintro e w2 ⟨t,rfl,h2⟩;have H5:=hid (H3.out _ _ cap' _ h2);clear h2 H3 H4;go_wp2_with fail;refine H5.out.mono ?_;rintro e w3 ⟨rfl,U',k1,k2⟩;have T3:=hid (And.intro k1 k2);clear k1 k2 H5;go_wp2;go_ret2;exact⟨w2.heap.size,t,U',by simp,T3.out⟩
end
structure Two(k b:Nat)(M:Ms)(H H':Hp):Prop where
 ok:HpOk (fun q=>Cq.inW k H.W q=true) M H
 ok':HpOk (fun q=>Cq.inW k H'.W q=true) M H'
 ms:MsOk M
 k1:1≤k
 k2:k≤32
 ss:M.ss.length≤b
 W:H.W.length≤17592186044416
 W':H'.W.length≤17592186044416
 dj:∀q,Pgs H.T q→¬Pgs H'.T q
section
variable{k b:Nat}{M M1:Ms}{H H' H1:Hp}
theorem TpOk.few{C:Nat→Prop}{has:List Bool}{T:Tb}(h:TpOk C has T):T.length≤has.length:=by
 have hn:(T.map fun y=>y.2.toNat).Nodup:=by
  rw[List.nodup_iff_pairwise_ne,List.pairwise_map];have h2:=h.tb.inj;refine List.Pairwise.imp_of_mem ?_ h2;intro x y hx hy hne e;have h3:=(h.tk x hx).1;have h4:=(h.tk y hy).1;exact hne (by omega)
 have:=aE has.length _ hn fun x hx=>by
  obtain⟨y,hy,rfl⟩:=List.mem_map.1 hx;exact(h.tk y hy).2.1
 rwa [List.length_map] at this
theorem hFr_ok{C:Nat→Prop}(h:HpOk C M H)(ok:MsOk M)(c s j E:Int):eX C M H (hFr M H c s j E).1 (hFr M H c s j E).2.1∧(hFr M H c s j E).2.1.W=H.W∧(hFr M H c s j E).1.ss.length≤M.ss.length+18:=by
 unfold hFr;split
 ·exact hF_ok h ok _ _ _
 ·exact⟨h.left ok,rfl,by simp⟩
end
def S2(a m k:Nat)(M:Ms)(h t:Nat)(H:Hp)(h' t':Nat)(H':Hp):World→(Nat→Prop)→Prop:=Both (Ac a m k M) (Both (Hm h a m t k H) (Hm h' a m t' k H'))
section
variable{W w:World}{ts:List (World→(Nat→Prop)→Prop)}{a m k h t h' t' b:Nat}{M:Ms}{H H':Hp}{U:Nat→Prop}
theorem gx{U:Nat→Prop}(gr:G17 W)(h:∀i,U i→W.heap.size≤i):cO U:=⟨fun e=>by have:=h _ e;have:=Tab.pos gr.1;omega,fun e=>by have:=h _ e;have:=Sf.Tab.pos gr.2;omega⟩
theorem aa.AW{P P':World→(Nat→Prop)→Prop}(q:aa W w ts)(gr:G17 W)(j:Nat)(hj:ts[j]? =some P)(hP:Good P'){Pg:Program}{F:Nat}{args:Array Value}{R:Ending→Prop}
  (base:∀U,P w U→cO U→Calls Pg F args w fun e w'=>R e∧∃U',P' w' U'∧Gw w w' U U'):Calls Pg F args w fun e w'=>R e∧aa W w' (ts.set j P'):=by
 obtain⟨U,h1,h0,h2⟩:=q.turn j hj;exact(base U h1 (gx gr fun i hi=>(h0 i hi).1)).mono fun e w' ⟨he,U',g1,g2⟩=>⟨he,h2 P' w' U' hP g1 g2⟩
end
section
variable{W w:World}{ts:List (World→(Nat→Prop)→Prop)}{a m k h t h' t' b:Nat}{M:Ms}{H H':Hp}{l:List Int}{ad:Option Addr}{cap:Nat}
theorem sV(q:aa W w ts)(n:Nat)(hn:n≤2097152):Calls Tryz.prog 24 #[.int .i64 n] w fun e w'=>∃a,e=.returned (.tuple #[.pointer (some ⟨a,0,none⟩),.int .i64 0])∧aa W w' (ts++[Am 111 a (List.replicate n 0) []]):=
 (am_new n w hn).mono fun _ _ ⟨a,_,he,hm,hz,f⟩=>⟨a,he,q.more (Am.good _ _ _ _) hm f fun i hi=>⟨hz i hi,hm.lt i hi⟩⟩
theorem q_map(q:aa W w ts)(gr:G17 W){n k:Nat}(hc:Cq.Cfg n k):Calls Tryz.prog 23 #[.agg #[.int .i64 (n:Int),.int .i64 (k:Int)]] w fun e w'=>∃m,e=.returned (.tuple #[.pointer (some ⟨m,0,none⟩),.int .i64 0])∧aa W w' (ts++[Ct m k (List.replicate n false)]):=
 (ct_new hc (gr.fr q.nw.fr)).mono fun _ _ ⟨m,_,he,hm,f,hz⟩=>⟨m,he,q.more (Ct.good ..) hm f hz⟩
theorem aa.list(q:aa W w ts)(l:List Int){T:TypeId}(_:l≠[]):aa W (w.alloc (.cells (ic l).toArray T)) (ts++[Lv (some ⟨w.heap.size,0,none⟩) l]):=by
 have f:Fr (fun _=>False) w (w.alloc (.cells (ic l).toArray T)):=(Fr.refl _ _).alloc _;refine q.more (Lv.good _ _) (Z:=fun i=>i=w.heap.size) ⟨wJ (heap_alloc_new w _) (Fr.refl _ _),fun b off e _=> ?_,fun i e=>by subst e;simp⟩ f fun i e=>by subst e;simp
 simp only[Option.some.injEq,Addr.mk.injEq] at e;exact e.1.symm
theorem q_new(q:aa W w ts)(gr:G17 W)(j:Nat)(hj:ts[j]? =some (Both (Ac a m k M) (Lv ad l)))(ms:MsOk M)(h1:1≤k)(h2:k≤32)(hl:l.length≤17592186044416):Calls Tryz.prog 56 #[.pointer (some ⟨a,0,none⟩),.pointer (some ⟨m,0,none⟩),.slice ad l.length cap] w fun e w'=>∃h t,e=.returned (.tuple #[.pointer (some ⟨h,0,none⟩),.int .i64 0])∧aa W w' (ts.set j (Hs a m h t k M ⟨l,[],[],fun _=>[]⟩)):=by
 obtain⟨Z,p1,p0,p2⟩:=q.turn j hj;exact(y_new p1 (gr.fr q.nw.fr) (gx gr fun i hi=>(p0 i hi).1) ms h1 h2 hl).mono fun e w' ⟨h,t,U',he,r,f⟩=>⟨h,t,he,p2 _ w' U' (Hs.good ..) r f⟩
theorem wj(q:aa W w ts)(gr:G17 W)(j:Nat)(hj:ts[j]? =some (Hs a m h t k M H))(c:Hc k M H){n:Int}(hn:I64 n):Calls Tryz.prog 127 #[.pointer (some ⟨h,0,none⟩),.int .i64 n] w fun e w'=>e=.returned (.tuple #[.int .i64 (hM k M H n).2.2.1,.int .i64 (hM k M H n).2.2.2])∧aa W w' (ts.set j (Hs a m h t k (hM k M H n).1 (hM k M H n).2.1)):=
 q.AW gr j hj (Hs.good ..) fun _ p u=>vD p (gr.fr q.nw.fr) u c hn
theorem q_free(q:aa W w ts)(gr:G17 W)(j:Nat)(hj:ts[j]? =some (Hs a m h t k M H))(c:Hc k M H){x kd s i E:Int}(hf:eY x kd s i E)(hx:I64 x):Calls Tryz.prog 88 #[.pointer (some ⟨h,0,none⟩),.int .i64 x] w fun e w'=>e=.returned (.int .i64 (hFr M H kd s i E).2.2)∧aa W w' (ts.set j (Hs a m h t k (hFr M H kd s i E).1 (hFr M H kd s i E).2.1)):=
 q.AW gr j hj (Hs.good ..) fun _ p u=>y_free p (gr.fr q.nw.fr) u c hf hx
end
theorem uB{n k:Nat}(hc:Cq.Cfg n k){l:List Int}(hl:l.length≤17592186044416):Hc k ⟨List.replicate n false,List.replicate (n * 512) 0,[]⟩ ⟨l,[],[],fun _=>[]⟩:=by
 obtain⟨c1,c2,c3,c4,_⟩:=hc;refine⟨⟨⟨TbOk.none,fun y hy=>(by cases hy)⟩,List.nodup_nil,fun y hy=>(by cases hy),fun y hy=>(by cases hy),fun y hy=>(by cases hy),fun y hy=>(by cases hy),fun c=>⟨List.nodup_nil,fun v=>⟨fun e=>(by cases e),fun⟨y,hy,_⟩=>(by cases hy)⟩⟩⟩,⟨by simp,by simp;omega,fun q hq _=> ?_⟩,by omega,by omega,by simp,hl⟩;simp only[List.length_replicate] at hq;unfold win nz;rw[List.drop_replicate,List.take_replicate];congr 1;omega
theorem Hc.zc{k:Nat}{M:Ms}{H:Hp}(c:Hc k M H)(n:Int)(hs:M.ss.length≤800000):Hc k (hM k M H n).1 (hM k M H n).2.1∧(hM k M H n).1.ss.length≤M.ss.length+2:=by
 obtain⟨l,lW,ls⟩:=(iB (fun _=>id) c.ok c.ms n).ok c.ok c.ms;refine⟨⟨?_,l.ms,c.k1,c.k2,by omega,by rw[lW];exact c.W⟩,ls⟩;rw[lW];exact l.ok
theorem Hc.free{k:Nat}{M:Ms}{H:Hp}(c:Hc k M H)(kd s i E:Int)(hs:M.ss.length≤800000):Hc k (hFr M H kd s i E).1 (hFr M H kd s i E).2.1∧(hFr M H kd s i E).1.ss.length≤M.ss.length+18:=by
 obtain⟨l,lW,ls⟩:=hFr_ok c.ok c.ms kd s i E;refine⟨⟨?_,l.ms,c.k1,c.k2,by omega,by rw[lW];exact c.W⟩,ls⟩;rw[lW];exact l.ok
abbrev InAr(N:Nat)(L:List Sq):Prop:=∀s∈L,s.1+s.2.1≤N
abbrev VwOk(T:Tb)(N:Nat)(a n:Int):Prop:=piE T a n=0∧InAr N (piL T a n)
def vwE(T:Tb)(N:Nat)(a n:Int):Int:=if VwOk T N a n then 0 else 4
def rdB(bs:List UInt8):List Sq→List UInt8
 |[]=>[]
 |s::r=>(bs.drop s.1.toNat).take s.2.1.toNat++rdB bs r
def wrB(bs:List UInt8):List Sq→List UInt8→List UInt8
 |[],_=>bs
 |s::r,ds=>wrB (over bs s.1.toNat (ds.take s.2.1.toNat)) r (ds.drop s.2.1.toNat)
def zrB(bs:List UInt8):List Sq→List UInt8
 |[]=>bs
 |s::r=>zrB (over bs s.1.toNat (List.replicate s.2.1.toNat 0)) r
def tch(L:List Sq)(wr:Bool):List Sp:=L.map fun s=>(s.1,s.2.1,wr)
def vrV(T:Tb)(bs:List UInt8)(a n:Int):List UInt8:=if VwOk T bs.length a n then rdB bs (piL T a n) else[]
def vrT(T:Tb)(N:Nat)(ss:List Sp)(a n:Int):List Sp:=if VwOk T N a n then ss++tch (piL T a n) false else ss
def vwB(T:Tb)(bs:List UInt8)(a:Int)(ds:List UInt8):List UInt8:=if VwOk T bs.length a ds.length then wrB bs (piL T a ds.length) ds else bs
def vwT(T:Tb)(N:Nat)(ss:List Sp)(a n:Int):List Sp:=if VwOk T N a n then ss++tch (piL T a n) true else ss
def vzB(T:Tb)(bs:List UInt8)(a n:Int):List UInt8:=if VwOk T bs.length a n then zrB bs (piL T a n) else bs
abbrev VcOk(T:Tb)(N:Nat)(to fm n:Int):Prop:=VwOk T N to n∧VwOk T N fm n
def vcE(T:Tb)(N:Nat)(to fm n:Int):Int:=if VcOk T N to fm n then 0 else 4
def vcB(T:Tb)(bs:List UInt8)(to fm n:Int):List UInt8:=if VcOk T bs.length to fm n then wrB bs (piL T to n) (rdB bs (piL T fm n)) else bs
def vcT(T:Tb)(N:Nat)(ss:List Sp)(to fm n:Int):List Sp:=if VcOk T N to fm n then ss++tch (piL T fm n) false++tch (piL T to n) true else ss
structure Apt(N:Nat)(L:List Sq):Prop where
 at_:∀s∈L,0≤s.1∧1≤s.2.1∧s.1+s.2.1≤N
 apart:L.Pairwise fun s t=>s.1+s.2.1≤t.1∨t.1+t.2.1≤s.1
theorem Apt.tail{N:Nat}{s:Sq}{L:List Sq}(h:Apt N (s::L)):Apt N L:=⟨fun x hx=>h.at_ x (List.mem_cons_of_mem _ hx),(List.pairwise_cons.1 h.apart).2⟩
theorem Apt.head{N:Nat}{s:Sq}{L:List Sq}(h:Apt N (s::L)):s.1.toNat+s.2.1.toNat≤N∧(s.1.toNat:Int)=s.1∧(s.2.1.toNat:Int)=s.2.1:=by
 have:=h.at_ s (List.mem_cons_self ..);omega
def lenL:List Sq→Nat
 |[]=>0
 |s::r=>s.2.1.toNat+lenL r
theorem du{bs:List UInt8}:∀{L:List Sq},Apt bs.length L→(rdB bs L).length=lenL L
 |[],_=>rfl
 |s::r,h=>by
  have h1:=h.head;simp only[rdB,lenL,List.length_append,List.length_take,List.length_drop,du h.tail];omega
theorem take_len{ds:List UInt8}{k:Nat}(h:k≤ds.length):(ds.take k).length=k:=by rw[List.length_take];omega
theorem cZ{bs ds:List UInt8}{s:Sq}{r:List Sq}(h:Apt bs.length (s::r)):(over bs s.1.toNat (ds.take s.2.1.toNat)).length=bs.length:=al _ _ _ (by have:=h.head;rw[List.length_take];omega)
theorem eZ:∀{L:List Sq} {bs ds:List UInt8},Apt bs.length L→(wrB bs L ds).length=bs.length
 |[],bs,ds,_=>rfl
 |s::r,bs,ds,h=>by
  have e:=cZ (ds:=ds) h;unfold wrB;rw[eZ (by rw[e];exact h.tail),e]
theorem iX:∀{L:List Sq} {bs:List UInt8},Apt bs.length L→(zrB bs L).length=bs.length
 |[],bs,_=>rfl
 |s::r,bs,h=>by
  have e:(over bs s.1.toNat (List.replicate s.2.1.toNat 0)).length=bs.length:=al _ _ _ (by have:=h.head;rw[List.length_replicate];omega);unfold zrB;rw[iX (by rw[e];exact h.tail),e]
theorem mU:∀{L:List Sq} {bs ds:List UInt8},Apt bs.length L→∀i:Nat,(∀s∈L,(i:Int)<s.1∨s.1+s.2.1≤i)→(wrB bs L ds)[i]? =bs[i]?
 |[],bs,ds,_,i,_=>rfl
 |s::r,bs,ds,h,i,hi=>by
  have e:=cZ (ds:=ds) h;have h1:=h.head;have h2:=hi s (List.mem_cons_self ..);unfold wrB;rw[mU (by rw[e];exact h.tail) i fun t ht=>hi t (List.mem_cons_of_mem _ ht),bD _ _ _ (by rw[List.length_take];omega)];by_cases h3:i<s.1.toNat
  ·rw[if_pos h3]
  ·rw[if_neg h3,if_neg (by rw[List.length_take];omega)]
theorem Ap{bs cs:List UInt8}{p m:Nat}(h:∀i,p≤i→i<p+m→bs[i]? =cs[i]?):(bs.drop p).take m=(cs.drop p).take m:=by
 apply List.ext_getElem?;intro i;by_cases hi:i<m
 ·rw[List.getElem?_take_of_lt hi,List.getElem?_take_of_lt hi,List.getElem?_drop,List.getElem?_drop];exact h _ (by omega) (by omega)
 ·rw[List.getElem?_eq_none (by simp;omega),List.getElem?_eq_none (by simp;omega)]
theorem wh{bs ds:List UInt8}{p:Nat}(h:p+ds.length≤bs.length):((over bs p ds).drop p).take ds.length=ds:=by
 apply List.ext_getElem?;intro i;by_cases hi:i<ds.length
 ·rw[List.getElem?_take_of_lt hi,List.getElem?_drop,bD _ _ _ h,if_neg (by omega),if_pos (by omega),show p+i - p=i by omega]
 ·rw[List.getElem?_eq_none (by simp;omega),List.getElem?_eq_none (by omega)]
theorem rd_wr:∀{L:List Sq} {bs ds:List UInt8},Apt bs.length L→ds.length=lenL L→rdB (wrB bs L ds) L=ds
 |[],bs,ds,_,hl=>by
  have:ds=[]:=List.eq_nil_of_length_eq_zero hl;rw[this];rfl
 |s::r,bs,ds,h,hl=>by
  have e:=cZ (ds:=ds) h;have h1:=h.head;have hl':ds.length=s.2.1.toNat+lenL r:=hl;have ht:(ds.take s.2.1.toNat).length=s.2.1.toNat:=take_len (by omega);have ih:=rd_wr (L:=r) (bs:=over bs s.1.toNat (ds.take s.2.1.toNat)) (ds:=ds.drop s.2.1.toNat) (by rw[e];exact h.tail) (by rw[List.length_drop];omega);show((wrB bs (s::r) ds).drop s.1.toNat).take s.2.1.toNat++rdB (wrB bs (s::r) ds) r=ds;have hw:wrB bs (s::r) ds=wrB (over bs s.1.toNat (ds.take s.2.1.toNat)) r (ds.drop s.2.1.toNat):=rfl;rw[hw,ih,Ap (cs:=over bs s.1.toNat (ds.take s.2.1.toNat)) fun i i1 i2=>mU (by rw[e];exact h.tail) i fun t ht=> ?_]
  ·have:=wh (bs:=bs) (ds:=ds.take s.2.1.toNat) (p:=s.1.toNat) (by omega);rw[ht] at this;rw[this,List.take_append_drop]
  ·have h3:=(List.pairwise_cons.1 h.apart).1 t ht;omega
theorem VwOk.apt{T:Tb}{N:Nat}{a n:Int}(ok:TbOk T)(h:VwOk T N a n):Apt N (piL T a n)∧lenL (piL T a n)=n.toNat∧(piL T a n).length≤n.toNat / 512+2∧∀s∈piL T a n,¬tbH T (s.1 / 512)<0∧s.1 % 512+s.2.1≤512:=by
 obtain⟨h1,h2⟩:=fX h.1;have pk:=lD (T:=T) (a:=a) (by have:=h1.2.1;omega) n.toNat _ h2;have har:=h.2;generalize piL T a n=L at *;refine⟨⟨fun s hs=> ?_,?_⟩,?_,?_,fun s hs=> ?_⟩
 ·obtain⟨j,hj,rfl⟩:=List.getElem_of_mem hs;obtain⟨a1,a2,_⟩:=pk.all j hj;exact⟨a1,a2,har _ hs⟩
 ·rw[List.pairwise_iff_getElem];intro i j hi hj hij;obtain⟨a1,a2,a3,_⟩:=pk.all i hi;obtain⟨b1,b2,b3,_⟩:=pk.all j hj;have hne:L[i].1 / 512≠L[j].1 / 512:=fun e=>by have:=pk.apart ok hi hj e;omega
  omega
 ·have hs:=pk.sum;have hall:∀s∈L,0≤s.2.1:=fun s hs=>by
   obtain⟨j,hj,rfl⟩:=List.getElem_of_mem hs;have:=(pk.all j hj).2.1;omega
  have key:∀M:List Sq,(∀s∈M,0≤s.2.1)→(M.map fun s=>s.2.1).sum=(lenL M:Int):=by
   intro M
   induction M with
   |nil=>intro _;rfl
   |cons s r ih=>
    intro hM;have h0:=hM s (List.mem_cons_self ..);simp only[List.map_cons,List.sum_cons,lenL,ih fun t ht=>hM t (List.mem_cons_of_mem _ ht)];omega
  rw[key L hall] at hs;omega
 ·rcases pk.last with⟨_,rfl⟩|⟨L0,s,rfl,h3,h4⟩
  ·simp
  ·have hb:=(pk.all L0.length (by simp)).2.1;have hc:=(pk.all L0.length (by simp)).1;simp only[List.getElem_concat_length] at hb hc;rw[List.length_append,List.length_singleton];omega
 ·obtain⟨j,hj,rfl⟩:=List.getElem_of_mem hs;exact⟨pk.held ok hj,(pk.all j hj).2.2.1⟩
theorem VwOk.len{T:Tb}{N:Nat}{a n:Int}(h:VwOk T N a n):0≤n:=(fX h.1).1.1
theorem dr(L:List Sq)(b:Bool):(tch L b).length=L.length:=by simp[tch]
def vwL(T:Tb)(N:Nat)(x n:Int):List Sq:=if VwOk T N x n then piL T x n else[]
theorem gG{T:Tb}(ok:TbOk T){N:Nat}{x n:Int}(hn:n≤16384):Apt N (vwL T N x n)∧(vwL T N x n).length≤34∧lenL (vwL T N x n)≤16384:=by
 unfold vwL;split
 ·rename_i h;obtain⟨a1,a2,a3,_⟩:=h.apt ok;exact⟨a1,by omega,by omega⟩
 ·exact⟨⟨fun s hs=>by simp at hs,.nil⟩,by simp,by simp[lenL]⟩
theorem dO:∀L M:List Sq,lenL (L++M)=lenL L+lenL M
 |[],M=>by simp[lenL]
 |s::r,M=>by simp only[List.cons_append,lenL,dO r M];omega
theorem jG{L:List Sq}{k:Nat}(hk:k<L.length)(b:Bool):tch (L.take (k+1)) b=tch (L.take k) b++[(L[k].1,L[k].2.1,b)]:=by
 unfold tch;rw[List.take_succ_eq_append_getElem hk,List.map_append];rfl
theorem wg(bs:List UInt8){L:List Sq}{k:Nat}(hk:k<L.length):rdB bs (L.take (k+1))=rdB bs (L.take k)++(bs.drop L[k].1.toNat).take L[k].2.1.toNat:=by
 rw[List.take_succ_eq_append_getElem hk];generalize L.take k=M
 induction M with
 |nil=>simp[rdB]
 |cons s r ih=>simp only[List.cons_append,rdB,ih,List.append_assoc]
theorem Apt.at{N:Nat}{L:List Sq}(h:Apt N L){k:Nat}(hk:k<L.length):L[k].1.toNat+L[k].2.1.toNat≤N∧(L[k].1.toNat:Int)=L[k].1∧(L[k].2.1.toNat:Int)=L[k].2.1∧0<L[k].2.1.toNat:=by
 have:=h.at_ L[k] (List.getElem_mem hk);omega
theorem vw{L:List Sq}{k:Nat}(hk:k<L.length)(bs:List UInt8):zrB bs (L.take (k+1))=over (zrB bs (L.take k)) L[k].1.toNat (List.replicate L[k].2.1.toNat 0):=by
 rw[List.take_succ_eq_append_getElem hk];generalize L.take k=M
 induction M generalizing bs with
 |nil=>simp[zrB]
 |cons s r ih=>simp only[List.cons_append,zrB,ih]
theorem vF{L:List Sq}{k:Nat}(hk:k<L.length)(bs ds:List UInt8):wrB bs (L.take (k+1)) ds=over (wrB bs (L.take k) ds) L[k].1.toNat ((ds.drop (lenL (L.take k))).take L[k].2.1.toNat):=by
 rw[List.take_succ_eq_append_getElem hk];generalize L.take k=M
 induction M generalizing bs ds with
 |nil=>simp[wrB,lenL]
 |cons s r ih=>simp only[List.cons_append,wrB,ih,lenL,List.drop_drop]
theorem Apt.take{N:Nat}{L:List Sq}(h:Apt N L)(k:Nat):Apt N (L.take k):=⟨fun s hs=>h.at_ s (List.mem_of_mem_take hs),h.apart.sublist (List.take_sublist _ _)⟩
end Go.Proofs.YtndhbnhobhkmaaaGreatDoor
