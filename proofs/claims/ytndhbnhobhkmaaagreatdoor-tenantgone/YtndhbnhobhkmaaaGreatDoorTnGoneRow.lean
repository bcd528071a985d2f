/-
  Of every configuration, every script of calls and every number: the law TenantGone answers true: a handle of an object that was freed, or moved, or of a tenant that was dropped, is never good again, and a new handle is none of these. No condition but what the card says of the arguments and of the package variables.
-/
import Derived.Test.YtndhbnhobhkmaaaGreatDoorBothLaid
import Derived.Test.YtndhbnhobhkmaaaGreatDoorTie
import Derived.Test.YtndhbnhobhkmaaaGreatDoorCards
import Derived.Test.YtndhbnhobhkmaaaGreatDoorTnScript
namespace Go.Proofs.YtndhbnhobhkmaaaGreatDoor
open Go.ChangeShapes Go.WideShapes Go.ChangeAt Go.RowKit
set_option maxRecDepth 100000 in
theorem fh(os:Os)(started:os.Started)(H:Type)(enc:TypeId×Value→H):
  ReturnsInHanded {} Tryz.checked os 5 .any (fun w args=>(Rows.tenantGoneSpec.pre enc Tryz.prog Tryz.f5 [] false w args∧laidMetH Tryz.prog qW w)∧sizedMet enc Tryz.prog Tryz.f5 (OpenSpec.ofChange Rows.tenantGoneSpec) false w args)
   (Rows.tenantGoneSpec.post enc Tryz.prog Tryz.f5 false true false false):=by
 refine returnsInHanded_of_change_and (C:=Tryz.checked) (X:=fun w _=>laidMetH Tryz.prog qW w) (fun _ _ _ hh h=>h.of_heap hh) own started (by kernel_rfl) Tryz.func5
  (ChangeSpec.witness_shaped (enc:=enc) (C:=Tryz.checked) (os:=os) (X:=fun w _=>laidMetH Tryz.prog qW w) false (World.doorLaid Tryz.prog 14 os) #[.agg #[.int .i64 0,.int .i64 0,.int .i64 0,.int .i64 0,.int .i64 0,.slice none 0 0],.slice none 0 0,.int .i64 0] 8 rfl (World.shaped_of_RefB (by kernel_rfl) (by kernel_rfl)) (by kernel_rfl) (by kernel_rfl) (by kernel_rfl) (xP os _)) ?_
 intro W base args ds gs before hval0 hW _ hSz hL _;have hTab:=tab_of hL;have hval:∀(j:Nat) t v,Tryz.f5.params[j]? =some t→args[j]? =some v→Value.okWide Tryz.prog W .any base t v:=hval0;have hW':=hW;obtain⟨p,q,hA0,hV,rfl,_,_⟩:=hW;have hA:DataW.TrodAll enc Tryz.prog W 0 (fun _=>true) true Tryz.f5.params.toList args.toList ds p:=hA0;rw[Tryz.params5] at hA hval hSz;obtain⟨v0,vs0,d0,ds0,p0,q0,hargs,rfl,rfl,h0,r0⟩:=trodAll_cons hA;obtain⟨v1,vs1,d1,ds1,p1,q1,rfl,rfl,rfl,h1,r1⟩:=trodAll_cons r0;obtain⟨v2,vs2,d2,ds2,p2,q2,rfl,rfl,rfl,h2,r2⟩:=trodAll_cons r1;obtain⟨rfl,rfl,rfl⟩:=trodAll_nil r2;obtain rfl:args=#[v0,v1,v2]:=by cases args;simp_all
 obtain⟨rfl,rfl⟩:=trodVars_none hV;have k0:=h0;have z0:∀n∈d0.weights Tryz.prog 26,n≤reachBytes:=fun n hn=>by simpa using List.all_eq_true.1 hSz n (DataW.weights_mem_each (j:=0) (t:=26) (d:=d0) rfl rfl n hn)
 obtain⟨c0,rfl,hc0⟩:=nE (hval 0 26 v0 rfl rfl) h0 z0;have z1:∀n∈d1.weights Tryz.prog 27,n≤reachBytes:=fun n hn=>by simpa using List.all_eq_true.1 hSz n (DataW.weights_mem_each (j:=1) (t:=27) (d:=d1) rfl rfl n hn)
 have s1:=jW (hval 1 27 v1 rfl rfl) h1 z1;have k1:=h1;obtain⟨a2,rfl,rfl,rfl,w2⟩:=open_int Tryz.underlying3 (hval 2 3 v2 rfl rfl) h2;clear hA0 hval0;simp only[List.append_nil] at hW';have lt0:∀x∈p0,x.block<W.heap.size:=fun x hx=>hW'.lt x (by simp[hx])
 have lt1:∀x∈p1,x.block<W.heap.size:=fun x hx=>hW'.lt x (by simp[hx])
 refine(xD hTab hc0 s1 a2).mono fun e W' ⟨he,hg⟩=> ?_
 subst he;have bel:Below W.heap.size W W':=hg.below (Nat.le_refl _) (fun _ _ h=>h);exact⟨_,rfl,_,_,_,[],_,[],hW',trodAll_mk1 (shut_bool Tryz.underlying4 _),(trodAll_cons_mk (Below.trod laidOut (by kernel_rfl) (of_decide_eq_true (by kernel_rfl)) k0 bel lt0) (trodAll_cons_mk (Below.trod laidOut (by kernel_rfl) (of_decide_eq_true (by kernel_rfl)) k1 bel lt1) (trodAll_cons_mk (shut_int Tryz.underlying3 w2) trodAll_mk0))),rfl,bel.frame _,fun h=>by cases h⟩
theorem fP:Rows.TenantGoneSaid:=
 OpenClaim.holds_of_wide 5 Tryz.f5 rfl rfl rfl rfl rfl rfl rfl ⟨rfl,rfl,rfl,rfl,rfl⟩ rfl rfl rfl rfl rfl (by kernel_rfl) Tryz.func5 (by kernel_rfl)
  (of_decide_eq_true (by kernel_rfl)) (by unfold Func.isWrapper;first|(rw[if_pos (by decide+kernel)];kernel_rfl)|(rw[if_neg (by decide+kernel)];exact⟨rfl,rfl⟩))
  (fun os started H enc _=>fh os started H enc)
theorem tenantGone_card:Rows.TenantGoneCardSaid:=
 Claim7.holds_tied_plain_at .later [] [.data,.data] true (true,"6d4589ddeac2d4a7417d7568e94f5fc05ffe55a561edb285bd8b48c1ee6fea16") false
  fP (fun _ h=>by cases h) (by kernel_rfl) (fun _ h=>by cases h) tenantGone_row_tie rfl ⟨rfl,rfl⟩ (by kernel_rfl) rfl
  (fun f fn hf hfn=>by
   obtain rfl:f=5:=Option.some.inj ((show Tryz.prog.funcNamed "garth/garthlaw18.TenantGone" =some 5 by kernel_rfl).symm.trans hf)|>.symm;obtain rfl:fn=Tryz.f5:=(Option.some.inj (Tryz.func5.symm.trans hfn)).symm;exact⟨by kernel_rfl,fun j t ht=>by
    rw[Tryz.params5] at ht;have hm:t∈[26,27,3]:=by simpa using Array.mem_of_getElem? ht
    have hall:([26,27,3].all fun u=> !Tryz.prog.wantsStandIn u)=true:=by kernel_rfl
    exact(show Tryz.prog.wantsStandIn t=false by simpa using List.all_eq_true.1 hall t hm)⟩)
  (by kernel_rfl)
#print axioms tenantGone_card
end Go.Proofs.YtndhbnhobhkmaaaGreatDoor
