/-
  What the calls of package tenant do: giveBack, release, own.
  What the calls of package tenant do: Malloc, Restrict, Free, Usable, reach.
-/
import Derived.Test.YtioplfbkfokkfaaGreatDoorTnCallsC
namespace Go.Proofs.YtioplfbkfokkfaaGreatDoor
open Go.RowKit
open An

theorem upd_arm {P : Program} {w w' : World} {ops : Array Oper} {o : Oper} {a : Act} {K : Act → World → Prop} {Q : Exit → Act → World → Prop} (hgd : o.guard = none) (t : TypeId) (m x v : Operand) (ho : o.op = .mapUpdate t m x v) {y z u : Value} (hm : a.eval m = y) (hx : a.eval x = z) (hv : a.eval v = u)
    (hrun : (Instr.mapUpdate t y z u).run P w = .ok () w') (hK : K (a.put o.dst undef) w') : if Region.wanted o (yielded ops a.tmps) = true then o.wp P a w K Q else K (a.put o.dst undef) w := by
  have hw : Region.wanted o (yielded ops a.tmps) = true := by unfold Region.wanted; rw [hgd]
  rw [if_pos hw]
  unfold Oper.wp
  simp [execOp, ho, hm, hx, hv, hrun, Result.andThen]
  exact hK
theorem build_obj (n : Int) (x y : Nat) : Tryz.prog.built 84 [(0, .int .i64 n), (1, .complex .f64 x y)] = some #[.int .i64 n, .complex .f64 x y] := by kernel_rfl
theorem field_obj (a : Int) (b c : Nat) (w : World) : (Instr.field 84 (.agg #[.int .i64 a, .complex .f64 b c]) 1).run Tryz.prog w = .ok (.complex .f64 b c) w ∧ (Instr.field 84 (.agg #[.int .i64 a, .complex .f64 b c]) 0).run Tryz.prog w = .ok (.int .i64 a) w := by
  constructor <;> kernel_rfl
section
variable {W w : World} {x : Tp} {S : TnS} {ts : List (World → (Nat → Prop) → Prop)}
def gbS (S : TnS) (kd s i E cost : Int) : TnS := { S with M := (hFr S.M S.H kd s i E).1, H := (hFr S.M S.H kd s i E).2.1, s := Qt.refS S.s cost 0 }
set_option maxRecDepth 20000 in
theorem n_giveBack (g : Things W w (tnl x S ts)) (gr : G17 W) (hc : Hc x.k S.M S.H) {addr kd s i E : Int} (hf : FindR addr kd s i E) (ha : I64 addr) {cost : Int} (r : Rt cost 0) : Calls Tryz.prog 57 #[.pointer (some ⟨x.T, 0, none⟩), .int .i64 addr, .complex .f64 (fb cost) (fb 0)] w fun e w' => e = .returned (.tuple #[]) ∧ Things W w' (tnl x (gbS S kd s i E cost) ts) := by
  have G := hid g
  have c3 := tn_cell g 3 rfl
  have H1 : Hid (∀ (w : World), Things W w (tnl x S ts) → Calls Tryz.prog 99 #[.pointer (some ⟨x.h, 0, none⟩), .int .i64 addr] w fun e w' => e = .returned (.int .i64 (hFr S.M S.H kd s i E).2.2) ∧ Things W w' (tnl x { S with M := (hFr S.M S.H kd s i E).1, H := (hFr S.M S.H kd s i E).2.1 } ts)) := fun w g => q_free g gr 0 rfl hc hf ha
  have H2 : Hid (∀ (w : World), Things W w (tnl x { S with M := (hFr S.M S.H kd s i E).1, H := (hFr S.M S.H kd s i E).2.1 } ts) → w.cell? ⟨x.T, 5, none⟩ = some (.pointer (some ⟨x.q, 0, none⟩)) ∧ Calls Tryz.prog 33 #[.pointer (some ⟨x.q, 0, none⟩), .complex .f64 (fb cost) (fb 0)] w fun e w' => e = .returned (.int .i64 (Qt.refE S.s cost 0)) ∧ Things W w' (tnl x (gbS S kd s i E cost) ts)) := fun w g => ⟨tn_cell g 5 rfl, kq_ref g 2 rfl r⟩
  generalize gbS S kd s i E cost = S2 at *
  generalize (hFr S.M S.H kd s i E).2.2 = fe at *
  generalize { S with M := (hFr S.M S.H kd s i E).1, H := (hFr S.M S.H kd s i E).2.1 } = S1 at *
  generalize Qt.refE S.s cost 0 = re at *
  generalize fb cost = xb at *
  generalize fb 0 = yb at *
  clear g gr hc hf ha r
  go_enter Tryz.func57, Tryz.ntmps57
  go_wp2_with fail
  refine (H1.out _ G.out).mono ?_
  rintro e w1 ⟨rfl, g1⟩
  have G1 := hid g1
  obtain ⟨c5, hr⟩ := H2.out _ g1
  have HR := hid hr
  clear g1 G H1 c3 H2 hr
  go_wp2_with fail
  refine HR.out.mono ?_
  rintro e w2 ⟨rfl, g2⟩
  have G2 := hid g2
  clear g2 G1 HR c5
  go_wp2
  go_end0
  exact ⟨rfl, G2.out⟩
def rlS (S : TnS) (addr kd s i E cost : Int) : TnS := { gbS S kd s i E cost with c := Ka.rvS S.c addr, f := fun z => if z = addr then none else S.f z, n := S.n - 1 }
set_option maxRecDepth 20000 in
theorem n_release (g : Things W w (tnl x S ts)) (gr : G17 W) (hc : Hc x.k S.M S.H) {addr kd s i E : Int} (hf : FindR addr kd s i E) (ha : I64 addr) {y : Int × Int} (hy : S.f addr = some y) (r : Rt y.2 0) : Calls Tryz.prog 50 #[.pointer (some ⟨x.T, 0, none⟩), .int .i64 addr] w fun e w' => e = .returned (.tuple #[]) ∧ Things W w' (tnl x (rlS S addr kd s i E y.2) ts) := by
  have HWF := hid (wf_small ha.1 ha.2)
  have G : Hid (Things W w (tnl x S ts)) := g
  have c7 := tn_cell G.out 7 rfl
  have hlk := (G.out.oo 3 rfl).look HWF.out hy
  have H1 : Hid (∀ (w : World), Things W w (tnl x S ts) → Calls Tryz.prog 57 #[.pointer (some ⟨x.T, 0, none⟩), .int .i64 addr, .complex .f64 (fb y.2) (fb 0)] w fun e w' => e = .returned (.tuple #[]) ∧ Things W w' (tnl x (gbS S kd s i E y.2) ts)) := fun w g => n_giveBack g gr hc hf ha r
  have H2 : Hid (∀ (w : World), Things W w (tnl x (gbS S kd s i E y.2) ts) → w.cell? ⟨x.T, 4, none⟩ = some (.pointer (some ⟨x.c, 0, none⟩)) ∧ Calls Tryz.prog 95 #[.pointer (some ⟨x.c, 0, none⟩), .int .i64 addr] w fun e w' => e = .returned (.int .i64 (Ka.rvN S.c addr : Int)) ∧ Things W w' (tnl x { gbS S kd s i E y.2 with c := Ka.rvS S.c addr } ts)) := fun w g => ⟨tn_cell g 4 rfl, kq_revoke g 1 rfl addr⟩
  have H3 : Hid (∀ (w : World), Things W w (tnl x { gbS S kd s i E y.2 with c := Ka.rvS S.c addr } ts) → w.cell? ⟨x.T, 7, none⟩ = some (.map (some x.B)) ∧ Oo w x.B S.n S.f S.n ∧ ∀ w', Oo w' x.B S.n (fun z => if z = addr then none else S.f z) (S.n - (if (S.f addr).isSome then 1 else 0)) → Fr (fun i => i = x.B) w w' → Things W w' (tnl x (rlS S addr kd s i E y.2) ts)) := fun w g => ⟨tn_cell g 7 rfl, g.oo 3 rfl, fun w' ho fr => by
    have h := g.ooTurned 3 rfl ho fr
    rw [hy] at h
    exact h⟩
  unfold obV at hlk
  have hfl := fun a b c => (field_obj a b c w).1
  have HS := hid hy
  generalize rlS S addr kd s i E y.2 = S3 at *
  generalize { gbS S kd s i E y.2 with c := Ka.rvS S.c addr } = S2 at *
  generalize gbS S kd s i E y.2 = S1 at *
  generalize (Ka.rvN S.c addr : Int) = rn at *
  generalize fb y.2 = xb at *
  generalize fb 0 = yb at *
  clear g gr hc hf ha r hy
  go_enter Tryz.func50, Tryz.ntmps50
  go_wp2_with fail
  refine (H1.out _ G.out).mono ?_
  rintro e w1 ⟨rfl, g1⟩
  have G1 := hid g1
  obtain ⟨c4, hr⟩ := H2.out _ g1
  have HR := hid hr
  clear g1 G H1 c7 hlk H2 hr hfl
  go_wp2_with fail
  refine HR.out.mono ?_
  rintro e w2 ⟨rfl, g2⟩
  obtain ⟨d7, ho, hp⟩ := H3.out _ g2
  have HO := hid ho
  have HP := hid hp
  clear g2 G1 HR c4 H3 ho hp
  go_wp2_with (at_delete; refine wp_dropO rfl (.tmp 23) (.tmp 24) rfl rfl rfl HWF.out HO.out ?_; intro w5 hO5 hF5; have T5 := hid (HP.out _ hO5 hF5); clear hO5 hF5)
  go_end0
  exact ⟨rfl, T5.out⟩
def owS (S : TnS) (addr n : Int) : TnS := { S with c := Ka.grS S.c addr, f := fun z => if z = addr then some (n, chargeI n) else S.f z, n := if (S.f addr).isSome then S.n else S.n + 1 }
set_option maxRecDepth 20000 in
theorem n_own (g : Things W w (tnl x S ts)) (gr : G17 W) {addr n : Int} (ha : I64 addr) (hm : S.n < maxLen) : Calls Tryz.prog 42 #[.pointer (some ⟨x.T, 0, none⟩), .int .i64 addr, .int .i64 n] w fun e w' => e = .returned (ans (Ka.grE S.c addr) (Ka.grV S.c addr) addr 0 ⟨#[]⟩ S.s.cb) ∧ Things W w' (tnl x (owS S addr n) ts) := by
  have HWF := hid (wf_small ha.1 ha.2)
  have G : Hid (Things W (w.alloc (.cells #[.int .i64 0, .int .u64 0, .int .i64 0, .int .i64 0, .string ⟨#[]⟩, .int .i64 0] 38)) (tnl x S (ts ++ [Blk w.heap.size (.cells #[.int .i64 0, .int .u64 0, .int .i64 0, .int .i64 0, .string ⟨#[]⟩, .int .i64 0] 38 (0, 0))]))) := g.blk (.cells #[.int .i64 0, .int .u64 0, .int .i64 0, .int .i64 0, .string ⟨#[]⟩, .int .i64 0] 38 (0, 0))
  have GD : Hid (Things W (w.alloc (.cells #[.int .i64 0, .int .u64 0, .int .i64 0, .int .i64 0, .string ⟨#[]⟩, .int .i64 0] 38)).drew (tnl x S (ts ++ [Blk w.heap.size (.cells #[.int .i64 0, .int .u64 0, .int .i64 0, .int .i64 0, .string ⟨#[]⟩, .int .i64 0] 38 (0, 0))]))) := G.out.kept (Fr.refl _ _).drew
  have pd := tn_cell GD.out 7 rfl
  have H7 : Hid (∀ (w : World) (S : TnS) (ts : List (World → (Nat → Prop) → Prop)), Things W w (tnl x S ts) → w.cell? ⟨x.T, 7, none⟩ = some (.map (some x.B))) := fun w S ts g => tn_cell g 7 rfl
  have HC := hid fun (w : World) (L : List (World → (Nat → Prop) → Prop)) (g : Things W w L) => n_charge' n gr L g
  have H1 : Hid (∀ (w : World) (ts : List (World → (Nat → Prop) → Prop)), Things W w (tnl x S ts) → ∃ w', (Instr.mapUpdate 68 (.map (some x.B)) (.int .i64 addr) (.agg #[.int .i64 n, .complex .f64 (fb (chargeI n)) (fb 0)])).run Tryz.prog w = .ok () w' ∧ Things W w' (tnl x { S with f := fun z => if z = addr then some (n, chargeI n) else S.f z, n := if (S.f addr).isSome then S.n else S.n + 1 } ts)) := fun w ts g => by
    obtain ⟨w', hr, ho, hf⟩ := (g.oo 3 rfl).store hm HWF.out (n, chargeI n)
    exact ⟨w', hr, g.ooTurned 3 rfl ho hf⟩
  have H2 : Hid (∀ (w : World) (ts : List (World → (Nat → Prop) → Prop)), Things W w (tnl x { S with f := fun z => if z = addr then some (n, chargeI n) else S.f z, n := if (S.f addr).isSome then S.n else S.n + 1 } ts) → w.cell? ⟨x.T, 4, none⟩ = some (.pointer (some ⟨x.c, 0, none⟩)) ∧ Calls Tryz.prog 82 #[.pointer (some ⟨x.c, 0, none⟩), .int .i64 addr] w fun e w' => e = .returned (.tuple #[.int .u64 (Ka.grV S.c addr), .int .i64 (Ka.grE S.c addr)]) ∧ Things W w' (tnl x (owS S addr n) ts)) := fun w ts g => ⟨tn_cell g 4 rfl, kq_grant g gr 1 rfl addr⟩
  have H3 : Hid (∀ (w : World) (ts : List (World → (Nat → Prop) → Prop)) (E hd : Int), Things W w (tnl x (owS S addr n) ts) → Calls Tryz.prog 44 #[.pointer (some ⟨x.T, 0, none⟩), ans E hd addr 0 ⟨#[]⟩ 0] w fun e w' => e = .returned (ans E hd addr 0 ⟨#[]⟩ S.s.cb) ∧ Things W w' (tnl x (owS S addr n) ts)) := fun w ts E hd g => n_say g E hd addr 0 ⟨#[]⟩ 0
  generalize owS S addr n = S2 at *
  generalize { S with f := fun z => if z = addr then some (n, chargeI n) else S.f z, n := if (S.f addr).isSome then S.n else S.n + 1 } = S1 at *
  generalize Ka.grV S.c addr = gv at *
  generalize Ka.grE S.c addr = ge at *
  generalize S.s.cb = cb at *
  generalize fb (chargeI n) = xb at *
  generalize fb 0 = yb at *
  clear g gr ha hm G
  have hbo := build_obj n xb yb
  go_enter Tryz.func42, Tryz.ntmps42
  go_wp2_with fail
  go_region_held3 (fun w' => w'.cell? ⟨x.T, 7, none⟩ = some (.map (some x.B))) (first | assumption | go_keep) (first | (go_at_call 58; refine (HC.out _ _ GD.out).mono ?_; rintro e w2 ⟨rfl, g2⟩; have G2 := hid g2; have p2 := H7.out _ _ _ g2; obtain ⟨w3, hr3, g3⟩ := H1.out _ _ g2; have G3 := hid g3; have p3 := H7.out _ _ _ g3; clear g2 g3) | (refine upd_arm rfl _ (.tmp 12) (.tmp 13) (.tmp 17) rfl rfl rfl rfl hr3 ?_))
  obtain ⟨c4, hr⟩ := H2.out _ _ G3.out
  have HR := hid hr
  clear GD pd HC H1 hbo G2 p2 hr3 p3 H2 hr
  go_wp2_with fail
  refine HR.out.mono ?_
  rintro e w4 ⟨rfl, g4⟩
  have G4 := hid g4
  clear g4 G3 HR c4
  go_wp2_with fail
  refine (H3.out _ _ _ _ G4.out).mono ?_
  rintro e w5 ⟨rfl, g5⟩
  have G5 := hid g5
  clear g5 G4 H3
  have z1 := fun i => box_frz (tn_box G5.out) i
  have b0 := box_cellT (tn_box G5.out) 0 rfl
  have b1 := box_cellT (tn_box G5.out) 1 rfl
  have b2 := box_cellT (tn_box G5.out) 2 rfl
  have b3 := box_cellT (tn_box G5.out) 3 rfl
  have b4 := box_cellT (tn_box G5.out) 4 rfl
  have b5 := box_cellT (tn_box G5.out) 5 rfl
  go_wp2
  clear z1 b0 b1 b2 b3 b4 b5
  obtain ⟨HF, hk⟩ := ans_put (tn_box G5.out) (ge) (gv) (addr) (0) ⟨#[]⟩ (cb)
  have TZ := Things.boxes1 (ts := tnl x S2 ts) G5.out HF
  have k0 := hk 0 _ rfl
  have k1 := hk 1 _ rfl
  have k2 := hk 2 _ rfl
  have k3 := hk 3 _ rfl
  have k4 := hk 4 _ rfl
  have k5 := hk 5 _ rfl
  clear HF hk
  generalize (((((w5.setCell ⟨w.heap.size, 0, none⟩ (.int .i64 (ge))).setCell ⟨w.heap.size, 1, none⟩ (.int .u64 (gv))).setCell ⟨w.heap.size, 2, none⟩ (.int .i64 (addr))).setCell ⟨w.heap.size, 3, none⟩ (.int .i64 (0))).setCell ⟨w.heap.size, 4, none⟩ (.string ⟨#[]⟩)).setCell ⟨w.heap.size, 5, none⟩ (.int .i64 (cb)) = wz at *
  exact bodyPost_ret (v := ans (ge) (gv) (addr) (0) ⟨#[]⟩ (cb)) (by simp [results, Tryz.results42, go_sem, k0, k1, k2, k3, k4, k5]) rfl ⟨rfl, TZ⟩
end
end Go.Proofs.YtioplfbkfokkfaaGreatDoor

namespace Go.Proofs.YtioplfbkfokkfaaGreatDoor
open Go.RowKit
open An

section
variable {W w : World} {x : Tp} {S : TnS} {ts : List (World → (Nat → Prop) → Prop)}
theorem blS_n (k : Nat) (S : TnS) (n : Int) : (blS k S n).n = S.n := by unfold blS; split <;> rfl
theorem tkS_n (k : Nat) (S : TnS) (n : Int) : (tkS k S n).n = S.n := by
  unfold tkS
  split
  · rfl
  · split
    · split
      · exact blS_n k (tk1 S n) n
      · exact blS_n k (tk1 S n) n
    · rfl
set_option maxRecDepth 20000 in
theorem n_malloc_no (g : Things W w (tnl x S ts)) (gr : G17 W) (hc : Hc x.k S.M S.H) {n : Int} (hn : I64 n) (h : tkE x.k S n ≠ 0) : Calls Tryz.prog 16 #[.pointer (some ⟨x.T, 0, none⟩), .int .i64 n] w fun e w' => e = .returned (ans (tkE x.k S n) 0 0 0 ⟨#[]⟩ (tkS x.k S n).s.cb) ∧ Things W w' (tnl x (tkS x.k S n) ts) := by
  have G : Hid (Things W (w.alloc (.cells #[.int .i64 0, .int .u64 0, .int .i64 0, .int .i64 0, .string ⟨#[]⟩, .int .i64 0] 38)) (tnl x S (ts ++ [Blk w.heap.size (.cells #[.int .i64 0, .int .u64 0, .int .i64 0, .int .i64 0, .string ⟨#[]⟩, .int .i64 0] 38 (0, 0))]))) := g.blk (.cells #[.int .i64 0, .int .u64 0, .int .i64 0, .int .i64 0, .string ⟨#[]⟩, .int .i64 0] 38 (0, 0))
  have H1 := hid fun (w : World) (ts : List (World → (Nat → Prop) → Prop)) (g : Things W w (tnl x S ts)) => n_take g gr hc hn
  have H2 := hid fun (w : World) (ts : List (World → (Nat → Prop) → Prop)) (E : Int) (g : Things W w (tnl x (tkS x.k S n) ts)) => n_refuse g E
  generalize tkS x.k S n = S1 at *
  generalize tkE x.k S n = te at *
  generalize tkV x.k S n = tv at *
  generalize S1.s.cb = cb at *
  clear g gr hc hn
  go_enter Tryz.func16, Tryz.ntmps16
  go_wp2_with fail
  refine (H1.out _ _ G.out).mono ?_
  rintro e w1 ⟨rfl, g1⟩
  have G1 := hid g1
  clear g1 G H1
  go_wp2_with fail
  refine (H2.out _ _ _ G1.out).mono ?_
  rintro e w2 ⟨rfl, g2⟩
  have G2 := hid g2
  clear g2 G1 H2
  have z1 := fun i => box_frz (tn_box G2.out) i
  have b0 := box_cellT (tn_box G2.out) 0 rfl
  have b1 := box_cellT (tn_box G2.out) 1 rfl
  have b2 := box_cellT (tn_box G2.out) 2 rfl
  have b3 := box_cellT (tn_box G2.out) 3 rfl
  have b4 := box_cellT (tn_box G2.out) 4 rfl
  have b5 := box_cellT (tn_box G2.out) 5 rfl
  go_wp2
  clear z1 b0 b1 b2 b3 b4 b5
  obtain ⟨HF, hk⟩ := ans_put (tn_box G2.out) (te) (0) (0) (0) ⟨#[]⟩ (cb)
  have TZ := Things.boxes1 (ts := tnl x S1 ts) G2.out HF
  have k0 := hk 0 _ rfl
  have k1 := hk 1 _ rfl
  have k2 := hk 2 _ rfl
  have k3 := hk 3 _ rfl
  have k4 := hk 4 _ rfl
  have k5 := hk 5 _ rfl
  clear HF hk
  generalize (((((w2.setCell ⟨w.heap.size, 0, none⟩ (.int .i64 (te))).setCell ⟨w.heap.size, 1, none⟩ (.int .u64 (0))).setCell ⟨w.heap.size, 2, none⟩ (.int .i64 (0))).setCell ⟨w.heap.size, 3, none⟩ (.int .i64 (0))).setCell ⟨w.heap.size, 4, none⟩ (.string ⟨#[]⟩)).setCell ⟨w.heap.size, 5, none⟩ (.int .i64 (cb)) = wz at *
  exact bodyPost_ret (v := ans (te) (0) (0) (0) ⟨#[]⟩ (cb)) (by simp [results, Tryz.results16, go_sem, k0, k1, k2, k3, k4, k5]) rfl ⟨rfl, TZ⟩
set_option maxRecDepth 20000 in
theorem n_malloc_ok (g : Things W w (tnl x S ts)) (gr : G17 W) (hc : Hc x.k S.M S.H) {n : Int} (hn : I64 n) (h : tkE x.k S n = 0) (hv : I64 (tkV x.k S n)) (hm : S.n < maxLen) : Calls Tryz.prog 16 #[.pointer (some ⟨x.T, 0, none⟩), .int .i64 n] w fun e w' => e = .returned (ans (Ka.grE (tkS x.k S n).c (tkV x.k S n)) (Ka.grV (tkS x.k S n).c (tkV x.k S n)) (tkV x.k S n) 0 ⟨#[]⟩ (tkS x.k S n).s.cb) ∧ Things W w' (tnl x (owS (tkS x.k S n) (tkV x.k S n) n) ts) := by
  have G : Hid (Things W (w.alloc (.cells #[.int .i64 0, .int .u64 0, .int .i64 0, .int .i64 0, .string ⟨#[]⟩, .int .i64 0] 38)) (tnl x S (ts ++ [Blk w.heap.size (.cells #[.int .i64 0, .int .u64 0, .int .i64 0, .int .i64 0, .string ⟨#[]⟩, .int .i64 0] 38 (0, 0))]))) := g.blk (.cells #[.int .i64 0, .int .u64 0, .int .i64 0, .int .i64 0, .string ⟨#[]⟩, .int .i64 0] 38 (0, 0))
  have H1 := hid fun (w : World) (ts : List (World → (Nat → Prop) → Prop)) (g : Things W w (tnl x S ts)) => n_take g gr hc hn
  have H2 := hid fun (w : World) (ts : List (World → (Nat → Prop) → Prop)) (g : Things W w (tnl x (tkS x.k S n) ts)) => n_own (n := n) g gr hv (by rw [tkS_n]; exact hm)
  rw [h] at H1
  generalize owS (tkS x.k S n) (tkV x.k S n) n = S2 at *
  generalize tkS x.k S n = S1 at *
  generalize tkV x.k S n = tv at *
  generalize Ka.grE S1.c tv = ge at *
  generalize Ka.grV S1.c tv = gv at *
  generalize S1.s.cb = cb at *
  clear g gr hc hn h hv hm
  go_enter Tryz.func16, Tryz.ntmps16
  go_wp2_with fail
  refine (H1.out _ _ G.out).mono ?_
  rintro e w1 ⟨rfl, g1⟩
  have G1 := hid g1
  clear g1 G H1
  go_wp2_with fail
  refine (H2.out _ _ G1.out).mono ?_
  rintro e w2 ⟨rfl, g2⟩
  have G2 := hid g2
  clear g2 G1 H2
  have z1 := fun i => box_frz (tn_box G2.out) i
  have b0 := box_cellT (tn_box G2.out) 0 rfl
  have b1 := box_cellT (tn_box G2.out) 1 rfl
  have b2 := box_cellT (tn_box G2.out) 2 rfl
  have b3 := box_cellT (tn_box G2.out) 3 rfl
  have b4 := box_cellT (tn_box G2.out) 4 rfl
  have b5 := box_cellT (tn_box G2.out) 5 rfl
  go_wp2
  clear z1 b0 b1 b2 b3 b4 b5
  obtain ⟨HF, hk⟩ := ans_put (tn_box G2.out) (ge) (gv) (tv) (0) ⟨#[]⟩ (cb)
  have TZ := Things.boxes1 (ts := tnl x S2 ts) G2.out HF
  have k0 := hk 0 _ rfl
  have k1 := hk 1 _ rfl
  have k2 := hk 2 _ rfl
  have k3 := hk 3 _ rfl
  have k4 := hk 4 _ rfl
  have k5 := hk 5 _ rfl
  clear HF hk
  generalize (((((w2.setCell ⟨w.heap.size, 0, none⟩ (.int .i64 (ge))).setCell ⟨w.heap.size, 1, none⟩ (.int .u64 (gv))).setCell ⟨w.heap.size, 2, none⟩ (.int .i64 (tv))).setCell ⟨w.heap.size, 3, none⟩ (.int .i64 (0))).setCell ⟨w.heap.size, 4, none⟩ (.string ⟨#[]⟩)).setCell ⟨w.heap.size, 5, none⟩ (.int .i64 (cb)) = wz at *
  exact bodyPost_ret (v := ans (ge) (gv) (tv) (0) ⟨#[]⟩ (cb)) (by simp [results, Tryz.results16, go_sem, k0, k1, k2, k3, k4, k5]) rfl ⟨rfl, TZ⟩
set_option maxRecDepth 20000 in
theorem n_restrict (g : Things W w (tnl x S ts)) (gr : G17 W) {b : Int} (b0 : 0 ≤ b) (b1 : b ≤ 18446744073709551615) (r : Int) : Calls Tryz.prog 17 #[.pointer (some ⟨x.T, 0, none⟩), .int .u64 b, .int .i64 r] w fun e w' => e = .returned (ans (Ka.reE S.c b r) (Ka.reV S.c b r) 0 0 ⟨#[]⟩ S.s.cb) ∧ Things W w' (tnl x { S with c := Ka.reS S.c b r } ts) := by
  have G : Hid (Things W (w.alloc (.cells #[.int .i64 0, .int .u64 0, .int .i64 0, .int .i64 0, .string ⟨#[]⟩, .int .i64 0] 38)) (tnl x S (ts ++ [Blk w.heap.size (.cells #[.int .i64 0, .int .u64 0, .int .i64 0, .int .i64 0, .string ⟨#[]⟩, .int .i64 0] 38 (0, 0))]))) := g.blk (.cells #[.int .i64 0, .int .u64 0, .int .i64 0, .int .i64 0, .string ⟨#[]⟩, .int .i64 0] 38 (0, 0))
  have c4 := tn_cell G.out 4 rfl
  have H1 : Hid (∀ (w : World) (ts : List (World → (Nat → Prop) → Prop)), Things W w (tnl x S ts) → Calls Tryz.prog 43 #[.pointer (some ⟨x.c, 0, none⟩), .int .u64 b, .int .i64 r] w fun e w' => e = .returned (.tuple #[.int .u64 (Ka.reV S.c b r), .int .i64 (Ka.reE S.c b r)]) ∧ Things W w' (tnl x { S with c := Ka.reS S.c b r } ts)) := fun w ts g => kq_restrict g gr 1 rfl b0 b1 r
  have H2 : Hid (∀ (w : World) (ts : List (World → (Nat → Prop) → Prop)) (E hd : Int), Things W w (tnl x { S with c := Ka.reS S.c b r } ts) → Calls Tryz.prog 44 #[.pointer (some ⟨x.T, 0, none⟩), ans E hd 0 0 ⟨#[]⟩ 0] w fun e w' => e = .returned (ans E hd 0 0 ⟨#[]⟩ S.s.cb) ∧ Things W w' (tnl x { S with c := Ka.reS S.c b r } ts)) := fun w ts E hd g => n_say g E hd 0 0 ⟨#[]⟩ 0
  generalize { S with c := Ka.reS S.c b r } = S1 at *
  generalize Ka.reE S.c b r = re at *
  generalize Ka.reV S.c b r = rv at *
  generalize S.s.cb = cb at *
  clear g gr b0 b1
  go_enter Tryz.func17, Tryz.ntmps17
  go_wp2_with fail
  refine (H1.out _ _ G.out).mono ?_
  rintro e w1 ⟨rfl, g1⟩
  have G1 := hid g1
  clear g1 G H1 c4
  go_wp2_with fail
  refine (H2.out _ _ _ _ G1.out).mono ?_
  rintro e w2 ⟨rfl, g2⟩
  have G2 := hid g2
  clear g2 G1 H2
  have z1 := fun i => box_frz (tn_box G2.out) i
  have b0 := box_cellT (tn_box G2.out) 0 rfl
  have b1 := box_cellT (tn_box G2.out) 1 rfl
  have b2 := box_cellT (tn_box G2.out) 2 rfl
  have b3 := box_cellT (tn_box G2.out) 3 rfl
  have b4 := box_cellT (tn_box G2.out) 4 rfl
  have b5 := box_cellT (tn_box G2.out) 5 rfl
  go_wp2
  clear z1 b0 b1 b2 b3 b4 b5
  obtain ⟨HF, hk⟩ := ans_put (tn_box G2.out) (re) (rv) (0) (0) ⟨#[]⟩ (cb)
  have TZ := Things.boxes1 (ts := tnl x S1 ts) G2.out HF
  have k0 := hk 0 _ rfl
  have k1 := hk 1 _ rfl
  have k2 := hk 2 _ rfl
  have k3 := hk 3 _ rfl
  have k4 := hk 4 _ rfl
  have k5 := hk 5 _ rfl
  clear HF hk
  generalize (((((w2.setCell ⟨w.heap.size, 0, none⟩ (.int .i64 (re))).setCell ⟨w.heap.size, 1, none⟩ (.int .u64 (rv))).setCell ⟨w.heap.size, 2, none⟩ (.int .i64 (0))).setCell ⟨w.heap.size, 3, none⟩ (.int .i64 (0))).setCell ⟨w.heap.size, 4, none⟩ (.string ⟨#[]⟩)).setCell ⟨w.heap.size, 5, none⟩ (.int .i64 (cb)) = wz at *
  exact bodyPost_ret (v := ans (re) (rv) (0) (0) ⟨#[]⟩ (cb)) (by simp [results, Tryz.results17, go_sem, k0, k1, k2, k3, k4, k5]) rfl ⟨rfl, TZ⟩
set_option maxRecDepth 20000 in
theorem n_free_no (g : Things W w (tnl x S ts)) {b : Int} (b0 : 0 ≤ b) (b1 : b ≤ 18446744073709551615) (h : Ka.fiE S.c b 4 ≠ 0) : Calls Tryz.prog 21 #[.pointer (some ⟨x.T, 0, none⟩), .int .u64 b] w fun e w' => e = .returned (ans (Ka.fiE S.c b 4) 0 0 0 ⟨#[]⟩ S.s.cb) ∧ Things W w' (tnl x S ts) := by
  have G : Hid (Things W (w.alloc (.cells #[.int .i64 0, .int .u64 0, .int .i64 0, .int .i64 0, .string ⟨#[]⟩, .int .i64 0] 38)) (tnl x S (ts ++ [Blk w.heap.size (.cells #[.int .i64 0, .int .u64 0, .int .i64 0, .int .i64 0, .string ⟨#[]⟩, .int .i64 0] 38 (0, 0))]))) := g.blk (.cells #[.int .i64 0, .int .u64 0, .int .i64 0, .int .i64 0, .string ⟨#[]⟩, .int .i64 0] 38 (0, 0))
  have H1 := hid fun (w : World) (ts : List (World → (Nat → Prop) → Prop)) (g : Things W w (tnl x S ts)) => n_find (r := 4) g b0 b1 (by omega)
  have H2 := hid fun (w : World) (ts : List (World → (Nat → Prop) → Prop)) (E : Int) (g : Things W w (tnl x S ts)) => n_refuse g E
  generalize Ka.fiE S.c b 4 = fe at *
  generalize Ka.fiV S.c b 4 = fv at *
  generalize S.s.cb = cb at *
  clear g b0 b1
  go_enter Tryz.func21, Tryz.ntmps21
  go_wp2_with fail
  refine (H1.out _ _ G.out).mono ?_
  rintro e w1 ⟨rfl, g1⟩
  have G1 := hid g1
  clear g1 G H1
  go_wp2_with fail
  refine (H2.out _ _ _ G1.out).mono ?_
  rintro e w2 ⟨rfl, g2⟩
  have G2 := hid g2
  clear g2 G1 H2
  have z1 := fun i => box_frz (tn_box G2.out) i
  have b0 := box_cellT (tn_box G2.out) 0 rfl
  have b1 := box_cellT (tn_box G2.out) 1 rfl
  have b2 := box_cellT (tn_box G2.out) 2 rfl
  have b3 := box_cellT (tn_box G2.out) 3 rfl
  have b4 := box_cellT (tn_box G2.out) 4 rfl
  have b5 := box_cellT (tn_box G2.out) 5 rfl
  go_wp2
  clear z1 b0 b1 b2 b3 b4 b5
  obtain ⟨HF, hk⟩ := ans_put (tn_box G2.out) (fe) (0) (0) (0) ⟨#[]⟩ (cb)
  have TZ := Things.boxes1 (ts := tnl x S ts) G2.out HF
  have k0 := hk 0 _ rfl
  have k1 := hk 1 _ rfl
  have k2 := hk 2 _ rfl
  have k3 := hk 3 _ rfl
  have k4 := hk 4 _ rfl
  have k5 := hk 5 _ rfl
  clear HF hk
  generalize (((((w2.setCell ⟨w.heap.size, 0, none⟩ (.int .i64 (fe))).setCell ⟨w.heap.size, 1, none⟩ (.int .u64 (0))).setCell ⟨w.heap.size, 2, none⟩ (.int .i64 (0))).setCell ⟨w.heap.size, 3, none⟩ (.int .i64 (0))).setCell ⟨w.heap.size, 4, none⟩ (.string ⟨#[]⟩)).setCell ⟨w.heap.size, 5, none⟩ (.int .i64 (cb)) = wz at *
  exact bodyPost_ret (v := ans (fe) (0) (0) (0) ⟨#[]⟩ (cb)) (by simp [results, Tryz.results21, go_sem, k0, k1, k2, k3, k4, k5]) rfl ⟨rfl, TZ⟩
set_option maxRecDepth 20000 in
theorem n_free_ok (g : Things W w (tnl x S ts)) (gr : G17 W) (hc : Hc x.k S.M S.H) {b : Int} (b0 : 0 ≤ b) (b1 : b ≤ 18446744073709551615) (h : Ka.fiE S.c b 4 = 0) {kd s i E : Int} (hf : FindR (Ka.fiV S.c b 4) kd s i E) (ha : I64 (Ka.fiV S.c b 4)) {y : Int × Int} (hy : S.f (Ka.fiV S.c b 4) = some y) (r : Rt y.2 0) : Calls Tryz.prog 21 #[.pointer (some ⟨x.T, 0, none⟩), .int .u64 b] w fun e w' => e = .returned (ans 0 0 0 0 ⟨#[]⟩ (rlS S (Ka.fiV S.c b 4) kd s i E y.2).s.cb) ∧ Things W w' (tnl x (rlS S (Ka.fiV S.c b 4) kd s i E y.2) ts) := by
  have G : Hid (Things W (w.alloc (.cells #[.int .i64 0, .int .u64 0, .int .i64 0, .int .i64 0, .string ⟨#[]⟩, .int .i64 0] 38)) (tnl x S (ts ++ [Blk w.heap.size (.cells #[.int .i64 0, .int .u64 0, .int .i64 0, .int .i64 0, .string ⟨#[]⟩, .int .i64 0] 38 (0, 0))]))) := g.blk (.cells #[.int .i64 0, .int .u64 0, .int .i64 0, .int .i64 0, .string ⟨#[]⟩, .int .i64 0] 38 (0, 0))
  have H1 := hid fun (w : World) (ts : List (World → (Nat → Prop) → Prop)) (g : Things W w (tnl x S ts)) => n_find (r := 4) g b0 b1 (by omega)
  have H2 := hid fun (w : World) (ts : List (World → (Nat → Prop) → Prop)) (g : Things W w (tnl x S ts)) => n_release g gr hc hf ha hy r
  have H3 := hid fun (w : World) (ts : List (World → (Nat → Prop) → Prop)) (g : Things W w (tnl x (rlS S (Ka.fiV S.c b 4) kd s i E y.2) ts)) => n_say g 0 0 0 0 ⟨#[]⟩ 0
  rw [h] at H1
  generalize rlS S (Ka.fiV S.c b 4) kd s i E y.2 = S2 at *
  generalize Ka.fiV S.c b 4 = fv at *
  generalize S2.s.cb = cb at *
  clear g gr hc b0 b1 h hf ha hy r
  go_enter Tryz.func21, Tryz.ntmps21
  go_wp2_with fail
  refine (H1.out _ _ G.out).mono ?_
  rintro e w1 ⟨rfl, g1⟩
  have G1 := hid g1
  clear g1 G H1
  go_wp2_with fail
  refine (H2.out _ _ G1.out).mono ?_
  rintro e w2 ⟨rfl, g2⟩
  have G2 := hid g2
  clear g2 G1 H2
  go_wp2_with fail
  refine (H3.out _ _ G2.out).mono ?_
  rintro e w3 ⟨rfl, g3⟩
  have G3 := hid g3
  clear g3 G2 H3
  have z1 := fun i => box_frz (tn_box G3.out) i
  have b0 := box_cellT (tn_box G3.out) 0 rfl
  have b1 := box_cellT (tn_box G3.out) 1 rfl
  have b2 := box_cellT (tn_box G3.out) 2 rfl
  have b3 := box_cellT (tn_box G3.out) 3 rfl
  have b4 := box_cellT (tn_box G3.out) 4 rfl
  have b5 := box_cellT (tn_box G3.out) 5 rfl
  go_wp2
  clear z1 b0 b1 b2 b3 b4 b5
  obtain ⟨HF, hk⟩ := ans_put (tn_box G3.out) (0) (0) (0) (0) ⟨#[]⟩ (cb)
  have TZ := Things.boxes1 (ts := tnl x S2 ts) G3.out HF
  have k0 := hk 0 _ rfl
  have k1 := hk 1 _ rfl
  have k2 := hk 2 _ rfl
  have k3 := hk 3 _ rfl
  have k4 := hk 4 _ rfl
  have k5 := hk 5 _ rfl
  clear HF hk
  generalize (((((w3.setCell ⟨w.heap.size, 0, none⟩ (.int .i64 (0))).setCell ⟨w.heap.size, 1, none⟩ (.int .u64 (0))).setCell ⟨w.heap.size, 2, none⟩ (.int .i64 (0))).setCell ⟨w.heap.size, 3, none⟩ (.int .i64 (0))).setCell ⟨w.heap.size, 4, none⟩ (.string ⟨#[]⟩)).setCell ⟨w.heap.size, 5, none⟩ (.int .i64 (cb)) = wz at *
  exact bodyPost_ret (v := ans (0) (0) (0) (0) ⟨#[]⟩ (cb)) (by simp [results, Tryz.results21, go_sem, k0, k1, k2, k3, k4, k5]) rfl ⟨rfl, TZ⟩
set_option maxRecDepth 20000 in
theorem n_usable_no (g : Things W w (tnl x S ts)) {b : Int} (b0 : 0 ≤ b) (b1 : b ≤ 18446744073709551615) (h : Ka.fiE S.c b 0 ≠ 0) : Calls Tryz.prog 18 #[.pointer (some ⟨x.T, 0, none⟩), .int .u64 b] w fun e w' => e = .returned (ans (Ka.fiE S.c b 0) 0 0 0 ⟨#[]⟩ S.s.cb) ∧ Things W w' (tnl x S ts) := by
  have G : Hid (Things W (w.alloc (.cells #[.int .i64 0, .int .u64 0, .int .i64 0, .int .i64 0, .string ⟨#[]⟩, .int .i64 0] 38)) (tnl x S (ts ++ [Blk w.heap.size (.cells #[.int .i64 0, .int .u64 0, .int .i64 0, .int .i64 0, .string ⟨#[]⟩, .int .i64 0] 38 (0, 0))]))) := g.blk (.cells #[.int .i64 0, .int .u64 0, .int .i64 0, .int .i64 0, .string ⟨#[]⟩, .int .i64 0] 38 (0, 0))
  have H1 := hid fun (w : World) (ts : List (World → (Nat → Prop) → Prop)) (g : Things W w (tnl x S ts)) => n_find (r := 0) g b0 b1 (by omega)
  have H2 := hid fun (w : World) (ts : List (World → (Nat → Prop) → Prop)) (E : Int) (g : Things W w (tnl x S ts)) => n_refuse g E
  generalize Ka.fiE S.c b 0 = fe at *
  generalize Ka.fiV S.c b 0 = fv at *
  generalize S.s.cb = cb at *
  clear g b0 b1
  go_enter Tryz.func18, Tryz.ntmps18
  go_wp2_with fail
  refine (H1.out _ _ G.out).mono ?_
  rintro e w1 ⟨rfl, g1⟩
  have G1 := hid g1
  clear g1 G H1
  go_wp2_with fail
  refine (H2.out _ _ _ G1.out).mono ?_
  rintro e w2 ⟨rfl, g2⟩
  have G2 := hid g2
  clear g2 G1 H2
  have z1 := fun i => box_frz (tn_box G2.out) i
  have b0 := box_cellT (tn_box G2.out) 0 rfl
  have b1 := box_cellT (tn_box G2.out) 1 rfl
  have b2 := box_cellT (tn_box G2.out) 2 rfl
  have b3 := box_cellT (tn_box G2.out) 3 rfl
  have b4 := box_cellT (tn_box G2.out) 4 rfl
  have b5 := box_cellT (tn_box G2.out) 5 rfl
  go_wp2
  clear z1 b0 b1 b2 b3 b4 b5
  obtain ⟨HF, hk⟩ := ans_put (tn_box G2.out) (fe) (0) (0) (0) ⟨#[]⟩ (cb)
  have TZ := Things.boxes1 (ts := tnl x S ts) G2.out HF
  have k0 := hk 0 _ rfl
  have k1 := hk 1 _ rfl
  have k2 := hk 2 _ rfl
  have k3 := hk 3 _ rfl
  have k4 := hk 4 _ rfl
  have k5 := hk 5 _ rfl
  clear HF hk
  generalize (((((w2.setCell ⟨w.heap.size, 0, none⟩ (.int .i64 (fe))).setCell ⟨w.heap.size, 1, none⟩ (.int .u64 (0))).setCell ⟨w.heap.size, 2, none⟩ (.int .i64 (0))).setCell ⟨w.heap.size, 3, none⟩ (.int .i64 (0))).setCell ⟨w.heap.size, 4, none⟩ (.string ⟨#[]⟩)).setCell ⟨w.heap.size, 5, none⟩ (.int .i64 (cb)) = wz at *
  exact bodyPost_ret (v := ans (fe) (0) (0) (0) ⟨#[]⟩ (cb)) (by simp [results, Tryz.results18, go_sem, k0, k1, k2, k3, k4, k5]) rfl ⟨rfl, TZ⟩
set_option maxRecDepth 20000 in
theorem n_usable_ok (g : Things W w (tnl x S ts)) {b : Int} (b0 : 0 ≤ b) (b1 : b ≤ 18446744073709551615) (h : Ka.fiE S.c b 0 = 0) (ha : I64 (Ka.fiV S.c b 0)) {y : Int × Int} (hy : S.f (Ka.fiV S.c b 0) = some y) (r : Rt y.2 0) : Calls Tryz.prog 18 #[.pointer (some ⟨x.T, 0, none⟩), .int .u64 b] w fun e w' => e = .returned (ans 0 0 0 y.2 ⟨#[]⟩ S.s.cb) ∧ Things W w' (tnl x S ts) := by
  have HWF := hid (wf_small ha.1 ha.2)
  have G : Hid (Things W (w.alloc (.cells #[.int .i64 0, .int .u64 0, .int .i64 0, .int .i64 0, .string ⟨#[]⟩, .int .i64 0] 38)) (tnl x S (ts ++ [Blk w.heap.size (.cells #[.int .i64 0, .int .u64 0, .int .i64 0, .int .i64 0, .string ⟨#[]⟩, .int .i64 0] 38 (0, 0))]))) := g.blk (.cells #[.int .i64 0, .int .u64 0, .int .i64 0, .int .i64 0, .string ⟨#[]⟩, .int .i64 0] 38 (0, 0))
  have H1 := hid fun (w : World) (ts : List (World → (Nat → Prop) → Prop)) (g : Things W w (tnl x S ts)) => n_find (r := 0) g b0 b1 (by omega)
  have HL : Hid (∀ (w : World) (ts : List (World → (Nat → Prop) → Prop)), Things W w (tnl x S ts) → w.cell? ⟨x.T, 7, none⟩ = some (.map (some x.B)) ∧ (Instr.lookup 68 (.map (some x.B)) (.int .i64 (Ka.fiV S.c b 0)) false).run Tryz.prog w = .ok (.agg #[.int .i64 y.1, .complex .f64 (fb y.2) (fb 0)]) w) := fun w ts g => ⟨tn_cell g 7 rfl, (g.oo 3 rfl).look HWF.out hy⟩
  have H2 : Hid (∀ (w : World), Calls Tryz.prog 38 #[.complex .f64 (fb y.2) (fb 0)] w fun e w' => e = .returned (.int .i64 y.2) ∧ ∃ m, w' = w.drewN m) := fun w => s_bytes r w
  have H3 : Hid (∀ (w : World) (ts : List (World → (Nat → Prop) → Prop)) (n : Int), Things W w (tnl x S ts) → Calls Tryz.prog 44 #[.pointer (some ⟨x.T, 0, none⟩), ans 0 0 0 n ⟨#[]⟩ 0] w fun e w' => e = .returned (ans 0 0 0 n ⟨#[]⟩ S.s.cb) ∧ Things W w' (tnl x S ts)) := fun w ts n g => n_say g 0 0 0 n ⟨#[]⟩ 0
  have hfl := fun a b c w => (field_obj a b c w).1
  rw [h] at H1
  generalize Ka.fiV S.c b 0 = fv at *
  generalize S.s.cb = cb at *
  generalize y.2 = y2 at *
  generalize y.1 = y1 at *
  generalize fb y2 = xb at *
  generalize fb 0 = yb at *
  clear g b0 b1 h ha hy r
  go_enter Tryz.func18, Tryz.ntmps18
  go_wp2_with fail
  refine (H1.out _ _ G.out).mono ?_
  rintro e w1 ⟨rfl, g1⟩
  have G1 := hid g1
  obtain ⟨c7, hlk⟩ := HL.out _ _ g1
  clear g1 G H1 HL
  go_wp2_with fail
  refine (H2.out _).mono ?_
  rintro e w2 ⟨rfl, m2, rfl⟩
  have G2 := hid (G1.out.kept ((Fr.refl _ _).drewN m2))
  clear G1 H2 c7 hlk hfl
  go_wp2_with fail
  refine (H3.out _ _ _ G2.out).mono ?_
  rintro e w3 ⟨rfl, g3⟩
  have G3 := hid g3
  clear g3 G2 H3
  have z1 := fun i => box_frz (tn_box G3.out) i
  have b0 := box_cellT (tn_box G3.out) 0 rfl
  have b1 := box_cellT (tn_box G3.out) 1 rfl
  have b2 := box_cellT (tn_box G3.out) 2 rfl
  have b3 := box_cellT (tn_box G3.out) 3 rfl
  have b4 := box_cellT (tn_box G3.out) 4 rfl
  have b5 := box_cellT (tn_box G3.out) 5 rfl
  go_wp2
  clear z1 b0 b1 b2 b3 b4 b5
  obtain ⟨HF, hk⟩ := ans_put (tn_box G3.out) (0) (0) (0) (y2) ⟨#[]⟩ (cb)
  have TZ := Things.boxes1 (ts := tnl x S ts) G3.out HF
  have k0 := hk 0 _ rfl
  have k1 := hk 1 _ rfl
  have k2 := hk 2 _ rfl
  have k3 := hk 3 _ rfl
  have k4 := hk 4 _ rfl
  have k5 := hk 5 _ rfl
  clear HF hk
  generalize (((((w3.setCell ⟨w.heap.size, 0, none⟩ (.int .i64 (0))).setCell ⟨w.heap.size, 1, none⟩ (.int .u64 (0))).setCell ⟨w.heap.size, 2, none⟩ (.int .i64 (0))).setCell ⟨w.heap.size, 3, none⟩ (.int .i64 (y2))).setCell ⟨w.heap.size, 4, none⟩ (.string ⟨#[]⟩)).setCell ⟨w.heap.size, 5, none⟩ (.int .i64 (cb)) = wz at *
  exact bodyPost_ret (v := ans (0) (0) (0) (y2) ⟨#[]⟩ (cb)) (by simp [results, Tryz.results18, go_sem, k0, k1, k2, k3, k4, k5]) rfl ⟨rfl, TZ⟩
end
end Go.Proofs.YtioplfbkfokkfaaGreatDoor
