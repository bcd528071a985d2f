/-
  What the calls of package chain do: New, Push, Pop, Empty, Take, Move; the nil ones.
  The program's page in memory: its own block, two chains, a shelf of the blocks that are had; and its arena beside it.
-/
import Derived.Test.YtioplfbkfokkfaaGreatDoorViIn
import Derived.Test.YtioplfbkfokkfaaGreatDoorPaThing
import Derived.Test.YtioplfbkfokkfaaGreatDoorKaNew
namespace Go.Proofs.YtioplfbkfokkfaaGreatDoor
open Go.RowKit
open An

/-- The program's chain. -/
def Chm (w : World) (c a : Nat) (k : Ck) : Prop := w.heap[c]? = some (.cells #[.pointer (some ⟨a, 0, none⟩), .int .i64 k.base, .int .i64 k.unit, .int .i64 k.per, .int .u64 k.hd] 252 (0, 0))
theorem Chm.chain : Chain1 Chm := ⟨fun {w w' c a k S} h f hn => by unfold Chm at h ⊢; rw [f.block c (Array.getElem?_eq_some_iff.1 h).1 hn]; exact h, fun h => (Array.getElem?_eq_some_iff.1 h).1⟩
section
variable {w w' : World} {c a : Nat} {k : Ck}
theorem Chm.c0 (h : Chm w c a k) : w.cell? ⟨c, 0, none⟩ = some (.pointer (some ⟨a, 0, none⟩)) := by unfold Chm at h; simp [World.cell?, h]
theorem Chm.c1 (h : Chm w c a k) : w.cell? ⟨c, 1, none⟩ = some (.int .i64 k.base) := by unfold Chm at h; simp [World.cell?, h]
theorem Chm.c2 (h : Chm w c a k) : w.cell? ⟨c, 2, none⟩ = some (.int .i64 k.unit) := by unfold Chm at h; simp [World.cell?, h]
theorem Chm.c3 (h : Chm w c a k) : w.cell? ⟨c, 3, none⟩ = some (.int .i64 k.per) := by unfold Chm at h; simp [World.cell?, h]
theorem Chm.c4 (h : Chm w c a k) : w.cell? ⟨c, 4, none⟩ = some (.int .u64 k.hd) := by unfold Chm at h; simp [World.cell?, h]
theorem Chm.fz (h : Chm w c a k) (j : Nat) : w.frozen? ⟨c, j, none⟩ = false := by unfold Chm at h; simp [World.frozen?, h]
theorem Chm.head (h : Chm w c a k) {v : Nat} {x : Int} (hx : x = (v : Int)) : Chm (w.setCell ⟨c, 4, none⟩ (.int .u64 x)) c a (k.to v) := by unfold Chm at h ⊢; subst hx; simp [World.setCell, Array.getElem?_modify, h, Ck.to]
theorem Chm.base (h : Chm w c a k) (x : Nat) : Chm (w.setCell ⟨c, 1, none⟩ (.int .i64 x)) c a ⟨x, k.unit, k.per, k.hd⟩ := by unfold Chm at h ⊢; simp [World.setCell, Array.getElem?_modify, h]
end
section
variable {w : World} {a c : Nat} {Z : Nat → Prop} {bs : List UInt8} {ss : List Sp} {k : Ck}
set_option maxRecDepth 20000 in
theorem m_move (q : Chm w c a k) (g : Am 104 a bs ss w Z) (hu : k.unit ≤ 512) (hp : k.per ≤ 64) (x : Int) (hx : x ≤ 9223372036854775807) : Calls Tryz.prog 203 #[.pointer (some ⟨c, 0, none⟩), .int .i64 x] w fun e w' => e = .returned (.int .i64 (moE k bs.length x)) ∧ Chm w' c a (moS k bs.length x) ∧ Fr (fun i => i = c) w w' := by
  unfold moE moS
  have HC := hid q
  have c0 := q.c0
  have c1 := q.c1
  have c2 := q.c2
  have c3 := q.c3
  have f1 := q.fz
  have H1 : Hid (∀ w0, Fr (fun _ => False) w w0 → Calls Tryz.prog 126 #[.pointer (some ⟨a, 0, none⟩)] w0 fun e w' => e = .returned (.int .i64 bs.length) ∧ w' = w0) := fun w0 f => am_size (g.kept f)
  have hl := g.le
  have hup : k.unit * k.per ≤ 512 * 64 := Nat.mul_le_mul hu hp
  have hm : IntKind.i64.wrap ((k.unit : Int) * (k.per : Int)) = ((k.unit * k.per : Nat) : Int) := by rw [IntKind.wrap_i64, ← Int.natCast_mul]; omega
  clear q g hu hp
  unfold Ck.Lies
  generalize k.unit * k.per = m at *
  generalize bs.length = n at *
  by_cases h0 : x < 0
  · have hn : ¬ (0 ≤ x ∧ x + (m : Int) ≤ n) := by omega
    rw [if_neg hn, if_neg hn]
    clear hn
    go_enter Tryz.func203, Tryz.ntmps203
    go_wp2_with fail
    go_quiet (fail)
    go_wp2
    go_ret
    exact ⟨by simp, Chm.chain.carry HC.out ((Fr.refl (fun _ => False) _).drewN _) id, (Fr.refl _ _).drewN _⟩
  obtain ⟨x, rfl⟩ := Int.eq_ofNat_of_zero_le (show 0 ≤ x by omega)
  have hw : IntKind.i64.wrap ((n : Int) - x) = n - x := by rw [IntKind.wrap_i64]; omega
  by_cases h2 : (m : Int) ≤ n - x
  · have hn : (0 ≤ (x : Int) ∧ (x : Int) + (m : Int) ≤ n) := by omega
    rw [if_pos hn, if_pos hn]
    clear hn
    go_enter Tryz.func203, Tryz.ntmps203
    go_wp2_with fail
    go_region_held3 (fun w' => w'.cell? ⟨c, 0, none⟩ = some (.pointer (some ⟨a, 0, none⟩)) ∧ w'.cell? ⟨c, 2, none⟩ = some (.int .i64 k.unit) ∧ w'.cell? ⟨c, 3, none⟩ = some (.int .i64 k.per)) (first | go_keep | exact ⟨by assumption, by assumption, by assumption⟩) (first | (go_at_call 126; refine (H1.out _ (Fr.refl _ _).drew).mono ?_; rintro e w1 ⟨rfl, rfl⟩))
    go_wp2
    go_ret
    exact ⟨by simp, (Chm.chain.carry HC.out (Fr.refl (fun _ => False) _).drew id).base x, Fr.setCell (S := fun i => i = c) (p := ⟨c, 1, none⟩) (Fr.refl _ _).drew rfl _⟩
  · have hn : ¬ (0 ≤ (x : Int) ∧ (x : Int) + (m : Int) ≤ n) := by omega
    rw [if_neg hn, if_neg hn]
    clear hn
    go_enter Tryz.func203, Tryz.ntmps203
    go_wp2_with fail
    go_region_held3 (fun w' => w'.cell? ⟨c, 0, none⟩ = some (.pointer (some ⟨a, 0, none⟩)) ∧ w'.cell? ⟨c, 2, none⟩ = some (.int .i64 k.unit) ∧ w'.cell? ⟨c, 3, none⟩ = some (.int .i64 k.per)) (first | go_keep | exact ⟨by assumption, by assumption, by assumption⟩) (first | (go_at_call 126; refine (H1.out _ (Fr.refl _ _).drew).mono ?_; rintro e w1 ⟨rfl, rfl⟩))
    go_wp2
    go_ret
    exact ⟨by simp, Chm.chain.carry HC.out (Fr.refl (fun _ => False) _).drew id, (Fr.refl _ _).drew⟩
theorem new_cell {c0 : Nat} (w : World) (a u p : Nat) (h : c0 = w.heap.size) : Chm (w.alloc (.cells #[.pointer (some ⟨a, 0, none⟩), .int .i64 0, .int .i64 u, .int .i64 p, .int .u64 0] 252)) c0 a ⟨0, u, p, 0⟩ := by
  subst h
  unfold Chm; rw [heap_alloc_new]; simp
theorem made_new (h : Am 104 a bs ss w Z) (u p : Nat) (hu : u ≤ 512) (hp : p ≤ 64) (x : Int) (hx : x ≤ 9223372036854775807) : Calls Tryz.prog 203 #[.pointer (some ⟨w.heap.size, 0, none⟩), .int .i64 x] (w.alloc (.cells #[.pointer (some ⟨a, 0, none⟩), .int .i64 0, .int .i64 u, .int .i64 p, .int .u64 0] 252)) fun e w' => e = .returned (.int .i64 (moE ⟨0, u, p, 0⟩ bs.length x)) ∧ Chm w' w.heap.size a (moS ⟨0, u, p, 0⟩ bs.length x) ∧ Fr (fun _ => False) w w' :=
  (m_move (new_cell w a u p rfl) (h.kept ((Fr.refl _ _).alloc _)) hu hp x hx).mono fun e w' ⟨he, h1, f⟩ => ⟨he, h1, Fr.trans' ((Fr.refl _ _).alloc _) f fun i hi e => by omega⟩
set_option maxRecDepth 20000 in
theorem p_new (h : Am 104 a bs ss w Z) {x u p : Int} (hn : NewOk bs.length x u p) : Calls Tryz.prog 245 #[.pointer (some ⟨a, 0, none⟩), .int .i64 x, .int .i64 u, .int .i64 p] w fun e w' => ∃ c, e = .returned (.tuple #[.pointer (some ⟨c, 0, none⟩), .int .i64 0]) ∧ w.heap.size ≤ c ∧ Chm w' c a ⟨x.toNat, u.toNat, p.toNat, 0⟩ ∧ Fr (fun _ => False) w w' := by
  have hl := h.le
  obtain ⟨⟨h1, h2⟩, ⟨h3, h4⟩, h5, h6⟩ := hn
  obtain ⟨x, rfl⟩ := Int.eq_ofNat_of_zero_le h5
  obtain ⟨u, rfl⟩ := Int.eq_ofNat_of_zero_le (show 0 ≤ u by omega)
  obtain ⟨p, rfl⟩ := Int.eq_ofNat_of_zero_le (show 0 ≤ p by omega)
  have hup : 0 ≤ (u : Int) * (p : Int) := Int.mul_nonneg (by omega) (by omega)
  have H1 := hid (made_new h u p (by omega) (by omega) x (by omega))
  have hlies : (Ck.mk 0 u p 0).Lies bs.length x := ⟨h5, by show (x : Int) + ((u * p : Nat) : Int) ≤ _; rw [Int.natCast_mul]; exact h6⟩
  unfold moE moS at H1
  rw [if_pos hlies, if_pos hlies] at H1
  clear h h6 h5 hlies hup hl
  have g1 : ¬ (u : Int) < 8 := by omega
  have g2 : ¬ 512 < (u : Int) := by omega
  have g3 : ¬ (p : Int) < 1 := by omega
  have g4 : ¬ 64 < (p : Int) := by omega
  clear h1 h2 h3 h4
  go_enter Tryz.func245, Tryz.ntmps245
  go_wp2_with fail
  refine H1.out.mono ?_
  rintro e w1 ⟨rfl, hq, f⟩
  have HQ := hid hq
  have HF := hid f
  clear hq f
  go_wp2
  go_ret2
  exact ⟨_, rfl, Nat.le_refl _, HQ.out, HF.out⟩
set_option maxRecDepth 20000 in
theorem p_at (q : Chm w c a k) {n : Nat} (ok : k.Ok n) (hn : n ≤ 2097152) {x : Nat} (hx : x < k.per) : Calls Tryz.prog 242 #[.pointer (some ⟨c, 0, none⟩), .int .i64 x] w fun e w' => e = .returned (.int .i64 (k.pos x)) ∧ Fr (fun _ => False) w w' := by
  have c1 := q.c1
  have c2 := q.c2
  obtain ⟨r1, r2⟩ := ok.reck hn hx
  clear q ok hn hx
  generalize k.pos x = ps at *
  generalize x * k.unit = m at *
  go_enter Tryz.func242, Tryz.ntmps242
  go_wp2_with fail
  go_region_held3 (fun w' => w'.cell? ⟨c, 1, none⟩ = some (.int .i64 k.base) ∧ w'.cell? ⟨c, 2, none⟩ = some (.int .i64 k.unit)) (first | go_keep | exact ⟨by assumption, by assumption⟩) (fail)
  go_wp2
  go_ret
  exact ⟨by simp, (Fr.refl _ _).drew⟩
set_option maxRecDepth 20000 in
set_option maxHeartbeats 1000000 in
theorem p_push_ok (q : Chm w c a k) (g : Am 104 a bs ss w Z) (ok : k.Ok bs.length) (nz : ¬ Z c) (hk : ss.length ≤ 1000000) {x : Nat} (hx : x < k.per) : Calls Tryz.prog 224 #[.pointer (some ⟨c, 0, none⟩), .int .i64 x] w fun e w' => e = .returned (.int .i64 0) ∧ ∃ Z', Left 104 Chm w c a Z (over bs (k.pos x) (leb k.hd 8)) (ss ++ [((k.pos x : Int), (8 : Int), true)]) (k.to (x + 1)) Z' w' := by
  have c0 := q.c0
  have c3 := q.c3
  have c4 := q.c4
  have hh := ok.hd
  have hp := ok.p1
  have r3 := wrapU (x : Int) (by omega) (by omega)
  have r4 := wrapU ((x : Int) + 1) (by omega) (by omega)
  have HT : Hid (∀ w0, Fr (fun _ => False) w w0 → Calls Tryz.prog 242 #[.pointer (some ⟨c, 0, none⟩), .int .i64 x] w0 fun e w' => e = .returned (.int .i64 (k.pos x)) ∧ Chm w' c a k ∧ Fr (fun _ => False) w w') := fun w0 f => (p_at (Chm.chain.carry q f id) ok g.le hx).mono fun e w' ⟨he, f2⟩ => ⟨he, Chm.chain.carry q (f.trans f2) id, f.trans f2⟩
  have HS : Hid (∀ w0, Fr (fun _ => False) w w0 → Calls Tryz.prog 241 #[.pointer (some ⟨a, 0, none⟩), .int .i64 (k.pos x), .int .u64 k.hd] w0 fun e w' => e = .returned (.int .i64 0) ∧ ∃ Z', Left 104 Chm w c a Z (over bs (k.pos x) (leb k.hd 8)) (ss ++ [((k.pos x : Int), (8 : Int), true)]) k Z' w') :=
    fun w0 f => (am_store (g.kept f) (k.pos x) k.hd (by omega) (ok.at hx) hk).mono fun e w' ⟨he, Z', h1, h2⟩ => ⟨he, Z', (Left.arena Chm.chain (Chm.chain.carry q f id) nz h1 h2).ahead f⟩
  have hx' : (x : Int) < k.per := by omega
  clear q g ok nz hk hx hh hp
  generalize k.pos x = ps at *
  go_enter Tryz.func224, Tryz.ntmps224
  go_wp2_with fail
  go_region_held3 (fun w' => w'.cell? ⟨c, 0, none⟩ = some (.pointer (some ⟨a, 0, none⟩)) ∧ w'.cell? ⟨c, 4, none⟩ = some (.int .u64 k.hd)) (first | go_keep | exact ⟨by assumption, by assumption⟩) (first | (go_at_call 242; refine (HT.out _ (Fr.refl _ _).drew).mono ?_; rintro e w9 ⟨rfl, hq9, hf9⟩; have F9 := hid hf9; have b0 := hq9.c0; have b3 := hq9.c3; have b4 := hq9.c4; clear hq9 hf9) | (go_at_call 241; refine (HS.out _ F9.out).mono ?_; rintro e w1 ⟨rfl, Z', hL⟩; have HL := hid hL; have d0 := hL.q.c0; have d4 := hL.q.c4; have fz := hL.q.fz; clear hL))
  clear HS HT c0 c3 c4
  go_wp2
  go_ret
  exact ⟨by simp, Z', HL.out.set (HL.out.q.head (by omega))⟩
set_option maxRecDepth 20000 in
set_option maxHeartbeats 1000000 in
theorem follow_no (q : Chm w c a k) (g : Am 104 a bs ss w Z) (ok : k.Ok bs.length) (nz : ¬ Z c) (hk : ss.length ≤ 1000000) {x v : Nat} (hv : v = x + 1) (hx : x < k.per) (hw : ¬ wd bs (k.pos x) ≤ k.per) : Calls Tryz.prog 247 #[.pointer (some ⟨c, 0, none⟩), .int .u64 v] w fun e w' => e = .returned (.tuple #[.int .i64 0, .int .u64 0, .int .i64 14]) ∧ ∃ Z', Left 104 Chm w c a Z bs (ss ++ [((k.pos x : Int), (8 : Int), false)]) k Z' w' ∧ Gw w w' Z Z' := by
  have c0 := q.c0
  have c3 := q.c3
  have hp := ok.p1
  have hlt := wd_lt bs (k.pos x)
  have r4 := wrapU (k.per : Int) (by omega) (by omega)
  have r5 : IntKind.u64.wrap ((v : Int) - 1) = x := by rw [wrapU _ (by omega) (by omega)]; omega
  have r6 := wrapI (x : Int) (by omega) (by omega)
  have r7 : (v : Int) ≤ k.per := by omega
  have HT : Hid (∀ w0, Fr (fun _ => False) w w0 → Calls Tryz.prog 242 #[.pointer (some ⟨c, 0, none⟩), .int .i64 x] w0 fun e w' => e = .returned (.int .i64 (k.pos x)) ∧ Chm w' c a k ∧ Fr (fun _ => False) w w') := fun w0 f => (p_at (Chm.chain.carry q f id) ok g.le hx).mono fun e w' ⟨he, f2⟩ => ⟨he, Chm.chain.carry q (f.trans f2) id, f.trans f2⟩
  have HL : Hid (∀ w0, Fr (fun _ => False) w w0 → Calls Tryz.prog 248 #[.pointer (some ⟨a, 0, none⟩), .int .i64 (k.pos x)] w0 fun e w' => e = .returned (.tuple #[.int .u64 (wd bs (k.pos x)), .int .i64 0]) ∧ ∃ Z', Left 104 Chm w c a Z bs (ss ++ [((k.pos x : Int), (8 : Int), false)]) k Z' w' ∧ Gw w w' Z Z') :=
    fun w0 f => (am_load (g.kept f) (k.pos x) (ok.at hx) hk).mono fun e w' ⟨he, Z', h1, h2⟩ => ⟨he, Z', (Left.arena Chm.chain (Chm.chain.carry q f id) nz h1 h2).ahead f, Gw.ahead f h2⟩
  have hw' : (k.per : Int) < wd bs (k.pos x) := by omega
  clear q g ok nz hk hx hp hw hv
  generalize k.pos x = ps at *
  generalize wd bs ps = v2 at *
  go_enter Tryz.func247, Tryz.ntmps247
  go_wp2_with fail
  go_region_held3 (fun w' => w'.cell? ⟨c, 0, none⟩ = some (.pointer (some ⟨a, 0, none⟩))) (first | go_keep | exact (by assumption)) (first | (go_at_call 242; refine (HT.out _ (Fr.refl _ _).drew).mono ?_; rintro e w9 ⟨rfl, hq9, hf9⟩; have F9 := hid hf9; have b0 := hq9.c0; have b3 := hq9.c3; have b4 := hq9.c4; clear hq9 hf9) | (go_at_call 248; refine (HL.out _ F9.out).mono ?_; rintro e w1 ⟨rfl, Z', hL, hG⟩; have HA := hid hL; have HG := hid hG; have d0 := hL.q.c0; have d3 := hL.q.c3; clear hL hG))
  clear HL HT c0 c3
  go_wp2
  go_ret3
  exact ⟨by simp, Z', HA.out, HG.out⟩
set_option maxRecDepth 20000 in
set_option maxHeartbeats 1000000 in
theorem follow_ok (q : Chm w c a k) (g : Am 104 a bs ss w Z) (ok : k.Ok bs.length) (nz : ¬ Z c) (hk : ss.length ≤ 1000000) {x v : Nat} (hv : v = x + 1) (hx : x < k.per) (hw : wd bs (k.pos x) ≤ k.per) : Calls Tryz.prog 247 #[.pointer (some ⟨c, 0, none⟩), .int .u64 v] w fun e w' => e = .returned (.tuple #[.int .i64 x, .int .u64 (wd bs (k.pos x)), .int .i64 0]) ∧ ∃ Z', Left 104 Chm w c a Z bs (ss ++ [((k.pos x : Int), (8 : Int), false)]) k Z' w' ∧ Gw w w' Z Z' := by
  have c0 := q.c0
  have c3 := q.c3
  have hp := ok.p1
  have hlt := wd_lt bs (k.pos x)
  have r4 := wrapU (k.per : Int) (by omega) (by omega)
  have r5 : IntKind.u64.wrap ((v : Int) - 1) = x := by rw [wrapU _ (by omega) (by omega)]; omega
  have r6 := wrapI (x : Int) (by omega) (by omega)
  have r7 : (v : Int) ≤ k.per := by omega
  have HT : Hid (∀ w0, Fr (fun _ => False) w w0 → Calls Tryz.prog 242 #[.pointer (some ⟨c, 0, none⟩), .int .i64 x] w0 fun e w' => e = .returned (.int .i64 (k.pos x)) ∧ Chm w' c a k ∧ Fr (fun _ => False) w w') := fun w0 f => (p_at (Chm.chain.carry q f id) ok g.le hx).mono fun e w' ⟨he, f2⟩ => ⟨he, Chm.chain.carry q (f.trans f2) id, f.trans f2⟩
  have HL : Hid (∀ w0, Fr (fun _ => False) w w0 → Calls Tryz.prog 248 #[.pointer (some ⟨a, 0, none⟩), .int .i64 (k.pos x)] w0 fun e w' => e = .returned (.tuple #[.int .u64 (wd bs (k.pos x)), .int .i64 0]) ∧ ∃ Z', Left 104 Chm w c a Z bs (ss ++ [((k.pos x : Int), (8 : Int), false)]) k Z' w' ∧ Gw w w' Z Z') :=
    fun w0 f => (am_load (g.kept f) (k.pos x) (ok.at hx) hk).mono fun e w' ⟨he, Z', h1, h2⟩ => ⟨he, Z', (Left.arena Chm.chain (Chm.chain.carry q f id) nz h1 h2).ahead f, Gw.ahead f h2⟩
  have hw' : (wd bs (k.pos x) : Int) ≤ k.per := by omega
  clear q g ok nz hk hx hp hw hv
  generalize k.pos x = ps at *
  generalize wd bs ps = v2 at *
  go_enter Tryz.func247, Tryz.ntmps247
  go_wp2_with fail
  go_region_held3 (fun w' => w'.cell? ⟨c, 0, none⟩ = some (.pointer (some ⟨a, 0, none⟩))) (first | go_keep | exact (by assumption)) (first | (go_at_call 242; refine (HT.out _ (Fr.refl _ _).drew).mono ?_; rintro e w9 ⟨rfl, hq9, hf9⟩; have F9 := hid hf9; have b0 := hq9.c0; have b3 := hq9.c3; have b4 := hq9.c4; clear hq9 hf9) | (go_at_call 248; refine (HL.out _ F9.out).mono ?_; rintro e w1 ⟨rfl, Z', hL, hG⟩; have HA := hid hL; have HG := hid hG; have d0 := hL.q.c0; have d3 := hL.q.c3; clear hL hG))
  clear HL HT c0 c3
  go_wp2
  go_ret3
  exact ⟨by simp, Z', HA.out, HG.out⟩
set_option maxRecDepth 20000 in
set_option maxHeartbeats 1000000 in
theorem p_pop_form (q : Chm w c a k) (g : Am 104 a bs ss w Z) (ok : k.Ok bs.length) (nz : ¬ Z c) (hk : ss.length ≤ 1000000) {x : Nat} (h0 : k.hd = x + 1) (hw : ¬ wd bs (k.pos x) ≤ k.per) : Calls Tryz.prog 244 #[.pointer (some ⟨c, 0, none⟩)] w fun e w' => e = .returned (.tuple #[.int .i64 0, .int .i64 14]) ∧ ∃ Z', Left 104 Chm w c a Z bs (ss ++ [((k.pos x : Int), (8 : Int), false)]) k Z' w' := by
  have c4 := q.c4
  have HF := hid (follow_no q g ok nz hk h0 (by have := ok.hd; omega) hw)
  have hne : (k.hd : Int) ≠ 0 := by omega
  clear q g ok nz hk hw h0
  generalize k.hd = v at c4 HF hne
  go_enter Tryz.func244, Tryz.ntmps244
  go_wp2_with fail
  refine HF.out.mono ?_
  rintro e w1 ⟨rfl, Z', hL, _⟩
  have HA := hid hL
  clear hL
  go_wp2
  go_ret2
  exact ⟨by simp, Z', HA.out⟩
set_option maxRecDepth 20000 in
set_option maxHeartbeats 1000000 in
theorem p_pop_ok (q : Chm w c a k) (g : Am 104 a bs ss w Z) (ok : k.Ok bs.length) (nz : ¬ Z c) (hk : ss.length < 1000000) {x : Nat} (h0 : k.hd = x + 1) (hw : wd bs (k.pos x) ≤ k.per) : Calls Tryz.prog 244 #[.pointer (some ⟨c, 0, none⟩)] w fun e w' => e = .returned (.tuple #[.int .i64 x, .int .i64 0]) ∧ ∃ Z', Left 104 Chm w c a Z (over bs (k.pos x) (leb 0 8)) (ss ++ [((k.pos x : Int), (8 : Int), false)] ++ [((k.pos x : Int), (8 : Int), true)]) (k.to (wd bs (k.pos x))) Z' w' := by
  have hx : x < k.per := by have := ok.hd; omega
  have c4 := q.c4
  have HF := hid (follow_ok q g ok nz (by omega) h0 hx hw)
  have HT : Hid (∀ w0 w2 Z1, Left 104 Chm w c a Z bs (ss ++ [((k.pos x : Int), (8 : Int), false)]) k Z1 w2 → Fr (fun _ => False) w2 w0 → Calls Tryz.prog 242 #[.pointer (some ⟨c, 0, none⟩), .int .i64 x] w0 fun e w' => e = .returned (.int .i64 (k.pos x)) ∧ Chm w' c a k ∧ Fr (fun _ => False) w2 w') := fun w0 w2 Z1 hL f => (p_at (Chm.chain.carry hL.q f id) ok g.le hx).mono fun e w' ⟨he, f2⟩ => ⟨he, Chm.chain.carry hL.q (f.trans f2) id, f.trans f2⟩
  have HS : Hid (∀ w0 w2 Z1, Left 104 Chm w c a Z bs (ss ++ [((k.pos x : Int), (8 : Int), false)]) k Z1 w2 → Fr (fun _ => False) w2 w0 → Calls Tryz.prog 241 #[.pointer (some ⟨a, 0, none⟩), .int .i64 (k.pos x), .int .u64 0] w0 fun e w' => e = .returned (.int .i64 0) ∧ ∃ Z', Left 104 Chm w c a Z (over bs (k.pos x) (leb 0 8)) (ss ++ [((k.pos x : Int), (8 : Int), false)] ++ [((k.pos x : Int), (8 : Int), true)]) k Z' w') :=
    fun w0 w2 Z1 hL f => (am_store (hL.am.kept f) (k.pos x) 0 (by omega) (ok.at hx) (by simp; omega)).mono fun e w' ⟨he, Z', h1, h2⟩ => ⟨he, Z', (hL.kept Chm.chain f).arena2 Chm.chain h1 h2⟩
  have hne : (k.hd : Int) ≠ 0 := by omega
  have HV : Hid (wd bs (k.pos x) = wd bs (k.pos x)) := rfl
  clear q g ok nz hk hx h0 hw
  generalize k.pos x = ps at *
  generalize wd bs ps = v2 at *
  generalize k.hd = v at c4 HF hne
  go_enter Tryz.func244, Tryz.ntmps244
  go_wp2_with fail
  refine HF.out.mono ?_
  rintro e w1 ⟨rfl, Z', hL, _⟩
  have HA := hid hL
  have d0 := hL.q.c0
  clear hL c4 HF
  go_wp2_with fail
  go_region_held3 (fun w' => w'.cell? ⟨c, 0, none⟩ = some (.pointer (some ⟨a, 0, none⟩))) (first | go_keep | exact (by assumption)) (first | (go_at_call 242; refine (HT.out _ _ _ HA.out (Fr.refl _ _).drew).mono ?_; rintro e w9 ⟨rfl, hq9, hf9⟩; have F9 := hid hf9; have b0 := hq9.c0; have b3 := hq9.c3; have b4 := hq9.c4; clear hq9 hf9) | (go_at_call 241; refine (HS.out _ _ _ HA.out F9.out).mono ?_; rintro e w3 ⟨rfl, Z3, hL⟩; have HB := hid hL; have e0 := hL.q.c0; have fz := hL.q.fz; have e4 := hL.q.c4; clear hL))
  clear HS HT HA d0
  go_wp2
  go_ret2
  exact ⟨by simp, Z3, HB.out.set (HB.out.q.head rfl)⟩
set_option maxRecDepth 20000 in
theorem p_empty (q : Chm w c a k) : Calls Tryz.prog 235 #[.pointer (some ⟨c, 0, none⟩)] w fun e w' => e = .returned (.bool (decide (k.hd = 0))) ∧ Fr (fun _ => False) w w' := by
  have c4 := q.c4
  clear q
  generalize k.hd = v at *
  by_cases h0 : v = 0
  · subst h0
    go_enter Tryz.func235, Tryz.ntmps235
    go_wp2
    go_ret
    exact ⟨by simp, Fr.refl _ _⟩
  · have h1 : (v : Int) ≠ 0 := by omega
    rw [decide_eq_false h0]
    clear h0
    go_enter Tryz.func235, Tryz.ntmps235
    go_wp2
    go_ret
    exact ⟨by simp; omega, Fr.refl _ _⟩
set_option maxRecDepth 20000 in
theorem p_take_ok (q : Chm w c a k) {d : Nat} {k2 : Ck} (q2 : Chm w d a k2) (hne : c ≠ d) (h0 : k.hd = 0) : Calls Tryz.prog 237 #[.pointer (some ⟨c, 0, none⟩), .pointer (some ⟨d, 0, none⟩)] w fun e w' => e = .returned (.int .i64 0) ∧ Chm w' c a (k.to k2.hd) ∧ Chm w' d a (k2.to 0) ∧ Fr (fun i => i = c ∨ i = d) w w' := by
  have HC := hid q
  have c4 := q.c4
  have d4 := q2.c4
  have f1 := q.fz
  have HF : Hid (Fr (fun i => i = c) w (w.setCell ⟨c, 4, none⟩ (.int .u64 (k2.hd : Int)))) := Fr.setCell (S := fun i => i = c) (p := ⟨c, 4, none⟩) (Fr.refl _ _) rfl _
  have HD2 := hid (Chm.chain.carry q2 HF.out (fun e => hne e.symm))
  have d5 := HD2.out.c4
  have f2 := HD2.out.fz
  rw [h0] at c4
  clear q q2
  go_enter Tryz.func237, Tryz.ntmps237
  go_wp2
  go_ret
  refine ⟨by simp, ?_, HD2.out.head (by omega), Fr.trans' (HF.out.mono fun _ _ e => .inl e) (Fr.setCell (S := fun i => i = d) (p := ⟨d, 4, none⟩) (Fr.refl _ _) rfl _) fun _ _ e => .inr e⟩
  exact Chm.chain.carry (HC.out.head rfl) (Fr.setCell (S := fun i => i = d) (p := ⟨d, 4, none⟩) (Fr.refl _ _) rfl _) hne
end
end Go.Proofs.YtioplfbkfokkfaaGreatDoor

namespace Go.Proofs.YtioplfbkfokkfaaGreatDoor
open Go.RowKit
open An

/-- Which blocks are had, as a shelf says it. -/
def hs (g : Pg) : List Bool := (List.range (pp g.kind)).map fun i => decide (g.Had i)
theorem hs_length (g : Pg) : (hs g).length = pp g.kind := by simp [hs]
theorem hs_get (g : Pg) (j : Nat) (hj : j < pp g.kind) : (hs g)[j]'(by rw [hs_length]; exact hj) = decide (g.Had j) := by simp [hs]
theorem hs_hasN (g : Pg) (k : Int) : Sf.hasN (hs g) k = decide (g.Block k) := by unfold Sf.hasN; rw [hs_length]
theorem hs_isT (g : Pg) (k : Int) : Sf.isT (hs g) k = decide (g.May k) := by
  unfold Sf.isT
  rw [hs_hasN]
  by_cases h : g.Block k
  · have hk : k.toNat < pp g.kind := by have := h.1; have := h.2; omega
    rw [decide_eq_true h, Bool.true_and, List.getD_eq_getElem?_getD, List.getElem?_eq_getElem (by rw [hs_length]; exact hk), Option.getD_some, hs_get g _ hk]
    exact decide_eq_decide.2 ⟨fun m => ⟨h, m⟩, fun m => m.2⟩
  · rw [decide_eq_false h, Bool.false_and, decide_eq_false fun m : g.May k => h m.1]
theorem hs_set {g g' : Pg} {x : Nat} {b : Bool} (hk : g'.kind = g.kind) (h : ∀ i, i < pp g.kind → (g'.Had i ↔ (if i = x then b = true else g.Had i))) : hs g' = (hs g).set x b := by
  apply List.ext_getElem (by rw [List.length_set, hs_length, hs_length, hk])
  intro i h1 h2
  rw [hs_length, hk] at h1
  rw [hs_get g' i (by rw [hk]; exact h1), List.getElem_set]
  have := h i h1
  by_cases e : x = i
  · subst e
    rw [if_pos rfl] at this
    rw [if_pos rfl]
    cases b
    · exact decide_eq_false fun k => by have := this.1 k; cases this
    · exact decide_eq_true (this.2 rfl)
  · rw [if_neg (fun k => e k.symm)] at this
    rw [if_neg e, hs_get g i h1]
    exact decide_eq_decide.2 this
theorem frees_count : ∀ l : List Bool, Sf.frees l + l.count true = l.length
  | [] => rfl
  | b :: l => by
    have := frees_count l
    cases b <;> simp [Sf.frees] <;> omega
theorem hads_hs {g : Pg} {bs : List UInt8} (ok : g.Ok bs) : hads g = hs g ++ List.replicate (32 - pp g.kind) false := by
  have hp := (kind_facts g.kind ok.kind).2.1.2
  apply List.ext_getElem (by rw [hads_length, List.length_append, hs_length, List.length_replicate]; omega)
  intro i h1 h2
  rw [hads_length] at h1
  rw [hads_get g i h1]
  by_cases h : i < pp g.kind
  · rw [List.getElem_append_left (by rw [hs_length]; exact h), hs_get g i h]
  · rw [List.getElem_append_right (by rw [hs_length]; omega), List.getElem_replicate]
    exact decide_eq_false fun m => by have := m.1; have := ok.fr; omega
theorem hs_used {g : Pg} {bs : List UInt8} (ok : g.Ok bs) : Sf.frees (hs g) + g.used = pp g.kind := by
  have h1 := ok.counted
  rw [hads_hs ok, List.count_append, List.count_replicate] at h1
  have h2 := frees_count (hs g)
  rw [hs_length] at h2
  simp at h1
  omega
theorem hs_none (x kd : Nat) : hs ⟨x, kd, 0, [], []⟩ = List.replicate (pp kd) false := by
  apply List.ext_getElem (by rw [hs_length, List.length_replicate])
  intro i h1 h2
  rw [hs_get _ i (by rw [List.length_replicate] at h2; exact h2), List.getElem_replicate]
  exact decide_eq_false fun m => Nat.not_lt_zero _ m.1
/-- The page's own block. -/
def Pw (w : World) (p a : Nat) (base kind fresh : Int) (rd wt sa : Nat) : Prop := w.heap[p]? = some (.cells #[.pointer (some ⟨rd, 0, none⟩), .pointer (some ⟨wt, 0, none⟩), .pointer (some ⟨a, 0, none⟩), .int .i64 base, .int .i64 kind, .int .i64 fresh, .pointer (some ⟨sa, 0, none⟩)] 241 (0, 0))
section
variable {w w' : World} {p a rd wt sa : Nat} {base kind fresh : Int}
theorem Pw.lt (h : Pw w p a base kind fresh rd wt sa) : p < w.heap.size := (Array.getElem?_eq_some_iff.1 h).1
theorem Pw.carry {S : Nat → Prop} (h : Pw w p a base kind fresh rd wt sa) (f : Fr S w w') (hn : ¬ S p) : Pw w' p a base kind fresh rd wt sa := (f.block p h.lt hn).trans h
theorem Pw.c0 (h : Pw w p a base kind fresh rd wt sa) : w.cell? ⟨p, 0, none⟩ = some (.pointer (some ⟨rd, 0, none⟩)) := by unfold Pw at h; simp [World.cell?, h]
theorem Pw.c1 (h : Pw w p a base kind fresh rd wt sa) : w.cell? ⟨p, 1, none⟩ = some (.pointer (some ⟨wt, 0, none⟩)) := by unfold Pw at h; simp [World.cell?, h]
theorem Pw.c2 (h : Pw w p a base kind fresh rd wt sa) : w.cell? ⟨p, 2, none⟩ = some (.pointer (some ⟨a, 0, none⟩)) := by unfold Pw at h; simp [World.cell?, h]
theorem Pw.c3 (h : Pw w p a base kind fresh rd wt sa) : w.cell? ⟨p, 3, none⟩ = some (.int .i64 base) := by unfold Pw at h; simp [World.cell?, h]
theorem Pw.c4 (h : Pw w p a base kind fresh rd wt sa) : w.cell? ⟨p, 4, none⟩ = some (.int .i64 kind) := by unfold Pw at h; simp [World.cell?, h]
theorem Pw.c5 (h : Pw w p a base kind fresh rd wt sa) : w.cell? ⟨p, 5, none⟩ = some (.int .i64 fresh) := by unfold Pw at h; simp [World.cell?, h]
theorem Pw.c6 (h : Pw w p a base kind fresh rd wt sa) : w.cell? ⟨p, 6, none⟩ = some (.pointer (some ⟨sa, 0, none⟩)) := by unfold Pw at h; simp [World.cell?, h]
theorem Pw.fz (h : Pw w p a base kind fresh rd wt sa) (j : Nat) : w.frozen? ⟨p, j, none⟩ = false := by unfold Pw at h; simp [World.frozen?, h]
theorem Pw.setFresh (h : Pw w p a base kind fresh rd wt sa) (x : Int) : Pw (w.setCell ⟨p, 5, none⟩ (.int .i64 x)) p a base kind x rd wt sa := by unfold Pw at h ⊢; simp [World.setCell, Array.getElem?_modify, h]
end
/-- A shelf goes where its two blocks do. -/
theorem sh_on {w w' : World} {S : Nat → Prop} {a b : Nat} {has : List Bool} (h : Sf.Sh w a b has) (f : Fr S w w') (h1 : ¬ S a) (h2 : ¬ S b) : Sf.Sh w' a b has := by
  obtain ⟨ws, c, h⟩ := h
  exact ⟨ws, c, h.bits, by rw [f.block a h.lta h1]; exact h.st, Sf.ownsRow_carry h.row f h2, h.ne, h.a0, h.b0, h.le, Nat.lt_of_lt_of_le h.tab f.size⟩
/-- The page's own blocks. -/
structure Five (p rd wt sa sb i : Nat) : Prop where
  is : i = p ∨ i = rd ∨ i = wt ∨ i = sa ∨ i = sb
/-- The program's page amid a call, with its arena, chains and shelf; w0, Z0: how it was ahead of it. -/
structure Ppr (w0 : World) (Z0 : Nat → Prop) (w : World) (p a rd wt sa sb : Nat) (Z : Nat → Prop) (bs : List UInt8) (ss : List Sp) (base kind fresh : Int) (hd : List Bool) (kr kw : Ck) : Prop where
  am : Am 104 a bs ss w Z
  pw : Pw w p a base kind fresh rd wt sa
  qr : Chm w rd a kr
  qw : Chm w wt a kw
  sh : Sf.Sh w sa sb hd
  d1 : p ≠ rd ∧ p ≠ wt ∧ p ≠ sa ∧ p ≠ sb
  d2 : rd ≠ wt ∧ rd ≠ sa ∧ rd ≠ sb
  d3 : wt ≠ sa ∧ wt ≠ sb
  z : ∀ i, Five p rd wt sa sb i → ¬ Z i
  fr : Fr (fun i => Five p rd wt sa sb i ∨ Z0 i) w0 w
  new : ∀ i, Z i → Z0 i ∨ w0.heap.size ≤ i
section
variable {w0 w w' : World} {Z0 Z Z' : Nat → Prop} {p a rd wt sa sb : Nat} {bs bs' : List UInt8} {ss ss' : List Sp} {base kind fresh : Int} {hd hd2 : List Bool} {kr kw k' k2 : Ck}
theorem Ppr.five (h : Ppr w0 Z0 w p a rd wt sa sb Z bs ss base kind fresh hd kr kw) {i : Nat} (hi : Five p rd wt sa sb i) : i < w.heap.size := by
  rcases hi.is with rfl | rfl | rfl | rfl | rfl
  · exact h.pw.lt
  · exact Chm.chain.lt h.qr
  · exact Chm.chain.lt h.qw
  · exact h.sh.lta
  · exact h.sh.ltb
theorem Ppr.z1 (h : Ppr w0 Z0 w p a rd wt sa sb Z bs ss base kind fresh hd kr kw) : ¬ Z p := h.z p ⟨.inl rfl⟩
theorem Ppr.z2 (h : Ppr w0 Z0 w p a rd wt sa sb Z bs ss base kind fresh hd kr kw) : ¬ Z rd := h.z rd ⟨.inr (.inl rfl)⟩
theorem Ppr.z3 (h : Ppr w0 Z0 w p a rd wt sa sb Z bs ss base kind fresh hd kr kw) : ¬ Z wt := h.z wt ⟨.inr (.inr (.inl rfl))⟩
theorem Ppr.z4 (h : Ppr w0 Z0 w p a rd wt sa sb Z bs ss base kind fresh hd kr kw) : ¬ Z sa := h.z sa ⟨.inr (.inr (.inr (.inl rfl)))⟩
theorem Ppr.z5 (h : Ppr w0 Z0 w p a rd wt sa sb Z bs ss base kind fresh hd kr kw) : ¬ Z sb := h.z sb ⟨.inr (.inr (.inr (.inr rfl)))⟩
theorem Ppr.kept (h : Ppr w0 Z0 w p a rd wt sa sb Z bs ss base kind fresh hd kr kw) (f : Fr (fun _ => False) w w') : Ppr w0 Z0 w' p a rd wt sa sb Z bs ss base kind fresh hd kr kw :=
  ⟨h.am.kept f, h.pw.carry f id, Chm.chain.carry h.qr f id, Chm.chain.carry h.qw f id, sh_on h.sh f id id, h.d1, h.d2, h.d3, h.z, Fr.trans' h.fr f fun _ _ e => e.elim, h.new⟩
/-- The arena has turned. -/
theorem Ppr.arena (h : Ppr w0 Z0 w p a rd wt sa sb Z bs ss base kind fresh hd kr kw) (ha : Am 104 a bs' ss' w' Z') (g : Gw w w' Z Z') : Ppr w0 Z0 w' p a rd wt sa sb Z' bs' ss' base kind fresh hd kr kw := by
  have hs := h.fr.size
  exact ⟨ha, h.pw.carry g.fr h.z1, Chm.chain.carry h.qr g.fr h.z2, Chm.chain.carry h.qw g.fr h.z3, sh_on h.sh g.fr h.z4 h.z5, h.d1, h.d2, h.d3, fun i hi e => by
    rcases g.new i e with e | e
    · exact h.z i hi e
    · have := h.five hi; omega, Fr.trans' h.fr g.fr fun i hi e => by
    rcases h.new i e with e | e
    · exact .inr e
    · omega, fun i hi => by
    rcases g.new i hi with e | e
    · exact h.new i e
    · exact .inr (by omega)⟩
/-- The free ones' chain, and the arena. -/
theorem Ppr.ready (h : Ppr w0 Z0 w p a rd wt sa sb Z bs ss base kind fresh hd kr kw) (l : Left 104 Chm w rd a Z bs' ss' k' Z' w') : Ppr w0 Z0 w' p a rd wt sa sb Z' bs' ss' base kind fresh hd k' kw := by
  have hs := h.fr.size
  exact ⟨l.am, h.pw.carry l.fr fun e => by rcases e with e | e; exact h.d1.1 e; exact h.z1 e, l.q, Chm.chain.carry h.qw l.fr fun e => by rcases e with e | e; exact h.d2.1 e.symm; exact h.z3 e, sh_on h.sh l.fr (fun e => by rcases e with e | e; exact h.d2.2.1 e.symm; exact h.z4 e) (fun e => by rcases e with e | e; exact h.d2.2.2 e.symm; exact h.z5 e), h.d1, h.d2, h.d3, fun i hi e => by
    rcases l.new i e with e | e
    · exact h.z i hi e
    · have := h.five hi; omega, Fr.trans' h.fr l.fr fun i hi e => by
    rcases e with e | e
    · exact .inl ⟨.inr (.inl e)⟩
    · rcases h.new i e with e | e
      · exact .inr e
      · omega, fun i hi => by
    rcases l.new i hi with e | e
    · exact h.new i e
    · exact .inr (by omega)⟩
/-- The deferred ones' chain, and the arena. -/
theorem Ppr.waiting (h : Ppr w0 Z0 w p a rd wt sa sb Z bs ss base kind fresh hd kr kw) (l : Left 104 Chm w wt a Z bs' ss' k' Z' w') : Ppr w0 Z0 w' p a rd wt sa sb Z' bs' ss' base kind fresh hd kr k' := by
  have hs := h.fr.size
  exact ⟨l.am, h.pw.carry l.fr fun e => by rcases e with e | e; exact h.d1.2.1 e; exact h.z1 e, Chm.chain.carry h.qr l.fr fun e => by rcases e with e | e; exact h.d2.1 e; exact h.z2 e, l.q, sh_on h.sh l.fr (fun e => by rcases e with e | e; exact h.d3.1 e.symm; exact h.z4 e) (fun e => by rcases e with e | e; exact h.d3.2 e.symm; exact h.z5 e), h.d1, h.d2, h.d3, fun i hi e => by
    rcases l.new i e with e | e
    · exact h.z i hi e
    · have := h.five hi; omega, Fr.trans' h.fr l.fr fun i hi e => by
    rcases e with e | e
    · exact .inl ⟨.inr (.inr (.inl e))⟩
    · rcases h.new i e with e | e
      · exact .inr e
      · omega, fun i hi => by
    rcases l.new i hi with e | e
    · exact h.new i e
    · exact .inr (by omega)⟩
/-- Both chains. -/
theorem Ppr.chains (h : Ppr w0 Z0 w p a rd wt sa sb Z bs ss base kind fresh hd kr kw) (q1 : Chm w' rd a k') (q2 : Chm w' wt a k2) (f : Fr (fun i => i = rd ∨ i = wt) w w') : Ppr w0 Z0 w' p a rd wt sa sb Z bs ss base kind fresh hd k' k2 :=
  ⟨(Am.good _ _ _ _).carry h.am f fun i hi e => by rcases e with rfl | rfl; exact h.z2 hi; exact h.z3 hi, h.pw.carry f fun e => by rcases e with e | e; exact h.d1.1 e; exact h.d1.2.1 e, q1, q2, sh_on h.sh f (fun e => by rcases e with e | e; exact h.d2.2.1 e.symm; exact h.d3.1 e.symm) (fun e => by rcases e with e | e; exact h.d2.2.2 e.symm; exact h.d3.2 e.symm), h.d1, h.d2, h.d3, h.z, Fr.trans' h.fr f fun i _ e => by rcases e with e | e; exact .inl ⟨.inr (.inl e)⟩; exact .inl ⟨.inr (.inr (.inl e))⟩, h.new⟩
/-- The shelf's words. -/
theorem Ppr.shelf (h : Ppr w0 Z0 w p a rd wt sa sb Z bs ss base kind fresh hd kr kw) (q : Sf.Sh w' sa sb hd2) (f : Fr (fun i => i = sb) w w') : Ppr w0 Z0 w' p a rd wt sa sb Z bs ss base kind fresh hd2 kr kw :=
  ⟨(Am.good _ _ _ _).carry h.am f fun _ hi e => h.z5 (e ▸ hi), h.pw.carry f h.d1.2.2.2, Chm.chain.carry h.qr f h.d2.2.2, Chm.chain.carry h.qw f h.d3.2, q, h.d1, h.d2, h.d3, h.z, Fr.trans' h.fr f fun _ _ e => .inl ⟨.inr (.inr (.inr (.inr e)))⟩, h.new⟩
/-- The page's own cells. -/
theorem Ppr.own {j : Nat} {u : Value} {base2 kind2 fresh2 : Int} (h : Ppr w0 Z0 w p a rd wt sa sb Z bs ss base kind fresh hd kr kw) (q : Pw (w.setCell ⟨p, j, none⟩ u) p a base2 kind2 fresh2 rd wt sa) : Ppr w0 Z0 (w.setCell ⟨p, j, none⟩ u) p a rd wt sa sb Z bs ss base2 kind2 fresh2 hd kr kw := by
  have f : Fr (fun i => i = p) w (w.setCell ⟨p, j, none⟩ u) := Fr.setCell (S := fun i => i = p) (p := ⟨p, j, none⟩) (Fr.refl _ _) rfl _
  exact ⟨(Am.good _ _ _ _).carry h.am f fun i hi e => h.z1 (e ▸ hi), q, Chm.chain.carry h.qr f fun e => h.d1.1 e.symm, Chm.chain.carry h.qw f fun e => h.d1.2.1 e.symm, sh_on h.sh f (fun e => h.d1.2.2.1 e.symm) (fun e => h.d1.2.2.2 e.symm), h.d1, h.d2, h.d3, h.z, Fr.trans' h.fr f fun i _ e => .inl ⟨.inl e⟩, h.new⟩
end
/-- The program's page, its arena, chains and shelf. -/
abbrev Pp (w0 : World) (Z0 : Nat → Prop) (w : World) (p a rd wt sa sb : Nat) (Z : Nat → Prop) (bs : List UInt8) (ss : List Sp) (g : Pg) : Prop := Ppr w0 Z0 w p a rd wt sa sb Z bs ss g.base g.kind g.fresh (hs g) (g.ck (lnk g.R)) (g.ck (lnk g.D))
/-- What lies in memory from the start (tables that the calls look into). -/
def Gr (w : World) : Prop := Tab w ∧ Sf.Pos w
theorem Gr.tab {w : World} (h : Gr w) : Tab w := h.1
/-- The program's page over the arena at a: all of it but the arena. -/
def Pm (p a : Nat) (g : Pg) (w : World) (Y : Nat → Prop) : Prop := ∃ rd wt sa sb, Pw w p a g.base g.kind g.fresh rd wt sa ∧ Chm w rd a (g.ck (lnk g.R)) ∧ Chm w wt a (g.ck (lnk g.D)) ∧ Sf.Sh w sa sb (hs g) ∧ ((p ≠ rd ∧ p ≠ wt ∧ p ≠ sa ∧ p ≠ sb) ∧ (rd ≠ wt ∧ rd ≠ sa ∧ rd ≠ sb) ∧ wt ≠ sa ∧ wt ≠ sb) ∧ (∀ i, Five p rd wt sa sb i → Y i) ∧ ∀ i, Y i → i < w.heap.size
theorem Pm.good (p a : Nat) (g : Pg) : Good (Pm p a g) :=
  ⟨fun ⟨rd, wt, sa, sb, h1, h2, h3, h4, h5, h6, h7⟩ f hs => ⟨rd, wt, sa, sb, h1.carry f (hs _ (h6 _ ⟨.inl rfl⟩)), Chm.chain.carry h2 f (hs _ (h6 _ ⟨.inr (.inl rfl)⟩)), Chm.chain.carry h3 f (hs _ (h6 _ ⟨.inr (.inr (.inl rfl))⟩)), sh_on h4 f (hs _ (h6 _ ⟨.inr (.inr (.inr (.inl rfl)))⟩)) (hs _ (h6 _ ⟨.inr (.inr (.inr (.inr rfl)))⟩)), h5, h6, fun i hi => Nat.lt_of_lt_of_le (h7 i hi) f.size⟩,
   fun ⟨rd, wt, sa, sb, h1, h2, h3, h4, h5, h6, _⟩ k1 k2 => ⟨rd, wt, sa, sb, h1, h2, h3, h4, h5, fun i hi => k1 _ (h6 i hi), k2⟩⟩
/-- The program's page with its arena. -/
def Pa (a : Nat) (bs : List UInt8) (ss : List Sp) (p : Nat) (g : Pg) : World → (Nat → Prop) → Prop := Both (Am 104 a bs ss) (Pm p a g)
section
variable {w w' : World} {U Z Z' : Nat → Prop} {p a rd wt sa sb : Nat} {bs bs' : List UInt8} {ss ss' : List Sp} {g g' : Pg}
theorem Pa.into (h : Pa a bs ss p g w U) : ∃ Z rd wt sa sb, Pp w Z w p a rd wt sa sb Z bs ss g ∧ ((∀ i, Z i → U i) ∧ ∀ i, Five p rd wt sa sb i → U i) ∧ ∀ i, U i → i < w.heap.size := by
  obtain ⟨Z, Y, h1, ⟨rd, wt, sa, sb, q1, q2, q3, q4, ⟨d1, d2, d3⟩, y, _⟩, h3, h4, h5, h6⟩ := h
  exact ⟨Z, rd, wt, sa, sb, ⟨h1, q1, q2, q3, q4, d1, d2, d3, fun i hi e => h3 _ e (y i hi), Fr.refl _ _, fun _ => .inl⟩, ⟨h4, fun i hi => h5 _ (y i hi)⟩, h6⟩
theorem Pa.back (hu : (∀ i, Z i → U i) ∧ ∀ i, Five p rd wt sa sb i → U i) (hl : ∀ i, U i → i < w.heap.size) (h : Pp w Z w' p a rd wt sa sb Z' bs' ss' g') : ∃ U', Pa a bs' ss' p g' w' U' ∧ Gw w w' U U' := by
  have hlt : ∀ i, (U i ∨ Z' i) → i < w'.heap.size := fun i hi => by
    rcases hi with hi | hi
    · exact Nat.lt_of_lt_of_le (hl i hi) h.fr.size
    · exact h.am.lt i hi
  refine ⟨fun i => U i ∨ Z' i, ⟨Z', fun i => Five p rd wt sa sb i, h.am, ⟨rd, wt, sa, sb, h.pw, h.qr, h.qw, h.sh, ⟨h.d1, h.d2, h.d3⟩, fun _ => id, fun i hi => h.five hi⟩, fun i hi e => h.z i e hi, fun _ => .inr, fun i hi => .inl (hu.2 i hi), hlt⟩, ⟨fun _ => .inl, fun i hi => ?_, hlt, h.fr.mono fun i _ e => ?_⟩⟩
  · rcases hi with hi | hi
    · exact .inl hi
    · rcases h.new i hi with e | e
      · exact .inl (hu.1 i e)
      · exact .inr e
  · rcases e with e | e
    · exact hu.2 i e
    · exact hu.1 i e
end
end Go.Proofs.YtioplfbkfokkfaaGreatDoor
