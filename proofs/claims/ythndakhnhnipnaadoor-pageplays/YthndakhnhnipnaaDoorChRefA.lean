/-
  What the document's own chain does.
-/
import Derived.Test.YthndakhnhnipnaaDoorChMem
import Derived.Test.YthndakhnhnipnaaDoorLists2
import Derived.Deep.RegionHeld3
import Derived.Deep.QuietTactic
import Derived.LoopTactic
import Derived.BigRegion
import Derived.BigQuiet
namespace Go.Proofs.YthndakhnhnipnaaDoor
open Go.RowKit
open An

section
variable {w : World} {a c : Nat} {Z : Nat → Prop} {bs : List UInt8} {ss : List Sp} {k : Ck}
theorem Am.b0 {T : TypeId} (h : Am T a bs ss w Z) : ∃ b, w.cell? ⟨a, 0, none⟩ = some (.slice (some ⟨b, 0, none⟩) bs.length bs.length) := by
  obtain ⟨B, b, v, h, _⟩ := h
  exact ⟨b, h.c0⟩
set_option maxRecDepth 20000 in
theorem r_lie (h : Am 56 a bs ss w Z) (x : Int) (u p : Nat) (hu : u ≤ 512) (hp : p ≤ 64) : Calls Tryd.prog 68 #[.pointer (some ⟨a, 0, none⟩), .int .i64 x, .int .i64 u, .int .i64 p] w fun e w' => e = .returned (.bool (decide (0 ≤ x ∧ x + (u * p : Nat) ≤ bs.length))) ∧ w' = w := by
  obtain ⟨b, c0⟩ := h.b0
  have hl := h.le
  have hup : u * p ≤ 512 * 64 := Nat.mul_le_mul hu hp
  clear h hu hp
  have hm : IntKind.i64.wrap ((u : Int) * (p : Int)) = ((u * p : Nat) : Int) := by rw [IntKind.wrap_i64, ← Int.natCast_mul]; omega
  generalize u * p = m at *
  generalize bs.length = n at *
  by_cases h0 : 0 ≤ x
  case neg =>
    have he : Hid (decide (0 ≤ x ∧ x + (m : Int) ≤ n) = false) := decide_eq_false (by omega)
    generalize decide (0 ≤ x ∧ x + (m : Int) ≤ n) = v at *
    go_enter Tryd.func68, Tryd.ntmps68
    go_wp2
    go_ret
    exact ⟨by rw [he.out]; simp, rfl⟩
  by_cases h1 : x ≤ n
  case neg =>
    have he : Hid (decide (0 ≤ x ∧ x + (m : Int) ≤ n) = false) := decide_eq_false (by omega)
    generalize decide (0 ≤ x ∧ x + (m : Int) ≤ n) = v at *
    go_enter Tryd.func68, Tryd.ntmps68
    go_wp2
    go_ret
    exact ⟨by rw [he.out]; simp, rfl⟩
  have hw : IntKind.i64.wrap ((n : Int) - x) = n - x := by rw [IntKind.wrap_i64]; omega
  by_cases h2 : (m : Int) ≤ n - x
  · have he : Hid (decide (0 ≤ x ∧ x + (m : Int) ≤ n) = true) := decide_eq_true (by omega)
    generalize decide (0 ≤ x ∧ x + (m : Int) ≤ n) = v at *
    go_enter Tryd.func68, Tryd.ntmps68
    go_wp2
    go_ret
    exact ⟨by rw [he.out]; simp, rfl⟩
  · have he : Hid (decide (0 ≤ x ∧ x + (m : Int) ≤ n) = false) := decide_eq_false (by omega)
    generalize decide (0 ≤ x ∧ x + (m : Int) ≤ n) = v at *
    go_enter Tryd.func68, Tryd.ntmps68
    go_wp2
    go_ret
    exact ⟨by rw [he.out]; simp, rfl⟩
set_option maxRecDepth 20000 in
theorem r_new (h : Am 56 a bs ss w Z) {x u p : Int} (hn : NewOk bs.length x u p) : Calls Tryd.prog 42 #[.pointer (some ⟨a, 0, none⟩), .int .i64 x, .int .i64 u, .int .i64 p] w fun e w' => ∃ c, e = .returned (.tuple #[.pointer (some ⟨c, 0, none⟩), .int .i64 0]) ∧ w.heap.size ≤ c ∧ Rch w' c a ⟨x.toNat, u.toNat, p.toNat, 0⟩ ∧ Fr (fun _ => False) w w' := by
  have hn' := hn
  obtain ⟨⟨h1, h2⟩, ⟨h3, h4⟩, h5, h6⟩ := hn
  obtain ⟨x, rfl⟩ := Int.eq_ofNat_of_zero_le h5
  obtain ⟨u, rfl⟩ := Int.eq_ofNat_of_zero_le (show 0 ≤ u by omega)
  obtain ⟨p, rfl⟩ := Int.eq_ofNat_of_zero_le (show 0 ≤ p by omega)
  have H1 := hid (r_lie h x u p (by omega) (by omega))
  rw [decide_eq_true ⟨h5, by rw [Int.natCast_mul]; exact h6⟩] at H1
  clear h hn' h6 h5
  have g1 : ¬ (u : Int) < 8 := by omega
  have g2 : ¬ 512 < (u : Int) := by omega
  have g3 : ¬ (p : Int) < 1 := by omega
  have g4 : ¬ 64 < (p : Int) := by omega
  clear h1 h2 h3 h4
  go_enter Tryd.func42, Tryd.ntmps42
  go_wp2_with fail
  refine H1.out.mono ?_
  rintro e w1 ⟨rfl, hw⟩
  obtain rfl := hw.symm
  clear hw
  go_wp2
  go_ret2
  exact ⟨_, rfl, Nat.le_refl _, by unfold Rch; rw [heap_alloc_new]; simp, (Fr.refl _ _).alloc _⟩
set_option maxRecDepth 20000 in
theorem r_new_no (h : Am 56 a bs ss w Z) {x u p : Int} (hn : ¬ NewOk bs.length x u p) : Calls Tryd.prog 42 #[.pointer (some ⟨a, 0, none⟩), .int .i64 x, .int .i64 u, .int .i64 p] w fun e w' => e = .returned (.tuple #[.pointer none, .int .i64 12]) ∧ w' = w := by
  by_cases g1 : u < 8
  · clear hn h
    go_enter Tryd.func42, Tryd.ntmps42
    go_wp2
    go_ret2
    exact ⟨by simp, rfl⟩
  by_cases g2 : 512 < u
  · clear hn h
    go_enter Tryd.func42, Tryd.ntmps42
    go_wp2
    go_ret2
    exact ⟨by simp, rfl⟩
  by_cases g3 : p < 1
  · clear hn h
    go_enter Tryd.func42, Tryd.ntmps42
    go_wp2
    go_ret2
    exact ⟨by simp, rfl⟩
  by_cases g4 : 64 < p
  · clear hn h
    go_enter Tryd.func42, Tryd.ntmps42
    go_wp2
    go_ret2
    exact ⟨by simp, rfl⟩
  obtain ⟨u, rfl⟩ := Int.eq_ofNat_of_zero_le (show 0 ≤ u by omega)
  obtain ⟨p, rfl⟩ := Int.eq_ofNat_of_zero_le (show 0 ≤ p by omega)
  have H1 := hid (r_lie h x u p (by omega) (by omega))
  rw [decide_eq_false fun e => hn ⟨⟨by omega, by omega⟩, ⟨by omega, by omega⟩, e.1, by have := e.2; rw [Int.natCast_mul] at this; exact this⟩] at H1
  clear h hn
  go_enter Tryd.func42, Tryd.ntmps42
  go_wp2_with fail
  refine H1.out.mono ?_
  rintro e w1 ⟨rfl, hw⟩
  obtain rfl := hw.symm
  clear hw
  go_wp2
  go_ret2
  exact ⟨by simp, rfl⟩
/-- A list and an error: the list lies in new blocks that aren't the arena's. -/
def AllE (W w : World) (Z : Nat → Prop) (l : List Int) (E : Int) (e : Ending) : Prop := ∃ ad cap, e = .returned (.tuple #[.slice ad l.length cap, .int .i64 E]) ∧ NumsAt w ad l ∧ ∀ b off, ad = some ⟨b, off, none⟩ → W.heap.size ≤ b ∧ ¬ Z b
theorem wrapI (x : Int) (h0 : -9223372036854775808 ≤ x) (h1 : x ≤ 9223372036854775807) : IntKind.i64.wrap x = x := by rw [IntKind.wrap_i64]; omega
theorem wrapU (x : Int) (h0 : 0 ≤ x) (h1 : x ≤ 18446744073709551615) : IntKind.u64.wrap x = x := by rw [IntKind.wrap_u64]; omega
/-- Where a block lies, as it is reckoned. -/
theorem Ck.Ok.reck {n : Nat} (h : k.Ok n) (hn : n ≤ 2097152) {x : Nat} (hx : x < k.per) : IntKind.i64.wrap ((x : Int) * (k.unit : Int)) = ((x * k.unit : Nat) : Int) ∧ IntKind.i64.wrap ((k.base : Int) + ((x * k.unit : Nat) : Int)) = (k.pos x : Int) := by
  have h1 := h.at hx
  unfold Ck.pos at h1 ⊢
  generalize e : x * k.unit = m at *
  rw [← Int.natCast_mul, e, wrapI _ (by omega) (by omega), wrapI _ (by omega) (by omega)]
  exact ⟨rfl, by omega⟩
set_option maxRecDepth 20000 in
theorem r_push_no (q : Rch w c a k) {x : Int} (hx : ¬ k.Has x) : Calls Tryd.prog 55 #[.pointer (some ⟨c, 0, none⟩), .int .i64 x] w fun e w' => e = .returned (.int .i64 12) ∧ Fr (fun _ => False) w w' := by
  have c3 := q.c3
  have hx : ¬ (0 ≤ x ∧ x < k.per) := hx
  clear q
  generalize k.per = p at *
  by_cases h0 : x < 0
  · clear hx
    go_enter Tryd.func55, Tryd.ntmps55
    go_wp2
    go_ret
    exact ⟨by simp, Fr.refl _ _⟩
  · have h1 : (p : Int) ≤ x := by omega
    clear hx
    go_enter Tryd.func55, Tryd.ntmps55
    go_wp2
    go_ret
    exact ⟨by simp, Fr.refl _ _⟩
set_option maxRecDepth 20000 in
set_option maxHeartbeats 1000000 in
theorem r_push_ok (q : Rch w c a k) (g : Am 56 a bs ss w Z) (ok : k.Ok bs.length) (nz : ¬ Z c) (hk : ss.length ≤ 1000000) {x : Nat} (hx : x < k.per) : Calls Tryd.prog 55 #[.pointer (some ⟨c, 0, none⟩), .int .i64 x] w fun e w' => e = .returned (.int .i64 0) ∧ ∃ Z', Left 56 Rch w c a Z (over bs (k.pos x) (leb k.hd 8)) (ss ++ [((k.pos x : Int), (8 : Int), true)]) (k.to (x + 1)) Z' w' := by
  have c0 := q.c0
  have c1 := q.c1
  have c2 := q.c2
  have c3 := q.c3
  have c4 := q.c4
  have hh := ok.hd
  have hp := ok.p1
  obtain ⟨r1, r2⟩ := ok.reck g.le hx
  have r3 := wrapI ((k.hd : Int) - 1 + 1) (by omega) (by omega)
  have r4 := wrapU (k.hd : Int) (by omega) (by omega)
  have r5 : (k.hd : Int) - 1 + 1 = k.hd := by omega
  rw [r5] at r3
  have HS : Hid (∀ w0, Fr (fun _ => False) w w0 → Calls Tryd.prog 72 #[.pointer (some ⟨a, 0, none⟩), .int .i64 (k.pos x), .int .u64 k.hd] w0 fun e w' => e = .returned (.int .i64 0) ∧ ∃ Z', Left 56 Rch w c a Z (over bs (k.pos x) (leb k.hd 8)) (ss ++ [((k.pos x : Int), (8 : Int), true)]) k Z' w') :=
    fun w0 f => (rm_store (g.kept f) (k.pos x) k.hd (by omega) (ok.at hx) hk).mono fun e w' ⟨he, Z', h1, h2⟩ => ⟨he, Z', (Left.arena Rch.chain (Rch.chain.carry q f id) nz h1 h2).ahead f⟩
  have hx' : (x : Int) < k.per := by omega
  clear q g ok nz hk hx hh hp r5
  generalize k.pos x = ps at *
  generalize x * k.unit = m at *
  go_enter Tryd.func55, Tryd.ntmps55
  go_wp2_with fail
  go_region_held3 (fun w' => w'.cell? ⟨c, 0, none⟩ = some (.pointer (some ⟨a, 0, none⟩)) ∧ w'.cell? ⟨c, 1, none⟩ = some (.int .i64 k.base) ∧ w'.cell? ⟨c, 2, none⟩ = some (.int .i64 k.unit) ∧ w'.cell? ⟨c, 4, none⟩ = some (.int .i64 ((k.hd : Int) - 1))) (first | go_keep | exact ⟨by assumption, by assumption, by assumption, by assumption⟩) (first | (go_at_call 72; refine (HS.out _ (Fr.refl _ _).drew).mono ?_; rintro e w1 ⟨rfl, Z', hL⟩; have HL := hid hL; have d0 := hL.q.c0; have d1 := hL.q.c1; have d2 := hL.q.c2; have d4 := hL.q.c4; have fz := hL.q.fz; clear hL))
  clear HS c0 c1 c2 c3 c4
  go_wp2
  go_ret
  exact ⟨by simp, Z', HL.out.set (HL.out.q.head (by omega))⟩
theorem r_push (q : Rch w c a k) (g : Am 56 a bs ss w Z) (ok : k.Ok bs.length) (nz : ¬ Z c) (hk : ss.length ≤ 1000000) (x : Int) : Calls Tryd.prog 55 #[.pointer (some ⟨c, 0, none⟩), .int .i64 x] w fun e w' => e = .returned (.int .i64 (puE k x)) ∧ ∃ Z', Left 56 Rch w c a Z (puB k bs x) (puT k ss x) (puS k x) Z' w' := by
  unfold puE puB puT puS
  by_cases hx : k.Has x
  · rw [if_pos hx, if_pos hx, if_pos hx, if_pos hx]
    obtain ⟨x, rfl⟩ := Int.eq_ofNat_of_zero_le hx.1
    exact r_push_ok q g ok nz hk (by omega)
  · rw [if_neg hx, if_neg hx, if_neg hx, if_neg hx]
    exact (r_push_no q hx).mono fun e w' ⟨he, f⟩ => ⟨he, Z, Left.same Rch.chain g q nz f⟩
set_option maxRecDepth 20000 in
theorem r_pop_none (q : Rch w c a k) (h0 : k.hd = 0) : Calls Tryd.prog 48 #[.pointer (some ⟨c, 0, none⟩)] w fun e w' => e = .returned (.tuple #[.int .i64 0, .int .i64 13]) ∧ Fr (fun _ => False) w w' := by
  have c4 := q.c4
  rw [h0] at c4
  clear q h0
  go_enter Tryd.func48, Tryd.ntmps48
  go_wp2
  go_ret2
  exact ⟨by simp, Fr.refl _ _⟩
set_option maxRecDepth 20000 in
set_option maxHeartbeats 1000000 in
theorem r_pop_form (q : Rch w c a k) (g : Am 56 a bs ss w Z) (ok : k.Ok bs.length) (nz : ¬ Z c) (hk : ss.length ≤ 1000000) {x : Nat} (h0 : k.hd = x + 1) (hw : ¬ wd bs (k.pos x) ≤ k.per) : Calls Tryd.prog 48 #[.pointer (some ⟨c, 0, none⟩)] w fun e w' => e = .returned (.tuple #[.int .i64 0, .int .i64 14]) ∧ ∃ Z', Left 56 Rch w c a Z bs (ss ++ [((k.pos x : Int), (8 : Int), false)]) k Z' w' := by
  have hx : x < k.per := by have := ok.hd; omega
  have c0 := q.c0
  have c1 := q.c1
  have c2 := q.c2
  have c4 := q.c4
  have hp := ok.p1
  have hlt := wd_lt bs (k.pos x)
  obtain ⟨r1, r2⟩ := ok.reck g.le hx
  have r4 := wrapU (k.per : Int) (by omega) (by omega)
  rw [h0, show ((x + 1 : Nat) : Int) - 1 = x by omega] at c4
  have H0 := hid h0
  have HL : Hid (∀ w0, Fr (fun _ => False) w w0 → Calls Tryd.prog 71 #[.pointer (some ⟨a, 0, none⟩), .int .i64 (k.pos x)] w0 fun e w' => e = .returned (.tuple #[.int .u64 (wd bs (k.pos x)), .int .i64 0]) ∧ ∃ Z', Left 56 Rch w c a Z bs (ss ++ [((k.pos x : Int), (8 : Int), false)]) k Z' w') :=
    fun w0 f => (rm_load (g.kept f) (k.pos x) (ok.at hx) hk).mono fun e w' ⟨he, Z', h1, h2⟩ => ⟨he, Z', (Left.arena Rch.chain (Rch.chain.carry q f id) nz h1 h2).ahead f⟩
  have hw' : (k.per : Int) < wd bs (k.pos x) := by omega
  clear q g ok nz hk hx hp h0 hw
  generalize k.pos x = ps at *
  generalize wd bs ps = v at *
  generalize x * k.unit = m at *
  go_enter Tryd.func48, Tryd.ntmps48
  go_wp2_with fail
  go_region_held3 (fun w' => w'.cell? ⟨c, 0, none⟩ = some (.pointer (some ⟨a, 0, none⟩)) ∧ w'.cell? ⟨c, 1, none⟩ = some (.int .i64 k.base) ∧ w'.cell? ⟨c, 2, none⟩ = some (.int .i64 k.unit) ∧ w'.cell? ⟨c, 4, none⟩ = some (.int .i64 x)) (first | go_keep | exact ⟨by assumption, by assumption, by assumption, by assumption⟩) (first | (go_at_call 71; refine (HL.out _ (Fr.refl _ _).drew).mono ?_; rintro e w1 ⟨rfl, Z', hL⟩; have HA := hid hL; have d0 := hL.q.c0; have d1 := hL.q.c1; have d2 := hL.q.c2; have d3 := hL.q.c3; have d4 := hL.q.c4s H0.out; clear hL))
  clear HL c0 c1 c2 c4 H0
  go_wp2
  go_ret2
  exact ⟨by simp, Z', HA.out⟩
set_option maxRecDepth 20000 in
set_option maxHeartbeats 1000000 in
theorem r_pop_ok (q : Rch w c a k) (g : Am 56 a bs ss w Z) (ok : k.Ok bs.length) (nz : ¬ Z c) (hk : ss.length < 1000000) {x : Nat} (h0 : k.hd = x + 1) (hw : wd bs (k.pos x) ≤ k.per) : Calls Tryd.prog 48 #[.pointer (some ⟨c, 0, none⟩)] w fun e w' => e = .returned (.tuple #[.int .i64 x, .int .i64 0]) ∧ ∃ Z', Left 56 Rch w c a Z (over bs (k.pos x) (leb 0 8)) (ss ++ [((k.pos x : Int), (8 : Int), false)] ++ [((k.pos x : Int), (8 : Int), true)]) (k.to (wd bs (k.pos x))) Z' w' := by
  have hx : x < k.per := by have := ok.hd; omega
  have c0 := q.c0
  have c1 := q.c1
  have c2 := q.c2
  have c4 := q.c4
  have hp := ok.p1
  have hlt := wd_lt bs (k.pos x)
  obtain ⟨r1, r2⟩ := ok.reck g.le hx
  have r4 := wrapU (k.per : Int) (by omega) (by omega)
  rw [h0, show ((x + 1 : Nat) : Int) - 1 = x by omega] at c4
  have H0 := hid h0
  have HL : Hid (∀ w0, Fr (fun _ => False) w w0 → Calls Tryd.prog 71 #[.pointer (some ⟨a, 0, none⟩), .int .i64 (k.pos x)] w0 fun e w' => e = .returned (.tuple #[.int .u64 (wd bs (k.pos x)), .int .i64 0]) ∧ ∃ Z', Left 56 Rch w c a Z bs (ss ++ [((k.pos x : Int), (8 : Int), false)]) k Z' w') :=
    fun w0 f => (rm_load (g.kept f) (k.pos x) (ok.at hx) (by omega)).mono fun e w' ⟨he, Z', h1, h2⟩ => ⟨he, Z', (Left.arena Rch.chain (Rch.chain.carry q f id) nz h1 h2).ahead f⟩
  have HS : Hid (∀ w0 w2 Z1, Left 56 Rch w c a Z bs (ss ++ [((k.pos x : Int), (8 : Int), false)]) k Z1 w2 → Fr (fun _ => False) w2 w0 → Calls Tryd.prog 72 #[.pointer (some ⟨a, 0, none⟩), .int .i64 (k.pos x), .int .u64 0] w0 fun e w' => e = .returned (.int .i64 0) ∧ ∃ Z', Left 56 Rch w c a Z (over bs (k.pos x) (leb 0 8)) (ss ++ [((k.pos x : Int), (8 : Int), false)] ++ [((k.pos x : Int), (8 : Int), true)]) k Z' w') :=
    fun w0 w2 Z1 hL f => (rm_store (hL.am.kept f) (k.pos x) 0 (by omega) (ok.at hx) (by simp; omega)).mono fun e w' ⟨he, Z', h1, h2⟩ => ⟨he, Z', (hL.kept Rch.chain f).arena2 Rch.chain h1 h2⟩
  have hw' : (wd bs (k.pos x) : Int) ≤ k.per := by omega
  have r5 := wrapI (wd bs (k.pos x) : Int) (by omega) (by omega)
  have r6 := wrapI ((wd bs (k.pos x) : Int) - 1) (by omega) (by omega)
  clear q g ok nz hk hx hp h0 hw
  generalize k.pos x = ps at *
  generalize wd bs ps = v at *
  generalize x * k.unit = m at *
  go_enter Tryd.func48, Tryd.ntmps48
  go_wp2_with fail
  go_region_held3 (fun w' => w'.cell? ⟨c, 0, none⟩ = some (.pointer (some ⟨a, 0, none⟩)) ∧ w'.cell? ⟨c, 1, none⟩ = some (.int .i64 k.base) ∧ w'.cell? ⟨c, 2, none⟩ = some (.int .i64 k.unit) ∧ w'.cell? ⟨c, 4, none⟩ = some (.int .i64 x)) (first | go_keep | exact ⟨by assumption, by assumption, by assumption, by assumption⟩) (first | (go_at_call 71; refine (HL.out _ (Fr.refl _ _).drew).mono ?_; rintro e w1 ⟨rfl, Z', hL⟩; have HA := hid hL; have d0 := hL.q.c0; have d1 := hL.q.c1; have d2 := hL.q.c2; have d3 := hL.q.c3; have d4 := hL.q.c4s H0.out; clear hL))
  clear HL c0 c1 c2 c4
  go_wp2_with fail
  go_region_held3 (fun w' => w'.cell? ⟨c, 0, none⟩ = some (.pointer (some ⟨a, 0, none⟩)) ∧ w'.cell? ⟨c, 1, none⟩ = some (.int .i64 k.base) ∧ w'.cell? ⟨c, 2, none⟩ = some (.int .i64 k.unit) ∧ w'.cell? ⟨c, 4, none⟩ = some (.int .i64 x)) (first | go_keep | exact ⟨by assumption, by assumption, by assumption, by assumption⟩) (first | (go_at_call 72; refine (HS.out _ _ _ HA.out (Fr.refl _ _).drew).mono ?_; rintro e w3 ⟨rfl, Z3, hL⟩; have HB := hid hL; have e0 := hL.q.c0; have e1 := hL.q.c1; have e2 := hL.q.c2; have fz := hL.q.fz; have e4 := hL.q.c4s H0.out; clear hL))
  clear HS HA d0 d1 d2 d3 d4 H0
  go_wp2
  go_ret2
  exact ⟨by simp, Z3, HB.out.set (HB.out.q.head rfl)⟩
theorem r_pop (q : Rch w c a k) (g : Am 56 a bs ss w Z) (ok : k.Ok bs.length) (nz : ¬ Z c) (hk : ss.length < 1000000) : Calls Tryd.prog 48 #[.pointer (some ⟨c, 0, none⟩)] w fun e w' => e = .returned (.tuple #[.int .i64 (poV k bs), .int .i64 (poE k bs)]) ∧ ∃ Z', Left 56 Rch w c a Z (poB k bs) (poT k bs ss) (poS k bs) Z' w' := by
  unfold poV poE poB poT poS
  by_cases h0 : k.hd = 0
  · have hg : ¬ k.Good bs := fun h => h.1 h0
    rw [if_neg hg, if_pos h0, if_neg hg, if_pos h0, if_neg hg]
    exact (r_pop_none q h0).mono fun e w' ⟨he, f⟩ => ⟨he, Z, Left.same Rch.chain g q nz f⟩
  · obtain ⟨x, hx⟩ : ∃ x, k.hd = x + 1 := ⟨k.hd - 1, by omega⟩
    have ht : k.top = k.pos x := by unfold Ck.top; rw [hx]; rfl
    by_cases hw : wd bs k.top ≤ k.per
    · have hg : k.Good bs := ⟨h0, hw⟩
      rw [if_pos hg, if_neg h0, if_pos hw, if_pos hg, if_neg h0, if_pos hw, if_pos hg, hx, ht]
      exact r_pop_ok q g ok nz hk hx (ht ▸ hw)
    · have hg : ¬ k.Good bs := fun h => hw h.2
      rw [if_neg hg, if_neg h0, if_neg hw, if_neg hg, if_neg h0, if_neg hw, if_neg hg, ht]
      exact r_pop_form q g ok nz (by omega) hx (ht ▸ hw)
end
end Go.Proofs.YthndakhnhnipnaaDoor
