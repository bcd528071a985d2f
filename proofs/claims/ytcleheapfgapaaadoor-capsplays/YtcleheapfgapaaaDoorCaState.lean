/-
  A table that the call itself has made. The document's own examples stand, so the laws are awake.
-/
import Derived.Test.YtcleheapfgapaaaDoorCaCalls
namespace Go.Proofs.YtcleheapfgapaaaDoor
open Go.RowKit

/-- New blocks may turn. -/
def Nw (w0 w : World) : Prop := 0 < w0.heap.size ∧ Fr (fun k => w0.heap.size ≤ k) w0 w
theorem Nw.start (w : World) (p : 0 < w.heap.size) : Nw w w := ⟨p, Fr.refl _ _⟩
theorem Nw.pos {w0 w : World} (h : Nw w0 w) : 0 < w0.heap.size := h.1
theorem Nw.on {S : Nat → Prop} {w0 w w' : World} (h : Nw w0 w) (f : Fr S w w') (hs : ∀ i, S i → w0.heap.size ≤ i) : Nw w0 w' := ⟨h.1, Fr.trans' h.2 f fun i _ e => hs i e⟩
theorem Nw.kept {w0 w w' : World} (h : Nw w0 w) (f : Fr (fun _ => False) w w') : Nw w0 w' := h.on f fun _ e => e.elim
theorem Nw.alloc {w0 w : World} (h : Nw w0 w) (o : Obj) : Nw w0 (w.alloc o) := ⟨h.1, Fr.alloc h.2 o⟩
theorem Nw.fr {w0 w : World} (h : Nw w0 w) : Fr (fun _ => False) w0 w := Fr.new h.2
theorem Nw.le {w0 w : World} (h : Nw w0 w) : w0.heap.size ≤ w.heap.size := h.2.size
/-- A table of the program's that was made behind W. -/
structure Kn (W w : World) (a : Nat) (Z : Nat → Prop) (c : Ct) : Prop where
  m : Km w a Z c
  z : ∀ i, Z i → W.heap.size ≤ i
  nw : Nw W w
section
variable {W w w' : World} {a : Nat} {Z Z' : Nat → Prop} {c c' : Ct}
theorem Kn.kept (h : Kn W w a Z c) (f : Fr (fun _ => False) w w') : Kn W w' a Z c := ⟨h.m.carry f (fun _ _ => id) id, h.z, h.nw.kept f⟩
theorem Kn.alloc (h : Kn W w a Z c) (o : Obj) : Kn W (w.alloc o) a Z c := h.kept ((Fr.refl _ _).alloc o)
theorem Kn.step (h : Kn W w a Z c) (k : Km w' a Z' c') (hz : ∀ i, Z' i → Z i ∨ w.heap.size ≤ i) (f : Fr Z w w') : Kn W w' a Z' c' := ⟨k, fun i hi => by
  rcases hz i hi with k | k
  · exact h.z i k
  · have := h.nw.le; omega, h.nw.on f h.z⟩
/-- Other new blocks turn. -/
theorem Kn.other {S : Nat → Prop} (h : Kn W w a Z c) (f : Fr S w w') (hs : ∀ i, S i → W.heap.size ≤ i ∧ ¬ Z i) : Kn W w' a Z c :=
  ⟨h.m.carry f (fun i hi e => (hs i e).2 hi) (fun e => by have := (hs 0 e).1; have := h.nw.pos; omega), h.z, h.nw.on f fun i e => (hs i e).1⟩
theorem n_new {t n : Int} (h : (0 ≤ t ∧ t ≤ 7) ∧ 1 ≤ n ∧ n ≤ 17592186044416) (nw : Nw W w) (g : Gr W) : Calls Tryd.prog 9 #[.int .i64 t, .int .i64 n] w fun e w' => ∃ a Z, e = .returned (.tuple #[.pointer (some ⟨a, 0, none⟩), .int .i64 0]) ∧ (∀ i, Z i → w.heap.size ≤ i) ∧ Kn W w' a Z (newC t n) ∧ Fr (fun _ => False) w w' :=
  (q_new h w (g.fr nw.fr)).mono fun _ _ ⟨a, Z, he, hz, hc, f⟩ => ⟨a, Z, he, hz, ⟨hc, fun i hi => Nat.le_trans nw.le (hz i hi), nw.kept f⟩, f⟩
theorem n_grant (h : Kn W w a Z c) (x : Int) : Calls Tryd.prog 13 #[.pointer (some ⟨a, 0, none⟩), .int .i64 x] w fun e w' => ∃ Z', e = .returned (.tuple #[.int .u64 (grV c x), .int .i64 (grE c x)]) ∧ Kn W w' a Z' (grS c x) ∧ (∀ i, Z' i → Z i ∨ w.heap.size ≤ i) ∧ Fr Z w w' :=
  (q_grant h.m x).mono fun _ _ ⟨Z', he, hc, hz, f⟩ => ⟨Z', he, h.step hc hz f, hz, f⟩
theorem n_find (h : Kn W w a Z c) {b : Int} (b0 : 0 ≤ b) (b1 : b ≤ 18446744073709551615) {q : Int} (hq : -9223372036854775808 ≤ q ∧ q ≤ 9223372036854775807) : Calls Tryd.prog 15 #[.pointer (some ⟨a, 0, none⟩), .int .u64 b, .int .i64 q] w fun e w' => e = .returned (.tuple #[.int .i64 (fiV c b q), .int .i64 (fiE c b q)]) ∧ Kn W w' a Z c ∧ Fr (fun _ => False) w w' :=
  (q_find h.m b0 b1 hq).mono fun _ _ ⟨he, f⟩ => ⟨he, h.kept f, f⟩
theorem n_restrict (h : Kn W w a Z c) {b : Int} (b0 : 0 ≤ b) (b1 : b ≤ 18446744073709551615) (q : Int) : Calls Tryd.prog 17 #[.pointer (some ⟨a, 0, none⟩), .int .u64 b, .int .i64 q] w fun e w' => ∃ Z', e = .returned (.tuple #[.int .u64 (reV c b q), .int .i64 (reE c b q)]) ∧ Kn W w' a Z' (reS c b q) ∧ (∀ i, Z' i → Z i ∨ w.heap.size ≤ i) ∧ Fr Z w w' :=
  (q_restrict h.m b0 b1 q).mono fun _ _ ⟨Z', he, hc, hz, f⟩ => ⟨Z', he, h.step hc hz f, hz, f⟩
theorem n_revoke (h : Kn W w a Z c) (x : Int) : Calls Tryd.prog 19 #[.pointer (some ⟨a, 0, none⟩), .int .i64 x] w fun e w' => ∃ Z', e = .returned (.int .i64 (rvN c x : Int)) ∧ Kn W w' a Z' (rvS c x) ∧ (∀ i, Z' i → Z i ∨ w.heap.size ≤ i) ∧ Fr Z w w' :=
  (q_revoke h.m x).mono fun _ _ ⟨Z', he, hc, hz, f⟩ => ⟨Z', he, h.step hc hz f, hz, f⟩
theorem n_serial (h : Kn W w a Z c) : Calls Tryd.prog 22 #[.pointer (some ⟨a, 0, none⟩)] w fun e w' => e = .returned (.int .i64 c.nx) ∧ Kn W w' a Z c ∧ Fr (fun _ => False) w w' :=
  (q_serial h.m).mono fun _ _ ⟨he, f⟩ => ⟨he, h.kept f, f⟩
theorem n_count (h : Kn W w a Z c) : Calls Tryd.prog 23 #[.pointer (some ⟨a, 0, none⟩)] w fun e w' => e = .returned (.int .i64 (c.L.length : Int)) ∧ Kn W w' a Z c ∧ Fr (fun _ => False) w w' :=
  (q_count h.m).mono fun _ _ ⟨he, f⟩ => ⟨he, h.kept f, f⟩
theorem n_copy (h : Kn W w a Z c) : Calls Tryd.prog 21 #[.pointer (some ⟨a, 0, none⟩)] w fun e w' => ∃ a' Z', e = .returned (.pointer (some ⟨a', 0, none⟩)) ∧ (∀ i, Z' i → w.heap.size ≤ i) ∧ Kn W w' a' Z' c ∧ Fr (fun _ => False) w w' :=
  (q_copy h.m).mono fun _ _ ⟨a', Z', he, hz, hc, f⟩ => ⟨a', Z', he, hz, ⟨hc, fun i hi => Nat.le_trans h.nw.le (hz i hi), h.nw.kept f⟩, f⟩
end
/-- The tables of the document's example. -/
def aw1 : Ct := ⟨2, 2, [⟨0, 7, 1, 512⟩]⟩
def aw2 : Ct := ⟨2, 3, [⟨0, 7, 1, 512⟩, ⟨4096, 1, 2, 512⟩]⟩
def aw3 : Ct := ⟨2, 3, []⟩
set_option maxRecDepth 20000 in
set_option maxHeartbeats 1000000 in
theorem awake_any {W w : World} (h : Nw W w) (g : Gr W) : Calls Tryd.prog 11 #[] w fun e w' => e = .returned (.bool true) ∧ Nw W w' := by
  have H0 : Hid (∀ w, Nw W w → Calls Tryd.prog 9 #[.int .i64 2, .int .i64 1] w fun e w' => ∃ a Z, e = .returned (.tuple #[.pointer (some ⟨a, 0, none⟩), .int .i64 0]) ∧ (∀ i, Z i → w.heap.size ≤ i) ∧ Kn W w' a Z (newC 2 1) ∧ Fr (fun _ => False) w w') := fun w h => n_new (t := 2) (n := 1) (by decide) h g
  have H1 : Hid (∀ w a Z, Kn W w a Z (newC 2 1) → Calls Tryd.prog 13 #[.pointer (some ⟨a, 0, none⟩), .int .i64 512] w fun e w' => ∃ Z', e = .returned (.tuple #[.int .u64 1048690, .int .i64 0]) ∧ Kn W w' a Z' aw1 ∧ (∀ i, Z' i → Z i ∨ w.heap.size ≤ i) ∧ Fr Z w w') := fun w a Z h => n_grant h 512
  have H2 : Hid (∀ w a Z, Kn W w a Z aw1 → Calls Tryd.prog 17 #[.pointer (some ⟨a, 0, none⟩), .int .u64 1048690, .int .i64 1] w fun e w' => ∃ Z', e = .returned (.tuple #[.int .u64 2621458, .int .i64 0]) ∧ Kn W w' a Z' aw2 ∧ (∀ i, Z' i → Z i ∨ w.heap.size ≤ i) ∧ Fr Z w w') := fun w a Z h => n_restrict h (by decide) (by decide) 1
  have H3 : Hid (∀ w a Z, Kn W w a Z aw2 → Calls Tryd.prog 15 #[.pointer (some ⟨a, 0, none⟩), .int .u64 2621458, .int .i64 1] w fun e w' => e = .returned (.tuple #[.int .i64 512, .int .i64 0]) ∧ Kn W w' a Z aw2 ∧ Fr (fun _ => False) w w') := fun w a Z h => n_find h (by decide) (by decide) (q := 1) (by decide)
  have H4 : Hid (∀ w a Z, Kn W w a Z aw2 → Calls Tryd.prog 15 #[.pointer (some ⟨a, 0, none⟩), .int .u64 2621458, .int .i64 2] w fun e w' => e = .returned (.tuple #[.int .i64 0, .int .i64 5]) ∧ Kn W w' a Z aw2 ∧ Fr (fun _ => False) w w') := fun w a Z h => n_find h (by decide) (by decide) (q := 2) (by decide)
  have H5 : Hid (∀ w a Z, Kn W w a Z aw2 → Calls Tryd.prog 19 #[.pointer (some ⟨a, 0, none⟩), .int .i64 512] w fun e w' => ∃ Z', e = .returned (.int .i64 2) ∧ Kn W w' a Z' aw3 ∧ (∀ i, Z' i → Z i ∨ w.heap.size ≤ i) ∧ Fr Z w w') := fun w a Z h => n_revoke h 512
  have H6 : Hid (∀ w a Z, Kn W w a Z aw3 → Calls Tryd.prog 15 #[.pointer (some ⟨a, 0, none⟩), .int .u64 1048690, .int .i64 0] w fun e w' => e = .returned (.tuple #[.int .i64 0, .int .i64 5]) ∧ Kn W w' a Z aw3 ∧ Fr (fun _ => False) w w') := fun w a Z h => n_find h (by decide) (by decide) (q := 0) (by decide)
  have H7 : Hid (∀ w, Calls Tryd.prog 24 #[.int .u64 2621458] w fun e w' => e = .returned (.tuple #[.agg #[.int .i64 2, .int .i64 4096, .int .i64 1, .int .i64 2], .int .i64 0]) ∧ Fr (fun _ => False) w w') := fun w => e_unpack (h := 2621458) (by decide) (by decide) w
  have H8 : Hid (∀ w a Z, Kn W w a Z aw3 → Calls Tryd.prog 22 #[.pointer (some ⟨a, 0, none⟩)] w fun e w' => e = .returned (.int .i64 3) ∧ Kn W w' a Z aw3 ∧ Fr (fun _ => False) w w') := fun w a Z h => n_serial h
  have H9 : Hid (∀ w a Z, Kn W w a Z aw3 → Calls Tryd.prog 23 #[.pointer (some ⟨a, 0, none⟩)] w fun e w' => e = .returned (.int .i64 0) ∧ Kn W w' a Z aw3 ∧ Fr (fun _ => False) w w') := fun w a Z h => n_count h
  have HN := hid h
  clear h
  go_enter Tryd.func11, Tryd.ntmps11
  go_wp2_with fail
  refine (H0.out _ HN.out).mono ?_
  rintro e w0 ⟨a, Z0, rfl, _, h0, _⟩
  have K0 := hid h0
  clear h0 HN H0
  go_wp2_with fail
  refine (H1.out _ _ _ K0.out).mono ?_
  rintro e w1 ⟨Z1, rfl, h1, _, _⟩
  have K1 := hid h1
  clear h1 K0 H1
  go_wp2_with fail
  refine (H2.out _ _ _ K1.out).mono ?_
  rintro e w2 ⟨Z2, rfl, h2, _, _⟩
  have K2 := hid h2
  clear h2 K1 H2
  go_wp2_with fail
  refine (H3.out _ _ _ K2.out).mono ?_
  rintro e w3 ⟨rfl, h3, _⟩
  have K3 := hid h3
  clear h3 K2 H3
  go_wp2_with fail
  refine (H4.out _ _ _ K3.out).mono ?_
  rintro e w4 ⟨rfl, h4, _⟩
  have K4 := hid h4
  clear h4 K3 H4
  go_wp2_with fail
  refine (H5.out _ _ _ K4.out).mono ?_
  rintro e w5 ⟨Z5, rfl, h5, _, _⟩
  have K5 := hid h5
  clear h5 K4 H5
  go_wp2_with fail
  refine (H6.out _ _ _ K5.out).mono ?_
  rintro e w6 ⟨rfl, h6, _⟩
  have K6 := hid h6
  clear h6 K5 H6
  go_wp2_with fail
  refine (H7.out _).mono ?_
  rintro e w7 ⟨rfl, f7⟩
  have K7 := hid ((K6.out.kept f7).alloc (.cells #[.int .i64 2, .int .i64 4096, .int .i64 1, .int .i64 2] 53))
  have HB := Kb.new w7 2 4096 1 2
  have b0 := HB.c0
  have b1 := HB.c1
  have b2 := HB.c2
  have b3 := HB.c3
  clear f7 K6 H7 HB
  go_wp2_with fail
  refine (H8.out _ _ _ K7.out).mono ?_
  rintro e w8 ⟨rfl, h8, _⟩
  have K8 := hid h8
  clear h8 K7 H8 b0 b1 b2 b3
  go_wp2_with fail
  refine (H9.out _ _ _ K8.out).mono ?_
  rintro e w9 ⟨rfl, h9, _⟩
  have K9 := hid h9
  clear h9 K8 H9
  go_wp2
  go_ret
  exact ⟨by simp, K9.out.nw⟩
theorem awake_f (w : World) (g : Gr w) : Calls Tryd.prog 11 #[] w fun e w' => e = .returned (.bool true) ∧ Fr (fun _ => False) w w' := (awake_any (Nw.start w g.pos) g).mono fun _ _ ⟨h, n⟩ => ⟨h, n.fr⟩
end Go.Proofs.YtcleheapfgapaaaDoor
