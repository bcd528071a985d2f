/-
  The program's line among things side by side.
-/
import Derived.Test.YtecckdedijhacaaLiCalls
namespace Go.Proofs.Ytecckdedijhacaa
open Go.RowKit

section
variable {W w : World} {ts : List (World → (Nat → Prop) → Prop)} {p : Nat} {L : List Int}
theorem l_new (h : Things W w ts) : Calls Try.prog 8 #[] w fun e w' => ∃ p, e = .returned (.pointer (some ⟨p, 0, none⟩)) ∧ Things W w' (ts ++ [Lm p []]) :=
  (n_new w).mono fun _ _ ⟨p, _, he, h1, f, hz⟩ => ⟨p, he, h.more (Lm.good _ _) h1 f hz⟩
theorem l_push (h : Things W w ts) (j : Nat) (hj : ts[j]? = some (Lm p L)) (ok : LiOk L) (hl : L.length ≤ 5000) {k : Int} (hk : I64 k) : Calls Try.prog 9 #[.pointer (some ⟨p, 0, none⟩), .int .i64 k] w fun e w' => e = .returned (.int .i64 (liPE L k)) ∧ Things W w' (ts.set j (Lm p (liP L k))) :=
  h.lift j hj (Lm.good _ _) fun _ h1 => n_push h1 ok hl hk
theorem l_remove (h : Things W w ts) (j : Nat) (hj : ts[j]? = some (Lm p L)) (ok : LiOk L) (hl : L.length ≤ 5000) {k : Int} (hk : I64 k) : Calls Try.prog 11 #[.pointer (some ⟨p, 0, none⟩), .int .i64 k] w fun e w' => e = .returned (.int .i64 (liRE L k)) ∧ Things W w' (ts.set j (Lm p (liR L k))) :=
  h.lift j hj (Lm.good _ _) fun _ h1 => n_remove h1 ok hl hk
theorem l_front (h : Things W w ts) (j : Nat) (hj : ts[j]? = some (Lm p L)) (ok : LiOk L) : Calls Try.prog 14 #[.pointer (some ⟨p, 0, none⟩)] w fun e w' => e = .returned (.int .i64 (liF L)) ∧ Things W w' ts := h.ask j hj fun _ h1 => n_front h1 ok
theorem l_has (h : Things W w ts) (j : Nat) (hj : ts[j]? = some (Lm p L)) (ok : LiOk L) (hl : L.length ≤ 5000) {k : Int} (hk : I64 k) : Calls Try.prog 16 #[.pointer (some ⟨p, 0, none⟩), .int .i64 k] w fun e w' => e = .returned (.bool (decide (k ∈ L))) ∧ Things W w' ts := h.ask j hj fun _ h1 => n_has h1 ok hl hk
theorem l_len (h : Things W w ts) (j : Nat) (hj : ts[j]? = some (Lm p L)) (ok : LiOk L) (hl : L.length ≤ 5000) : Calls Try.prog 20 #[.pointer (some ⟨p, 0, none⟩)] w fun e w' => e = .returned (.int .i64 L.length) ∧ Things W w' ts := h.ask j hj fun _ h1 => n_len h1 ok hl
theorem l_all (h : Things W w ts) (j : Nat) (hj : ts[j]? = some (Lm p L)) (ok : LiOk L) (hl : L.length ≤ 5000) : Calls Try.prog 19 #[.pointer (some ⟨p, 0, none⟩)] w fun e w' => ∃ ad cap, e = .returned (.slice ad L.length cap) ∧ Things W w' (ts ++ [Lv ad L]) := by
  obtain ⟨U, h1, _⟩ := h.get j hj
  refine (n_all h1 ok hl).mono fun e w' ⟨ad, cap, he, hn, hb, f⟩ => ⟨ad, cap, he, h.more (Lv.good _ _) (Lv.new hn) f fun i ⟨⟨off, e⟩, h0⟩ => ⟨hb i off e, ?_⟩⟩
  obtain ⟨b, off', e1, e2, _⟩ := hn 0 h0
  rw [e] at e1
  simp only [Option.some.injEq, Addr.mk.injEq] at e1
  omega
theorem l_copy (h : Things W w ts) (j : Nat) (hj : ts[j]? = some (Lm p L)) (ok : LiOk L) (hl : L.length ≤ 5000) : Calls Try.prog 13 #[.pointer (some ⟨p, 0, none⟩)] w fun e w' => ∃ p', e = .returned (.pointer (some ⟨p', 0, none⟩)) ∧ Things W w' (ts ++ [Lm p' L]) := by
  obtain ⟨U, h1, _⟩ := h.get j hj
  exact (n_copy h1 ok hl).mono fun _ _ ⟨p', _, he, h1, f, hz⟩ => ⟨p', he, h.more (Lm.good _ _) h1 f hz⟩
end
end Go.Proofs.Ytecckdedijhacaa
