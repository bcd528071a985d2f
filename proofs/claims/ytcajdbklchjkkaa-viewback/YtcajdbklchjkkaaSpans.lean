/-
  Spans that lie where a slice says; two lists of spans that are alike.
-/
import Derived.Test.YtcajdbklchjkkaaObjs1
import Derived.LoopTactic
import Derived.RegionTactic
import Derived.ChangeAlike
namespace Go.Proofs.Ytcajdbklchjkkaa
open Go.RowKit

/-- Spans where a slice says: three cells each. -/
def SpAt (w : World) (ad : Option Addr) (ss : List (Int × Int × Bool)) : Prop := ∀ i (h : i < ss.length), ∃ b off, ad = some ⟨b, off, none⟩ ∧ b < w.heap.size ∧ w.cell? ⟨b, off + i * 3, none⟩ = some (.int .i64 (ss[i]).1) ∧ w.cell? ⟨b, off + i * 3 + 1, none⟩ = some (.int .i64 (ss[i]).2.1) ∧ w.cell? ⟨b, off + i * 3 + 2, none⟩ = some (.bool (ss[i]).2.2)
theorem SpAt.carry {S : Nat → Prop} {w w' : World} {ad : Option Addr} {ss : List (Int × Int × Bool)} (h : SpAt w ad ss) (f : Fr S w w') (hs : ∀ b off, ad = some ⟨b, off, none⟩ → 0 < ss.length → ¬ S b) : SpAt w' ad ss := fun i hi => by
  obtain ⟨b, off, e, hb, h1, h2, h3⟩ := h i hi
  have hf := f.block b hb (hs b off e (by omega))
  exact ⟨b, off, e, by have := f.size; omega, (World.cell?_of_block hf).trans h1, (World.cell?_of_block hf).trans h2, (World.cell?_of_block hf).trans h3⟩
theorem SpAt.fr {w w' : World} {ad : Option Addr} {ss : List (Int × Int × Bool)} (h : SpAt w ad ss) (f : Fr (fun _ => False) w w') : SpAt w' ad ss := h.carry f fun _ _ _ _ => id
theorem SpAt.nil (w : World) (ad : Option Addr) : SpAt w ad [] := fun i h => by simp at h
/-- As a thing. -/
def Sv (ad : Option Addr) (ss : List (Int × Int × Bool)) (w : World) (Z : Nat → Prop) : Prop := SpAt w ad ss ∧ (∀ b off, ad = some ⟨b, off, none⟩ → 0 < ss.length → Z b) ∧ ∀ i, Z i → i < w.heap.size
theorem Sv.good (ad : Option Addr) (ss : List (Int × Int × Bool)) : Good (Sv ad ss) :=
  ⟨fun h f hs => ⟨h.1.carry f fun b off e h0 => hs b (h.2.1 b off e h0), h.2.1, fun i hi => Nat.lt_of_lt_of_le (h.2.2 i hi) f.size⟩, fun h h1 h2 => ⟨h.1, fun b off e h0 => h1 b (h.2.1 b off e h0), h2⟩⟩
theorem Sv.new {w : World} {ad : Option Addr} {ss : List (Int × Int × Bool)} (h : SpAt w ad ss) : Sv ad ss w (fun b => (∃ off, ad = some ⟨b, off, none⟩) ∧ 0 < ss.length) :=
  ⟨h, fun b off e h0 => ⟨⟨off, e⟩, h0⟩, fun i ⟨⟨off, e⟩, h0⟩ => by
    obtain ⟨b, off', e1, e2, _⟩ := h 0 h0
    rw [e] at e1
    simp only [Option.some.injEq, Addr.mk.injEq] at e1
    omega⟩
theorem Things.sps {W w : World} {ts : List (World → (Nat → Prop) → Prop)} (h : Things W w ts) (j : Nat) {ad : Option Addr} {ss : List (Int × Int × Bool)} (hj : ts[j]? = some (Sv ad ss)) : SpAt w ad ss := by
  obtain ⟨U, h1, _⟩ := h.get j hj
  exact h1.1
/-- Spans that have come in new blocks. -/
theorem Things.moreSpans {W w w' : World} {ts : List (World → (Nat → Prop) → Prop)} (h : Things W w ts) {ad : Option Addr} {ss : List (Int × Int × Bool)} (hs : SpAt w' ad ss) (hb : ∀ b off, ad = some ⟨b, off, none⟩ → 0 < ss.length → w.heap.size ≤ b) (f : Fr (fun _ => False) w w') : Things W w' (ts ++ [Sv ad ss]) :=
  h.more (Sv.good _ _) (Sv.new hs) f fun i ⟨⟨off, e⟩, h0⟩ => ⟨hb i off e h0, (Sv.new hs).2.2 i ⟨⟨off, e⟩, h0⟩⟩
set_option maxRecDepth 20000 in
set_option maxHeartbeats 1000000 in
theorem spans_same {w : World} {a1 a2 : Option Addr} {c1 c2 : Nat} {ss : List (Int × Int × Bool)} (h1 : SpAt w a1 ss) (h2 : SpAt w a2 ss) (hk : ss.length ≤ 1000002) :
    Calls Try.prog 16 #[.slice a1 ss.length c1, .slice a2 ss.length c2] w fun e w' => e = .returned (.bool true) ∧ Fr (fun _ => False) w w' := by
  have H1 := hid h1
  have H2 := hid h2
  clear h1 h2
  go_enter Try.func16, Try.ntmps16
  go_wp2
  go_loopw [5] (fun i wr => ∃ j : Nat, j ≤ ss.length ∧ i = .int .i64 j ∧ Hid (Fr (fun _ => False) w wr)) (fun i _ => ss.length - (intOf i).toNat)
  case atStart => exact ⟨0, by omega, rfl, Fr.refl _ _⟩
  case round =>
    obtain ⟨j, hj, rfl, HF⟩ := hrel
    by_cases hlt : j < ss.length
    · obtain ⟨b1, o1, rfl, _, p1, p2, p3⟩ := H1.out.fr HF.out j hlt
      obtain ⟨b2, o2, rfl, _, q1, q2, q3⟩ := H2.out.fr HF.out j hlt
      obtain ⟨s1, s2, s3⟩ := ss[j]
      clear H1 H2
      go_wp2
      go_region
      go_wp2
      go_roundw
      case rel => exact ⟨j + 1, by omega, by go_num, HF.out.drew⟩
      case measure => simp [intOf]; omega
    · obtain rfl : ss.length = j := by omega
      go_wp2
      go_ret
      exact ⟨by simp, HF.out⟩
end Go.Proofs.Ytcajdbklchjkkaa
