/-
  What the view's 'over' does: it goes from piece to piece, till one is refused.
  A thing that has come in, and all that was there beside it: as things side by side.
-/
import Derived.Test.YtcajdbklchjkkaaLists2
import Derived.Test.YtcajdbklchjkkaaTaPcs
namespace Go.Proofs.Ytcajdbklchjkkaa
open Go.RowKit

/-- Where the pieces from the k-th on lie. -/
def adv (ad : Option Addr) (k : Nat) : Option Addr := ad.map fun p => ⟨p.block, p.off + k * 3, p.spot⟩
theorem adv_zero (ad : Option Addr) : adv ad 0 = ad := by cases ad <;> simp [adv]
def lenV : Value → Nat
  | .slice _ n _ => n
  | _ => 0
/-- What a label at the scope's beginning asks. -/
theorem wp_scope_back {P : Program} {Q : Exit → Act → World → Prop} {a : Act} {w : World} {c rest : Code} (l : Nat) (J : Act → World → Prop) (μ : Act → World → Nat) (hf : findLabel c l = some (Code.skip.seq rest))
    (pre : ∀ R : Exit → Act → World → Prop, (∀ a w, J a w → rest.wp P R a w) → c.wp P R a w)
    (pass : ∀ a w, J a w → rest.wp P (Exit.jump l (fun a' w' => J a' w' ∧ μ a' w' < μ a w) Q) a w) : (Code.scope c).wp P Q a w :=
  wp_scope_jumps l J μ hf (pre _ fun a w h => Code.wp_mono (fun e a w he => by
    cases e with
    | goto l' => exact ⟨he.1, he.2.1⟩
    | _ => exact he) (pass a w h)) fun a w h => wp_seq (wp_skip (pass a w h))
set_option maxRecDepth 20000 in
set_option maxHeartbeats 1000000 in
theorem over_any {F : FuncId} {cv : Array Value} {ad : Option Addr} {cap : Nat} {L : List Sq} (I : Nat → World → Prop) (Q : Int → World → Prop) (hsp : ∀ k w, I k w → SpAt w ad L) (hcap : L.length ≤ cap) (hF : ∀ args w, (callFunc F args).run Try.prog w = .ok (.enter F args) w)
    (hst : ∀ k w (hk : k < L.length), I k w → Calls Try.prog F (#[.agg #[.int .i64 L[k].1, .int .i64 L[k].2.1, .bool L[k].2.2]] ++ cv) w fun e w' => ∃ j, e = .returned (.int .i64 j) ∧ (j = 0 → I (k + 1) w') ∧ (j ≠ 0 → Q j w')) {w : World} (h0 : I 0 w) :
    Calls Try.prog 38 #[.slice ad L.length cap, .func (.func F) #[] cv] w fun e w' => ∃ j, e = .returned (.int .i64 j) ∧ (j = 0 → I L.length w') ∧ (j ≠ 0 → Q j w') := by
  have H0 := hid h0
  have HS : Hid (∀ k w, I k w → SpAt w ad L) := hsp
  have HT := hid hst
  clear h0 hsp hst
  go_enter Try.func38, Try.ntmps38
  go_wp2
  refine wp_scope_back 0 (fun a' w' => ∃ (k c : Nat) (ax : Option Addr) (u2 u3 u4 u5 u6 u7 u8 u9 u10 u11 u12 u13 u14 u15 u16 u17 u18 : Value), Hid (I k w') ∧ k ≤ L.length ∧ (L.length ≤ k + c ∧ (k < L.length → ax = adv ad k)) ∧ a' = { tmps := #[.slice ax (L.length - k) c, .func (.func F) #[] cv, u2, u3, u4, u5, u6, u7, u8, u9, u10, u11, u12, u13, u14, u15, u16, u17, u18], defers := [] }) (fun a' _ => lenV (a'.tmps.getD 0 undef)) rfl ?pre ?pass
  case pre =>
    intro R hK
    go_wp2
    go_step3
    rename_i K hKK
    exact hKK _ _ (hK _ _ ⟨0, cap, ad, _, _, _, _, _, _, _, _, _, _, _, _, _, _, _, _, _, H0, Nat.zero_le _, ⟨by omega, fun _ => (adv_zero ad).symm⟩, rfl⟩)
  case pass =>
    rintro a' wr ⟨k, c, ax, u2, u3, u4, u5, u6, u7, u8, u9, u10, u11, u12, u13, u14, u15, u16, u17, u18, HI, hk, ⟨hc, hax⟩, rfl⟩
    clear H0
    by_cases hlt : k < L.length
    · obtain ⟨b, off, rfl, _, p1, p2, p3⟩ := HS.out k wr HI.out k hlt
      have H1 := hid (HT.out k wr hlt HI.out)
      obtain ⟨m, hm⟩ : ∃ m, L.length - k = m + 1 := ⟨L.length - k - 1, by omega⟩
      have HM := hid hm
      rw [hm]
      obtain rfl := hax hlt
      have HC : Hid (L.length ≤ k + c) := hc
      simp only [adv, Option.map_some]
      clear hm HI hax hc hcap
      generalize L[k] = s at *
      obtain ⟨s1, s2, s3⟩ := s
      simp only at p1 p2 p3
      go_wp2_with fail
      refine H1.out.mono ?_
      rintro e w2 ⟨j, rfl, h1, h2⟩
      clear H1 HT p1 p2 p3
      by_cases hj : j = 0
      · subst hj
        have HN := hid (h1 rfl)
        clear h1 h2
        have HE : Hid (L.length - (k + 1) = m ∧ off + (k + 1) * 3 = off + k * 3 + 3 ∧ k + 1 ≤ L.length) := ⟨by have := HM.out; omega, by omega, by omega⟩
        by_cases hc1 : c = 1
        · subst hc1
          go_wp2
          go_step3
          exact ⟨rfl, ⟨k + 1, 0, _, _, _, _, _, _, _, _, _, _, _, _, _, _, _, _, _, _, HN, HE.out.2.2, ⟨by have := HC.out; omega, fun h => by have := HC.out; omega⟩, by rw [HE.out.1]⟩, by simp [lenV]⟩
        · have hc2 : (c == 1) = false := by simp [hc1]
          go_wp2
          go_step3
          exact ⟨rfl, ⟨k + 1, c - 1, _, _, _, _, _, _, _, _, _, _, _, _, _, _, _, _, _, _, HN, HE.out.2.2, ⟨by have := HC.out; omega, fun _ => by rw [HE.out.2.1]⟩, by rw [HE.out.1]⟩, by simp [lenV]⟩
      · have HN := hid (h2 hj)
        have HJ := hid hj
        clear h1 h2
        go_wp2
        rw [jump_ret]
        go_ret
        exact ⟨j, by simp, fun e => (HJ.out e).elim, fun _ => HN.out⟩
    · obtain rfl : k = L.length := by omega
      rw [Nat.sub_self]
      go_wp2
      rw [jump_ret]
      go_ret
      exact ⟨0, by simp, fun _ => HI.out, fun e => (e rfl).elim⟩
end Go.Proofs.Ytcajdbklchjkkaa

namespace Go.Proofs.Ytcajdbklchjkkaa
open Go.RowKit

/-- The world with nothing in it. -/
def Bare (w : World) : World := { w with heap := #[] }
theorem Bare.nw (w : World) : Nw (Bare w) w := ⟨rfl, rfl, rfl, Nat.zero_le _, fun i hi => by simp [Bare] at hi⟩
/-- All that was in w but for Z, as it was. -/
def Old (w : World) (Z : Nat → Prop) (w' : World) (U : Nat → Prop) : Prop := w.heap.size ≤ w'.heap.size ∧ (∀ i, i < w.heap.size → ¬ Z i → U i ∧ w'.heap[i]? = w.heap[i]?) ∧ ∀ i, U i → i < w'.heap.size
theorem Old.good (w : World) (Z : Nat → Prop) : Good (Old w Z) :=
  ⟨fun ⟨h0, h1, h2⟩ f hs => ⟨Nat.le_trans h0 f.size, fun i hi hn => ⟨(h1 i hi hn).1, (f.block i (h2 i (h1 i hi hn).1) (hs i (h1 i hi hn).1)).trans (h1 i hi hn).2⟩, fun i hi => Nat.lt_of_lt_of_le (h2 i hi) f.size⟩,
   fun ⟨h0, h1, _⟩ k1 k2 => ⟨h0, fun i hi hn => ⟨k1 i (h1 i hi hn).1, (h1 i hi hn).2⟩, k2⟩⟩
theorem Things.begin {w : World} {P : World → (Nat → Prop) → Prop} {Z : Nat → Prop} (hP : Good P) (hp : P w Z) (hz : ∀ i, Z i → i < w.heap.size) : Things (Bare w) w [P, Old w Z] := by
  classical
  refine ⟨fun i => if Z i then 1 else if i < w.heap.size then 2 else 0, ⟨Bare.nw w, fun i hi => ⟨Nat.zero_le _, ?_⟩⟩, fun i => ?_, fun R hR => ?_, fun j R hj => ?_⟩
  · by_cases h1 : Z i
    · exact hz i h1
    · by_cases h2 : i < w.heap.size
      · exact h2
      · simp [h1, h2] at hi
  · show (if Z i then 1 else if i < w.heap.size then 2 else 0) ≤ 2
    split
    · omega
    · split <;> omega
  · simp only [List.mem_cons, List.not_mem_nil, or_false] at hR
    rcases hR with rfl | rfl
    · exact hP
    · exact Old.good w Z
  · rcases j with _ | _ | j
    · simp only [List.getElem?_cons_zero, Option.some.injEq] at hj
      subst hj
      refine hP.mono hp (fun i hi => by simp [lab, hi]) fun i hi => ?_
      by_cases h1 : Z i
      · exact hz i h1
      · exfalso
        simp only [lab, if_neg h1] at hi
        split at hi <;> omega
    · simp only [Nat.zero_add, List.getElem?_cons_succ, List.getElem?_cons_zero, Option.some.injEq] at hj
      subst hj
      refine ⟨Nat.le_refl _, fun i hi hn => ⟨by simp [lab, hi, hn], rfl⟩, fun i hi => ?_⟩
      by_cases h1 : Z i
      · exact hz i h1
      · by_cases h2 : i < w.heap.size
        · exact h2
        · simp [lab, h1, h2] at hi
    · simp at hj
theorem Things.finish {w w' : World} {P : World → (Nat → Prop) → Prop} {Z : Nat → Prop} {ts : List (World → (Nat → Prop) → Prop)} (h : Things (Bare w) w' (P :: Old w Z :: ts)) (hz : ∀ i, Z i → i < w.heap.size) : ∃ Z', P w' Z' ∧ Gw w w' Z Z' := by
  obtain ⟨o, h1, h2, h3, h4⟩ := h
  have hP := h4 0 P rfl
  obtain ⟨s1, s2, s3⟩ := h4 1 _ rfl
  have hg := h3 P (List.mem_cons_self ..)
  have hlt : ∀ i, (lab o 1 i ∨ Z i) → i < w'.heap.size := fun i hi => by
    rcases hi with hi | hi
    · exact h1.lt (j := 1) (by omega) i hi
    · exact Nat.lt_of_lt_of_le (hz i hi) s1
  refine ⟨fun i => lab o 1 i ∨ Z i, hg.mono hP (fun _ => .inl) hlt, ⟨fun _ => .inr, fun i hi => ?_, hlt, ⟨h1.nw.os, h1.nw.tape, h1.nw.output, s1, fun i hi hn => (s2 i hi hn).2⟩⟩⟩
  rcases hi with hi | hi
  · by_cases h5 : i < w.heap.size
    · by_cases h6 : Z i
      · exact .inl h6
      · have e2 := (s2 i h5 h6).1
        unfold lab at hi e2
        omega
    · exact .inr (by omega)
  · exact .inl hi
end Go.Proofs.Ytcajdbklchjkkaa
