/-
  For every size and every list of calls the law ArenaPlays answers true: in every order of calls, at whatever places, an arena answers as the document says, has its bytes, and has noted just its touches. No condition.
-/
import Derived.Test.YtlikfcdlgkbnoaaPlaysLaw
import Derived.Test.YtlikfcdlgkbnoaaOpen
import Derived.ProofKit
import Derived.OpenShut
import Derived.Deep.Slices
namespace Go.Proofs.Ytlikfcdlgkbnoaa
open Go.ChangeShapes Go.WideShapes Go.ChangeAt Go.RowKit

theorem list_of {α : Type} {P : Nat → α → Prop} : ∀ n : Nat, (∀ i, i < n → ∃ o, P i o) → ∃ l : List α, l.length = n ∧ ∀ i (hi : i < l.length), P i l[i]
  | 0, _ => ⟨[], rfl, fun i hi => by simp at hi⟩
  | n + 1, h => by
    obtain ⟨l, hl, hp⟩ := list_of n (fun i hi => h i (by omega))
    obtain ⟨o, ho⟩ := h n (by omega)
    refine ⟨l ++ [o], by simp [hl], fun i hi => ?_⟩
    by_cases hlt : i < l.length
    · rw [List.getElem_append_left hlt]; exact hp i hlt
    · have e : i = l.length := by simp at hi; omega
      subst e
      rw [List.getElem_append_right (Nat.le_refl _)]
      simp only [Nat.sub_self, List.getElem_cons_zero, hl]
      exact ho

theorem open_script {H : Type} {enc : TypeId × Value → H} {w : World} {base : Nat} {spare : Nat → Bool} {held : Bool} {v : Value} {d : DataW H} {p : List MemPlace} {r : Reach} {b0 : Nat}
    (hv : Value.okWide Try.prog w r b0 22 v) (h : DataW.Trod enc Try.prog w base spare held 22 v d p) :
    (∃ ad cap, v = .slice ad 0 cap) ∨ ∃ b off cap ops, v = .slice (some ⟨b, off, none⟩) (List.length ops) cap ∧ OpsAt w b off ops ∧ b < w.heap.size ∧ (∀ i (hi : i < ops.length), (ops[i]).ok) ∧ ops.length ≤ maxLen ∧ 0 < ops.length := by
  obtain ⟨a0, len0, cap0, rfl⟩ := okWide_slice Try.underlying22 hv
  obtain ⟨fuel, hf⟩ := h
  rcases Go.Deep.open_slice Try.underlying22 hf with ⟨hc, _⟩ | ⟨a, len, cap, m, n, D, Pl, hc, _, hl, hm, hmm, _, hx⟩
  · left
    simp [Value.cells] at hc
    exact ⟨a0, cap0, by rw [hc.2.1]⟩
  · simp [Value.cells] at hc
    obtain ⟨rfl, rfl, rfl⟩ := hc
    have hle : len0 ≤ m := by rw [hmm]; split <;> omega
    rw [Try.cellsOp] at hx
    by_cases h0 : len0 = 0
    · left; exact ⟨_, _, by rw [h0]⟩
    right
    obtain ⟨b, off, spot⟩ := a
    have key : ∀ i, i < len0 → ∃ o : OpV, (∀ j, j < 6 → w.cell? (((⟨b, off, spot⟩ : Addr).add (i * 6)).add j) = (opc o)[j]?) ∧ o.ok := by
      intro i hi
      obtain ⟨cs, h1, h2⟩ := hx i (by omega)
      obtain ⟨_, _, hcell⟩ := World.cells?_some h1
      obtain ⟨o, rfl, hok⟩ := open_op h2
      exact ⟨o, fun j hj => hcell j hj, hok⟩
    have hsp : spot = none := by
      obtain ⟨o, ho, _⟩ := key 0 (by omega)
      have := ho 0 (by omega)
      simp only [opc, List.getElem?_cons_zero] at this
      have h3 := World.cell?_spot this
      simpa [Addr.add] using h3
    subst hsp
    obtain ⟨ops, hlen, hops⟩ := list_of len0 key
    have hadd : ∀ f j, (⟨b, f, none⟩ : Addr).add j = ⟨b, f + j, none⟩ := fun f j => by unfold Addr.add; split <;> simp_all
    have hat : OpsAt w b off ops := by
      intro i hi
      obtain ⟨ho, _⟩ := hops i hi
      have c0 := ho 0 (by omega)
      have c1 := ho 1 (by omega)
      have c2 := ho 2 (by omega)
      have c3 := ho 3 (by omega)
      have c4 := ho 4 (by omega)
      have c5 := ho 5 (by omega)
      rw [hadd, hadd] at c0 c1 c2 c3 c4 c5
      exact ⟨c0, c1, c2, c3, c4, c5⟩
    refine ⟨b, off, cap0, ops, by rw [hlen], hat, ?_, fun i hi => (hops i hi).2, by rw [hlen]; omega, by omega⟩
    have := (hat 0 (by omega)).1
    exact World.block_lt_of_cell? w _ this

theorem arenaPlays_own : ownKnob Try.prog.godebug = none := by kernel_rfl
theorem arenaPlays_laidOut : laidOutB Try.prog = true := by kernel_rfl

set_option maxRecDepth 100000 in
theorem arenaPlays_lifted (os : Os) (started : os.Started) (H : Type) (enc : TypeId × Value → H) :
    ReturnsInHanded {} Try.checked os 3 .any (Rows.arenaPlaysSpec.pre6 enc Try.prog Try.f3 Rows.arenaPlaysRow.domain false) (Rows.arenaPlaysSpec.post enc Try.prog Try.f3 false true false false) := by
  refine returnsInHanded_of_change (C := Try.checked) arenaPlays_own started (by kernel_rfl) Try.func3
    (ChangeSpec.witness6 (enc := enc) (C := Try.checked) false ⟨#[], #[.int .i64 0, .slice none 0 0], []⟩ 8 (by kernel_rfl) (by kernel_rfl) (by kernel_rfl) (by kernel_rfl)) ?_
  intro W base args ds gs before hval0 hW _ _
  have hval : ∀ (j : Nat) t v, Try.f3.params[j]? = some t → args[j]? = some v → Value.okWide Try.prog W .any base t v := hval0
  have hW' := hW
  obtain ⟨p, q, hA0, hV, rfl, _, _⟩ := hW
  have hA : DataW.TrodAll enc Try.prog W 0 (fun _ => true) true Try.f3.params.toList args.toList ds p := hA0
  rw [Try.params3] at hA hval
  obtain ⟨v0, vs0, d0, ds0, p0, q0, hargs, rfl, rfl, h0, r0⟩ := trodAll_cons hA
  obtain ⟨v1, vs1, d1, ds1, p1, q1, rfl, rfl, rfl, h1, r1⟩ := trodAll_cons r0
  obtain ⟨rfl, rfl, rfl⟩ := trodAll_nil r1
  obtain rfl : args = #[v0, v1] := by cases args; simp_all
  obtain ⟨rfl, rfl⟩ := trodVars_none hV
  obtain ⟨a0, rfl, rfl, rfl, w0⟩ := open_int Try.underlying3 (hval 0 3 v0 rfl rfl) h0
  have hs := open_script (hval 1 22 v1 rfl rfl) h1
  have k1 := h1
  clear hA0 hval0
  simp only [List.append_nil] at hW'
  have lt1 : ∀ x ∈ p1, x.block < W.heap.size := fun x hx => hW'.lt x (by simpa using hx)
  refine (plays_any a0 v1 W hs).mono fun e W' ⟨he, hg⟩ => ?_
  subst he
  have bel : Below W.heap.size W W' := hg.below (Nat.le_refl _) (fun _ _ h => h)
  exact ⟨_, rfl, _, _, _, [], _, [], hW', trodAll_mk1 (shut_bool Try.underlying4 _), (trodAll_cons_mk (shut_int Try.underlying3 w0) (trodAll_cons_mk (Below.trod arenaPlays_laidOut (by kernel_rfl) (of_decide_eq_true (by kernel_rfl)) k1 bel lt1) trodAll_mk0)), rfl, bel.frame _, fun h => by cases h⟩

theorem arenaPlays_holds : Rows.ArenaPlaysSaid :=
  OpenClaim.holds_of_wide 3 Try.f3 rfl rfl rfl rfl rfl rfl rfl ⟨rfl, rfl, rfl, rfl, rfl⟩ rfl rfl rfl rfl rfl (by kernel_rfl) Try.func3 (by kernel_rfl)
    (of_decide_eq_true (by kernel_rfl)) (by unfold Func.isWrapper; first | (rw [if_pos (by decide +kernel)]; kernel_rfl) | (rw [if_neg (by decide +kernel)]; exact ⟨rfl, rfl⟩))
    (fun os started H enc _ => arenaPlays_lifted os started H enc)
#print axioms arenaPlays_holds
end Go.Proofs.Ytlikfcdlgkbnoaa
