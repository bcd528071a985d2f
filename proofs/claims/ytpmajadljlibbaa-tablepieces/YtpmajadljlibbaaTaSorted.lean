/-
  What All of package table does: slices.Sorted(maps.Keys(m)), by the library's contracts.
-/
import Derived.Test.YtpmajadljlibbaaTaCallsA
import Derived.Test.YtpmajadljlibbaaLayIter
import Derived.Test.YtpmajadljlibbaaLists
namespace Go.Proofs.Ytpmajadljlibbaa
open Go.RowKit Go.Maps Go.Sort Go.Shelf

theorem sortsA (m : Nat) : AnyZI.SortsIn Try.prog Try.sortedA_ren Fence.wide m :=
  ⟨fun blk off cap ss W hH hblk hsz => callsIn_wide.2 (AnyM.slices_Sort_int Try.sortA blk off cap ss W hH hblk hsz),
   fun p cap W => callsIn_wide.2 (AnyM.slices_Sort_int_none Try.sortA p cap W)⟩
theorem keysIn (mb : Option Nat) (W : World) : CallsIn Fence.wide 5 Try.prog 38 #[.map mb] W fun e w' => e = .returned (.func (.func 44) #[] #[.pointer (some ⟨W.heap.size, 0, none⟩)]) ∧ w' = W.alloc (.cells #[.map mb] 52) := AnyZI.keys_in Try.keysA Fence.wide 5 trivial rfl mb W
section
variable {w : World} {t : Nat} {T : Tb} {m1 m2 : Option Nat}
/-- The keys that a table reads as. -/
theorem keys_of {B n : Nat} (ok : TbOk T) {D : DataW Unit} (h1 : w.ownsMap Try.prog 3 (plainElem Try.prog 3) B n D) (h2 : Di D (fF T) T.length) : (T.map Prod.fst).Perm (intKeys D) := by
  have hc : CollectedI D (fun _ => false) (T.map Prod.fst) := by
    refine ⟨List.pairwise_map.2 (ok.up.imp fun {x y} h => by omega), fun x => ?_⟩
    rw [h2.1 x]
    constructor
    · intro h
      obtain ⟨y, hy, rfl⟩ := List.mem_map.1 h
      have := (fF_iff ok (v := y.1) (p := y.2)).2 hy
      simp [this]
    · rintro ⟨h, _⟩
      obtain ⟨p, hp⟩ := Option.isSome_iff_exists.1 h
      exact List.mem_map.2 ⟨_, (fF_iff ok).1 hp, rfl⟩
  exact hc.perm h1 intLaw Try.underlying3 fun _ => rfl
set_option maxRecDepth 20000 in
set_option maxHeartbeats 2000000 in
theorem u_all (c : Tw w t m1 m2) (o : Og w m1 (fF T) T.length) (ok : TbOk T) : Calls Try.prog 25 #[.pointer (some ⟨t, 0, none⟩)] w fun e w' => ∃ ad cap, e = .returned (.slice ad (T.map Prod.fst).length cap) ∧ NumsAt w' ad (T.map Prod.fst) ∧ (∀ b off, ad = some ⟨b, off, none⟩ → 0 < (T.map Prod.fst).length → w.heap.size ≤ b) ∧ Fr (fun _ => False) w w' := by
  have c0 := c.c0
  have hlen := Tb.few ok
  refine (callsIn_wide (n := 6)).1 ?_
  have hfK : Fence.wide.fn 38 := trivial
  have hfS : Fence.wide.fn 37 := trivial
  rcases o with ⟨rfl, e1, e2⟩ | ⟨B, rfl, D, hown, hD⟩
  · have eT : T = [] := List.eq_nil_of_length_eq_zero e2
    subst eT
    have hseq : SeqGives Fence.wide 2 Try.prog 44 #[.pointer (some ⟨w.heap.size, 0, none⟩)] encZ (fun ss : List Int => ss = []) 0 (w.alloc (.cells #[.map none] 52)) :=
      AnyZI.keys_gives_nil (ρ := Try.keysA_ren) { Try.keysA with } Fence.wide _ trivial rfl w.heap.size _ (by simp) (by simp)
    have cS := AnyZI.sorted_in Try.sortedA Fence.wide 5 trivial trivial trivial trivial rfl (by omega) (sortsA _) (enters_of Try.func43 (by kernel_rfl) rfl) 44 #[.pointer (some ⟨w.heap.size, 0, none⟩)] trivial (enters_of Try.func44 (by kernel_rfl) rfl) _ 0 (Nat.zero_le _) (by omega) _ hseq
    change CallsIn _ _ Try.prog 37 _ _ _ at cS
    have HS := hid cS
    clear cS hseq c ok hlen e1 e2
    refine callsIn_of_wp Try.func25 rfl trivial ?_ rfl
    simp only [Try.ntmps25, List.size_toArray, List.length_cons, List.length_nil, Nat.reduceAdd, Nat.reduceSub, Array.replicate_succ, Array.replicate_zero, List.push_toArray, List.append_toArray, List.nil_append, List.cons_append]
    gi_wp2_with (first
      | (gi_at_call 38; refine (keysIn _ _).mono ?_; rintro e w' ⟨rfl, rfl⟩)
      | (gi_at_call 37; refine HS.out.mono ?_; rintro e w' ⟨v, ss, rfl, rfl, hrow, hnil, hb⟩; obtain rfl : v = .slice none 0 0 := hnil.2 rfl))
    go_ret
    exact ⟨none, 0, by simp, fun i hi => by simp at hi, (fun b off e => by cases e), Fr.trans ((Fr.refl _ w).alloc _) (Fr.ofBelow hb)⟩
  · have hbl := hown.lt
    have hsz : Maps.size D = T.length := hD.2.2
    have HP := hid (keys_of ok hown hD)
    have hseq : SeqGives Fence.wide 2 Try.prog 44 #[.pointer (some ⟨w.heap.size, 0, none⟩)] encZ (fun ss => ss.Perm (intKeys D)) (Maps.size D) (w.alloc (.cells #[.map (some B)] 52)) :=
      AnyZI.keys_gives (ρ := Try.keysA_ren) { Try.keysA with } Fence.wide _ trivial rfl (by omega) w.heap.size B T.length D _ (by simp) (by simp) (by
        obtain ⟨es, clock, hb, Ft, hs, hD⟩ := hown
        exact ⟨es, clock, (Below.heap_alloc _ _ B hbl).trans hb, Ft, hs, hD⟩)
    have cS := AnyZI.sorted_in Try.sortedA Fence.wide 5 trivial trivial trivial trivial rfl (by omega) (sortsA _) (enters_of Try.func43 (by kernel_rfl) rfl) 44 #[.pointer (some ⟨w.heap.size, 0, none⟩)] trivial (enters_of Try.func44 (by kernel_rfl) rfl) _ _ (by unfold maxLen; omega) (by omega) _ hseq
    change CallsIn _ _ Try.prog 37 _ _ _ at cS
    have HS := hid cS
    have HOK := hid ok
    clear cS hseq c ok hlen hown hD hbl hsz
    refine callsIn_of_wp Try.func25 rfl trivial ?_ rfl
    simp only [Try.ntmps25, List.size_toArray, List.length_cons, List.length_nil, Nat.reduceAdd, Nat.reduceSub, Array.replicate_succ, Array.replicate_zero, List.push_toArray, List.append_toArray, List.nil_append, List.cons_append]
    gi_wp2_with (first
      | (gi_at_call 38; refine (keysIn _ _).mono ?_; rintro e w' ⟨rfl, rfl⟩)
      | (gi_at_call 37; refine HS.out.mono ?_; rintro e w' ⟨v, ss, rfl, hS, hrow, hnil, hb⟩))
    go_ret
    have hs := keys_sorted HOK.out (hS.trans HP.out.symm)
    have hl : ss.length = (T.map Prod.fst).length := (hS.trans HP.out.symm).length_eq
    rw [hs, hl] at hrow
    have hrow2 : w'.ownsRow w.heap.size 3 1 v (T.map Prod.fst).length (ic (T.map Prod.fst)) := ownsRow_base_a hrow (by simp)
    obtain ⟨ad, cap, rfl, h1, h2⟩ := row_list hrow2
    exact ⟨ad, cap, rfl, h1, fun b off e _ => h2 b off e, Fr.trans ((Fr.refl _ w).alloc _) (Fr.ofBelow hb)⟩
end
end Go.Proofs.Ytpmajadljlibbaa
