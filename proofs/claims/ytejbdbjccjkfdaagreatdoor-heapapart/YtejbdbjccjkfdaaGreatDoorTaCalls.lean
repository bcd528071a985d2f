/-
  The library's functions that are called stand in this dump as the library's proof has them: numbers and bodies.
  What All of package table does: slices.Sorted(maps.Keys(m)), by the library's contracts.
  What the calls of package table answer, and what they leave, at the landed code.
-/
import Derived.Shelf.SlIterI.Nil
import Derived.Shelf.SortM.Plain
import Derived.Shelf.SortM.SortNone
import Derived.Test.YtejbdbjccjkfdaaGreatDoorProg
import Derived.Test.YtejbdbjccjkfdaaGreatDoorTaCallsC
import Derived.Test.YtejbdbjccjkfdaaGreatDoorLists
namespace Go.Proofs
open Go.Shelf
def Tryz.keysA_ren : Go.Shelf.Ren := ⟨fun | 7 => 71 | 10 => 139 | n => n, fun | 23 => 131 | 26 => 3 | 3 => 3 | 28 => 129 | 0 => 0 | 27 => 128 | 33 => 91 | 4 => 4 | n => n, fun | n => n⟩
theorem Tryz.keysA : Go.Proofs.SlLaysZI.n7 Tryz.prog Tryz.keysA_ren := {
  mixed := by kernel_rfl
  f7 := ⟨Tryz.f71.name, by decide, Tryz.func71.trans (congrArg some (by kernel_rfl))⟩
  f10 := ⟨Tryz.f139.name, by decide, Tryz.func139.trans (congrArg some (by kernel_rfl))⟩
  t0 := Tryz.underlying0
  a0 := Tryz.isAgg0
  z0 := Tryz.sizeOf0
  v0 := Tryz.zeroValue0
  t4 := Tryz.underlying4
  a4 := Tryz.isAgg4
  z4 := Tryz.sizeOf4
  v4 := Tryz.zeroValue4
  t23 := Tryz.underlying131
  a23 := Tryz.isAgg131
  z23 := Tryz.sizeOf131
  v23 := Tryz.zeroValue131
  t26 := Tryz.underlying3
  a26 := Tryz.isAgg3
  z26 := Tryz.sizeOf3
  v26 := Tryz.zeroValue3
  t27 := Tryz.underlying128
  a27 := Tryz.isAgg128
  z27 := Tryz.sizeOf128
  v27 := Tryz.zeroValue128
  t28 := Tryz.underlying129
  a28 := Tryz.isAgg129
  z28 := Tryz.sizeOf129
  v28 := Tryz.zeroValue129
  t33 := Tryz.underlying91
  a33 := Tryz.isAgg91
  z33 := Tryz.sizeOf91
  v33 := Tryz.zeroValue91 }
def Tryz.sortedA_ren : Go.Shelf.Ren := ⟨fun | 6 => 70 | 8 => 137 | 9 => 138 | 11 => 190 | 13 => 192 | 12 => 191 | 23 => 213 | 24 => 214 | 14 => 204 | 15 => 205 | 16 => 206 | 17 => 207 | 18 => 208 | 19 => 209 | 20 => 210 | 21 => 211 | 22 => 212 | 25 => 217 | 26 => 218 | 27 => 219 | 28 => 220 | 29 => 221 | 30 => 222 | 31 => 224 | n => n, fun | 26 => 3 | 28 => 129 | 24 => 24 | 0 => 0 | 3 => 3 | 37 => 58 | 48 => 238 | 50 => 172 | 4 => 4 | 40 => 232 | 39 => 231 | 45 => 184 | 5 => 5 | 9 => 9 | 51 => 243 | 55 => 247 | 57 => 249 | 58 => 250 | 33 => 91 | n => n, fun | n => n⟩
theorem Tryz.sortedA : Go.Proofs.SlLaysZI.n6 Tryz.prog Tryz.sortedA_ren := {
  mixed := by kernel_rfl
  f6 := ⟨Tryz.f70.name, by decide, Tryz.func70.trans (congrArg some (by kernel_rfl))⟩
  f8 := ⟨Tryz.f137.name, by decide, Tryz.func137.trans (congrArg some (by kernel_rfl))⟩
  f11 := ⟨Tryz.f190.name, by decide, Tryz.func190.trans (congrArg some (by kernel_rfl))⟩
  t0 := Tryz.underlying0
  a0 := Tryz.isAgg0
  z0 := Tryz.sizeOf0
  v0 := Tryz.zeroValue0
  t24 := Tryz.underlying24
  a24 := Tryz.isAgg24
  z24 := Tryz.sizeOf24
  v24 := Tryz.zeroValue24
  t26 := Tryz.underlying3
  a26 := Tryz.isAgg3
  z26 := Tryz.sizeOf3
  v26 := Tryz.zeroValue3
  t28 := Tryz.underlying129
  a28 := Tryz.isAgg129
  z28 := Tryz.sizeOf129
  v28 := Tryz.zeroValue129
  i26 := by kernel_rfl }
def Tryz.sortA_ren : Go.Shelf.Ren := ⟨fun | 5 => 138 | 8 => 192 | 7 => 191 | 19 => 213 | 20 => 214 | 10 => 204 | 11 => 205 | 12 => 206 | 13 => 207 | 14 => 208 | 15 => 209 | 16 => 210 | 17 => 211 | 18 => 212 | 30 => 217 | 31 => 218 | 32 => 219 | 33 => 220 | 34 => 221 | 35 => 222 | 40 => 224 | n => n, fun | 23 => 24 | 25 => 3 | 3 => 3 | 32 => 58 | 22 => 24 | 0 => 0 | 44 => 238 | 46 => 172 | 4 => 4 | 36 => 232 | 35 => 231 | 41 => 184 | 5 => 5 | 9 => 9 | 53 => 243 | 57 => 247 | 63 => 249 | 64 => 250 | n => n, fun | n => n⟩
theorem Tryz.sortA : Go.Proofs.SlLaysM.n5 Tryz.prog Tryz.sortA_ren := {
  mixed := by kernel_rfl
  f5 := ⟨Tryz.f138.name, by decide, Tryz.func138.trans (congrArg some (by kernel_rfl))⟩
  f7 := ⟨Tryz.f191.name, by decide, Tryz.func191.trans (congrArg some (by kernel_rfl))⟩
  f8 := Tryz.func192.trans (congrArg some (by kernel_rfl))
  f10 := ⟨Tryz.f204.name, by decide, Tryz.func204.trans (congrArg some (by kernel_rfl))⟩
  f11 := ⟨Tryz.f205.name, by decide, Tryz.func205.trans (congrArg some (by kernel_rfl))⟩
  f12 := ⟨Tryz.f206.name, by decide, Tryz.func206.trans (congrArg some (by kernel_rfl))⟩
  f13 := ⟨Tryz.f207.name, by decide, Tryz.func207.trans (congrArg some (by kernel_rfl))⟩
  f14 := ⟨Tryz.f208.name, by decide, Tryz.func208.trans (congrArg some (by kernel_rfl))⟩
  f15 := ⟨Tryz.f209.name, by decide, Tryz.func209.trans (congrArg some (by kernel_rfl))⟩
  f16 := ⟨Tryz.f210.name, by decide, Tryz.func210.trans (congrArg some (by kernel_rfl))⟩
  f17 := ⟨Tryz.f211.name, by decide, Tryz.func211.trans (congrArg some (by kernel_rfl))⟩
  f18 := ⟨Tryz.f212.name, by decide, Tryz.func212.trans (congrArg some (by kernel_rfl))⟩
  f19 := Tryz.func213.trans (congrArg some (by kernel_rfl))
  f20 := Tryz.func214.trans (congrArg some (by kernel_rfl))
  f30 := ⟨Tryz.f217.name, by decide, Tryz.func217.trans (congrArg some (by kernel_rfl))⟩
  f31 := Tryz.func218.trans (congrArg some (by kernel_rfl))
  f32 := Tryz.func219.trans (congrArg some (by kernel_rfl))
  f33 := ⟨Tryz.f220.name, by decide, Tryz.func220.trans (congrArg some (by kernel_rfl))⟩
  f34 := ⟨Tryz.f221.name, by decide, Tryz.func221.trans (congrArg some (by kernel_rfl))⟩
  f35 := ⟨Tryz.f222.name, by decide, Tryz.func222.trans (congrArg some (by kernel_rfl))⟩
  f40 := ⟨Tryz.f224.name, by decide, Tryz.func224.trans (congrArg some (by kernel_rfl))⟩
  t0 := Tryz.underlying0
  a0 := Tryz.isAgg0
  z0 := Tryz.sizeOf0
  v0 := Tryz.zeroValue0
  t3 := Tryz.underlying3
  a3 := Tryz.isAgg3
  z3 := Tryz.sizeOf3
  v3 := Tryz.zeroValue3
  t4 := Tryz.underlying4
  a4 := Tryz.isAgg4
  z4 := Tryz.sizeOf4
  v4 := Tryz.zeroValue4
  t5 := Tryz.underlying5
  a5 := Tryz.isAgg5
  z5 := Tryz.sizeOf5
  v5 := Tryz.zeroValue5
  t9 := Tryz.underlying9
  a9 := Tryz.isAgg9
  z9 := Tryz.sizeOf9
  v9 := Tryz.zeroValue9
  t22 := Tryz.underlying24
  a22 := Tryz.isAgg24
  z22 := Tryz.sizeOf24
  v22 := Tryz.zeroValue24
  t23 := Tryz.underlying24
  a23 := Tryz.isAgg24
  z23 := Tryz.sizeOf24
  v23 := Tryz.zeroValue24
  t25 := Tryz.underlying3
  a25 := Tryz.isAgg3
  z25 := Tryz.sizeOf3
  v25 := Tryz.zeroValue3
  t32 := Tryz.underlying58
  a32 := Tryz.isAgg58
  z32 := Tryz.sizeOf58
  v32 := Tryz.zeroValue58
  t35 := Tryz.underlying231
  a35 := Tryz.isAgg231
  z35 := Tryz.sizeOf231
  v35 := Tryz.zeroValue231
  t36 := Tryz.underlying232
  a36 := Tryz.isAgg232
  z36 := Tryz.sizeOf232
  v36 := Tryz.zeroValue232
  t41 := Tryz.underlying184
  a41 := Tryz.isAgg184
  z41 := Tryz.sizeOf184
  v41 := Tryz.zeroValue184
  t44 := Tryz.underlying238
  a44 := Tryz.isAgg238
  z44 := Tryz.sizeOf238
  v44 := Tryz.zeroValue238
  t46 := Tryz.underlying172
  a46 := Tryz.isAgg172
  z46 := Tryz.sizeOf172
  v46 := Tryz.zeroValue172
  t53 := Tryz.underlying243
  a53 := Tryz.isAgg243
  z53 := Tryz.sizeOf243
  v53 := Tryz.zeroValue243
  t57 := Tryz.underlying247
  a57 := Tryz.isAgg247
  z57 := Tryz.sizeOf247
  v57 := Tryz.zeroValue247
  t63 := Tryz.underlying249
  a63 := Tryz.isAgg249
  z63 := Tryz.sizeOf249
  v63 := Tryz.zeroValue249
  t64 := Tryz.underlying250
  a64 := Tryz.isAgg250
  z64 := Tryz.sizeOf250
  v64 := Tryz.zeroValue250 }
end Go.Proofs

namespace Go.Proofs.YtejbdbjccjkfdaaGreatDoor
open Go.RowKit Go.Maps Go.Sort Go.Shelf

theorem sortsA (m : Nat) : AnyZI.SortsIn Tryz.prog Tryz.sortedA_ren Fence.wide m :=
  ⟨fun blk off cap ss W hH hblk hsz => callsIn_wide.2 (AnyM.slices_Sort_int Tryz.sortA blk off cap ss W hH hblk hsz),
   fun p cap W => callsIn_wide.2 (AnyM.slices_Sort_int_none Tryz.sortA p cap W)⟩
theorem keysIn (mb : Option Nat) (W : World) : CallsIn Fence.wide 5 Tryz.prog 71 #[.map mb] W fun e w' => e = .returned (.func (.func 139) #[] #[.pointer (some ⟨W.heap.size, 0, none⟩)]) ∧ w' = W.alloc (.cells #[.map mb] 131) := AnyZI.keys_in Tryz.keysA Fence.wide 5 trivial rfl mb W
section
variable {w : World} {t : Nat} {T : Tb} {m1 m2 : Option Nat}
/-- The keys that a table reads as. -/
theorem keys_of {B n : Nat} (ok : TbOk T) {D : DataW Unit} (h1 : w.ownsMap Tryz.prog 3 (plainElem Tryz.prog 3) B n D) (h2 : Di D (fF T) T.length) : (T.map Prod.fst).Perm (intKeys D) := by
  have hc : CollectedI D (fun _ => false) (T.map Prod.fst) := by
    refine ⟨List.pairwise_map.2 (ok.up.imp fun {x y} h => by omega), fun x => ?_⟩
    rw [h2.1 x]
    constructor
    · intro h
      obtain ⟨y, hy, rfl⟩ := List.mem_map.1 h
      have := (fF_iff ok (v := y.1) (p := y.2)).2 hy
      simp [this]
    · rintro ⟨h, _⟩
      obtain ⟨p, hp⟩ := Option.isSome_iff_exists.1 h
      exact List.mem_map.2 ⟨_, (fF_iff ok).1 hp, rfl⟩
  exact hc.perm h1 intLaw Tryz.underlying3 fun _ => rfl
set_option maxRecDepth 20000 in
set_option maxHeartbeats 2000000 in
theorem u_all (c : Tw w t m1 m2) (o : Og w m1 (fF T) T.length) (ok : TbOk T) : Calls Tryz.prog 25 #[.pointer (some ⟨t, 0, none⟩)] w fun e w' => ∃ ad cap, e = .returned (.slice ad (T.map Prod.fst).length cap) ∧ NumsAt w' ad (T.map Prod.fst) ∧ (∀ b off, ad = some ⟨b, off, none⟩ → 0 < (T.map Prod.fst).length → w.heap.size ≤ b) ∧ Fr (fun _ => False) w w' := by
  have c0 := c.c0
  have hlen := Tb.few ok
  refine (callsIn_wide (n := 6)).1 ?_
  have hfK : Fence.wide.fn 71 := trivial
  have hfS : Fence.wide.fn 70 := trivial
  rcases o with ⟨rfl, e1, e2⟩ | ⟨B, rfl, D, hown, hD⟩
  · have eT : T = [] := List.eq_nil_of_length_eq_zero e2
    subst eT
    have hseq : SeqGives Fence.wide 2 Tryz.prog 139 #[.pointer (some ⟨w.heap.size, 0, none⟩)] encZ (fun ss : List Int => ss = []) 0 (w.alloc (.cells #[.map none] 131)) :=
      AnyZI.keys_gives_nil (ρ := Tryz.keysA_ren) { Tryz.keysA with } Fence.wide _ trivial rfl w.heap.size _ (by simp) (by simp)
    have cS := AnyZI.sorted_in Tryz.sortedA Fence.wide 5 trivial trivial trivial trivial rfl (by omega) (sortsA _) (enters_of Tryz.func138 (by kernel_rfl) rfl) 139 #[.pointer (some ⟨w.heap.size, 0, none⟩)] trivial (enters_of Tryz.func139 (by kernel_rfl) rfl) _ 0 (Nat.zero_le _) (by omega) _ hseq
    change CallsIn _ _ Tryz.prog 70 _ _ _ at cS
    have HS := hid cS
    clear cS hseq c ok hlen e1 e2
    refine callsIn_of_wp Tryz.func25 rfl trivial ?_ rfl
    simp only [Tryz.ntmps25, List.size_toArray, List.length_cons, List.length_nil, Nat.reduceAdd, Nat.reduceSub, Array.replicate_succ, Array.replicate_zero, List.push_toArray, List.append_toArray, List.nil_append, List.cons_append]
    gi_wp2_with (first
      | (gi_at_call 71; refine (keysIn _ _).mono ?_; rintro e w' ⟨rfl, rfl⟩)
      | (gi_at_call 70; refine HS.out.mono ?_; rintro e w' ⟨v, ss, rfl, rfl, hrow, hnil, hb⟩; obtain rfl : v = .slice none 0 0 := hnil.2 rfl))
    go_ret
    exact ⟨none, 0, by simp, fun i hi => by simp at hi, (fun b off e => by cases e), Fr.trans ((Fr.refl _ w).alloc _) (Fr.ofBelow hb)⟩
  · have hbl := hown.lt
    have hsz : Maps.size D = T.length := hD.2.2
    have HP := hid (keys_of ok hown hD)
    have hseq : SeqGives Fence.wide 2 Tryz.prog 139 #[.pointer (some ⟨w.heap.size, 0, none⟩)] encZ (fun ss => ss.Perm (intKeys D)) (Maps.size D) (w.alloc (.cells #[.map (some B)] 131)) :=
      AnyZI.keys_gives (ρ := Tryz.keysA_ren) { Tryz.keysA with } Fence.wide _ trivial rfl (by omega) w.heap.size B T.length D _ (by simp) (by simp) (by
        obtain ⟨es, clock, hb, Ft, hs, hD⟩ := hown
        exact ⟨es, clock, (Below.heap_alloc _ _ B hbl).trans hb, Ft, hs, hD⟩)
    have cS := AnyZI.sorted_in Tryz.sortedA Fence.wide 5 trivial trivial trivial trivial rfl (by omega) (sortsA _) (enters_of Tryz.func138 (by kernel_rfl) rfl) 139 #[.pointer (some ⟨w.heap.size, 0, none⟩)] trivial (enters_of Tryz.func139 (by kernel_rfl) rfl) _ _ (by unfold maxLen; omega) (by omega) _ hseq
    change CallsIn _ _ Tryz.prog 70 _ _ _ at cS
    have HS := hid cS
    have HOK := hid ok
    clear cS hseq c ok hlen hown hD hbl hsz
    refine callsIn_of_wp Tryz.func25 rfl trivial ?_ rfl
    simp only [Tryz.ntmps25, List.size_toArray, List.length_cons, List.length_nil, Nat.reduceAdd, Nat.reduceSub, Array.replicate_succ, Array.replicate_zero, List.push_toArray, List.append_toArray, List.nil_append, List.cons_append]
    gi_wp2_with (first
      | (gi_at_call 71; refine (keysIn _ _).mono ?_; rintro e w' ⟨rfl, rfl⟩)
      | (gi_at_call 70; refine HS.out.mono ?_; rintro e w' ⟨v, ss, rfl, hS, hrow, hnil, hb⟩))
    go_ret
    have hs := keys_sorted HOK.out (hS.trans HP.out.symm)
    have hl : ss.length = (T.map Prod.fst).length := (hS.trans HP.out.symm).length_eq
    rw [hs, hl] at hrow
    have hrow2 : w'.ownsRow w.heap.size 3 1 v (T.map Prod.fst).length (ic (T.map Prod.fst)) := ownsRow_base_a hrow (by simp)
    obtain ⟨ad, cap, rfl, h1, h2⟩ := row_list hrow2
    exact ⟨ad, cap, rfl, h1, fun b off e _ => h2 b off e, Fr.trans ((Fr.refl _ w).alloc _) (Fr.ofBelow hb)⟩
end
end Go.Proofs.YtejbdbjccjkfdaaGreatDoor

namespace Go.Proofs.YtejbdbjccjkfdaaGreatDoor
open Go.RowKit

section
variable {w : World} {t : Nat} {Z : Nat → Prop} {T : Tb}
theorem Tm.kept {w' : World} (h : Tm t T w Z) (f : Fr (fun _ => False) w w') : Tm t T w' Z := (Tm.good t T).1 h f fun _ _ => id
theorem Tm.lt (h : Tm t T w Z) : ∀ i, Z i → i < w.heap.size := by obtain ⟨m1, m2, h⟩ := h; exact h.lt
theorem c_new (w : World) : Calls Tryz.prog 82 #[] w fun e w' => ∃ t Z, e = .returned (.pointer (some ⟨t, 0, none⟩)) ∧ Tm t [] w' Z ∧ Fr (fun _ => False) w w' ∧ ∀ i, Z i → w.heap.size ≤ i ∧ i < w'.heap.size := by
  go_enter Tryz.func82, Tryz.ntmps82
  go_wp2
  go_ret
  exact ⟨w.heap.size, fun i => i = w.heap.size, by simp, ⟨none, none, heap_alloc_new w _, .inl ⟨rfl, fun _ => rfl, rfl⟩, .inl ⟨rfl, fun _ => rfl, rfl⟩, Iff.rfl, rfl, (fun B e => by cases e), (fun B e => by cases e), (fun B e => by cases e), (fun i e => by subst e; simp)⟩, (Fr.refl _ _).alloc _, fun i e => by subst e; simp⟩
theorem c_find (h : Tm t T w Z) (ok : TbOk T) {v : Int} (hv : I64 v) : Calls Tryz.prog 27 #[.pointer (some ⟨t, 0, none⟩), .int .i64 v] w fun e w' => e = .returned (.int .i64 (tbF T v)) ∧ Fr (fun _ => False) w w' := by
  obtain ⟨m1, m2, h⟩ := h
  refine (u_find h.c h.o1 hv).mono ?_
  rintro e w' ⟨rfl, rfl⟩
  exact ⟨by rw [← fF_get ok], Fr.refl _ _⟩
theorem c_holder (h : Tm t T w Z) (ok : TbOk T) {p : Int} (hp : I64 p) : Calls Tryz.prog 171 #[.pointer (some ⟨t, 0, none⟩), .int .i64 p] w fun e w' => e = .returned (.int .i64 (tbH T p)) ∧ Fr (fun _ => False) w w' := by
  obtain ⟨m1, m2, h⟩ := h
  refine (u_holder h.c h.o2 hp).mono ?_
  rintro e w' ⟨rfl, rfl⟩
  exact ⟨by rw [← fH_get ok], Fr.refl _ _⟩
theorem c_all (h : Tm t T w Z) (ok : TbOk T) : Calls Tryz.prog 25 #[.pointer (some ⟨t, 0, none⟩)] w fun e w' => ∃ ad cap, e = .returned (.slice ad (T.map Prod.fst).length cap) ∧ NumsAt w' ad (T.map Prod.fst) ∧ (∀ b off, ad = some ⟨b, off, none⟩ → 0 < (T.map Prod.fst).length → w.heap.size ≤ b) ∧ Fr (fun _ => False) w w' := by
  obtain ⟨m1, m2, h⟩ := h
  exact u_all h.c h.o1 ok
theorem c_pieces_c (h : Tm t T w Z) (ok : TbOk T) {a n : Int} (ha : I64 a) (hn : I64 n) : Calls Tryz.prog 98 #[.pointer (some ⟨t, 0, none⟩), .int .i64 a, .int .i64 n] w fun e w' => ∃ ad cap, e = .returned (.tuple #[.slice ad (piL T a n).length cap, .int .i64 (piE T a n)]) ∧ SpAt w' ad (piL T a n) ∧ (∀ b off, ad = some ⟨b, off, none⟩ → 0 < (piL T a n).length → w.heap.size ≤ b) ∧ Fr (fun _ => False) w w' ∧ (piL T a n).length ≤ cap := u_pieces_c h ok ha hn
theorem c_len (h : Tm t T w Z) (_ok : TbOk T) : Calls Tryz.prog 69 #[.pointer (some ⟨t, 0, none⟩)] w fun e w' => e = .returned (.int .i64 T.length) ∧ Fr (fun _ => False) w w' := by
  obtain ⟨m1, m2, h⟩ := h
  refine (u_len h.c h.o1).mono ?_
  rintro e w' ⟨rfl, rfl⟩
  exact ⟨rfl, Fr.refl _ _⟩
set_option maxRecDepth 20000 in
theorem c_unmap (h : Tm t T w Z) (ok : TbOk T) {v : Int} (hv : I64 v) : Calls Tryz.prog 177 #[.pointer (some ⟨t, 0, none⟩), .int .i64 v] w fun e w' => e = .returned (.tuple #[.int .i64 (tbUV T v), .int .i64 (tbUE T v)]) ∧ ∃ Z', Tm t (tbU T v) w' Z' ∧ Gw w w' Z Z' := by
  have H1 := hid (c_find h ok hv)
  have hr := ok.f_range v
  unfold tbUV tbUE
  by_cases hf : tbF T v < 0
  · rw [if_pos hf, if_pos hf, tbU_gone ok hf]
    have e1 : tbF T v = -1 := by omega
    have HR : Hid (∀ w', Fr (fun _ => False) w w' → ∃ Z', Tm t T w' Z' ∧ Gw w w' Z Z') := fun w' f => ⟨Z, h.kept f, Gw.same h.lt (f.mono fun _ _ e => e.elim)⟩
    rw [e1] at H1
    clear h ok hv hr hf e1
    go_enter Tryz.func177, Tryz.ntmps177
    go_wp2_with fail
    refine H1.out.mono ?_
    rintro e w1 ⟨rfl, hf1⟩
    have HF := hid hf1
    clear hf1
    go_wp2
    go_ret2
    exact ⟨by simp, HR.out _ HF.out⟩
  · rw [if_neg hf, if_neg hf]
    have H2 : Hid (∀ w0, Fr (fun _ => False) w w0 → Calls Tryz.prog 172 #[.pointer (some ⟨t, 0, none⟩), .int .i64 v, .int .i64 (tbF T v)] w0 fun e w' => e = .returned (.tuple #[]) ∧ ∃ Z', Tm t (tbU T v) w' Z' ∧ Gw w w' Z Z') := fun w0 f => (u_part (h.kept f) ok hf).mono fun _ _ ⟨he, Z', h1, h2⟩ => ⟨he, Z', h1, h2.ahead f⟩
    have hq1 : (tbF T v == -1) = false := by simp; omega
    clear h ok hv hr hf
    generalize tbF T v = p at *
    go_enter Tryz.func177, Tryz.ntmps177
    go_wp2_with fail
    refine H1.out.mono ?_
    rintro e w1 ⟨rfl, hf1⟩
    have HF := hid hf1
    clear hf1
    go_wp2_with fail
    refine (H2.out _ HF.out).mono ?_
    rintro e w2 ⟨rfl, h2⟩
    have HR := hid h2
    clear h2
    go_wp2
    go_ret2
    exact ⟨by simp, HR.out⟩
set_option maxRecDepth 20000 in
theorem c_swap_no (h : Tm t T w Z) (ok : TbOk T) {v p : Int} (hv : I64 v) (hp : I64 p) (hs : ¬ SwOk T v p) : Calls Tryz.prog 105 #[.pointer (some ⟨t, 0, none⟩), .int .i64 v, .int .i64 p] w fun e w' => e = .returned (.tuple #[.int .i64 0, .int .i64 (tbSE T v p)]) ∧ Fr (fun _ => False) w w' := by
  have H1 := hid (c_find h ok hv)
  have HP : Hid (∀ w0, Calls Tryz.prog 170 #[.int .i64 p] w0 fun e w' => e = .returned (.bool (decide (POk p))) ∧ w' = w0) := fun w0 => u_page p w0
  have HH : Hid (∀ w0, Fr (fun _ => False) w w0 → Calls Tryz.prog 171 #[.pointer (some ⟨t, 0, none⟩), .int .i64 p] w0 fun e w' => e = .returned (.int .i64 (tbH T p)) ∧ Fr (fun _ => False) w w') := fun w0 f => (c_holder (h.kept f) ok hp).mono fun _ _ ⟨he, f2⟩ => ⟨he, f.trans f2⟩
  have r1 := ok.f_range v
  have r2 := ok.h_range p
  unfold tbSE
  by_cases c1 : POk p
  case neg =>
    rw [if_pos c1]
    rw [decide_eq_false c1] at HP
    clear h ok hv hp hs HH r1 r2 c1
    generalize tbF T v = y at *
    go_enter Tryz.func105, Tryz.ntmps105
    go_wp2_with fail
    refine H1.out.mono ?_
    rintro e w1 ⟨rfl, hf1⟩
    have HF := hid hf1
    clear hf1
    go_wp2_with fail
    refine (HP.out _).mono ?_
    rintro e w2 ⟨rfl, hw⟩
    obtain rfl := hw.symm
    go_wp2
    go_ret2
    exact ⟨by simp, HF.out⟩
  rw [if_neg (by simpa using c1)]
  rw [decide_eq_true c1] at HP
  by_cases c2 : tbF T v < 0
  case pos =>
    rw [if_pos c2]
    have e1 : tbF T v = -1 := by omega
    rw [e1] at H1
    clear h ok hv hp hs HH r1 r2 c1 c2 e1
    go_enter Tryz.func105, Tryz.ntmps105
    go_wp2_with fail
    refine H1.out.mono ?_
    rintro e w1 ⟨rfl, hf1⟩
    have HF := hid hf1
    clear hf1
    go_wp2_with fail
    refine (HP.out _).mono ?_
    rintro e w2 ⟨rfl, hw⟩
    obtain rfl := hw.symm
    go_wp2
    go_ret2
    exact ⟨by simp, HF.out⟩
  rw [if_neg c2]
  have c3 : ¬ tbH T p < 0 := fun c3 => hs ⟨c1, c2, c3⟩
  rw [if_neg c3]
  have q1 : (tbF T v == -1) = false := by simp; omega
  have q2 : (tbH T p != -1) = true := by simp; omega
  clear h ok hv hp hs r1 r2 c1 c2 c3
  generalize tbF T v = y at *
  generalize tbH T p = z at *
  go_enter Tryz.func105, Tryz.ntmps105
  go_wp2_with fail
  refine H1.out.mono ?_
  rintro e w1 ⟨rfl, hf1⟩
  have HF := hid hf1
  clear hf1
  go_wp2_with fail
  refine (HP.out _).mono ?_
  rintro e w2 ⟨rfl, hw⟩
  obtain rfl := hw.symm
  clear hw
  go_wp2_with fail
  refine (HH.out _ HF.out).mono ?_
  rintro e w3 ⟨rfl, hf3⟩
  have HF3 := hid hf3
  clear hf3
  go_wp2
  go_ret2
  exact ⟨by simp, HF3.out⟩
set_option maxRecDepth 20000 in
theorem c_swap_yes (h : Tm t T w Z) (ok : TbOk T) {v p : Int} (hv : I64 v) (hp : I64 p) (hs : SwOk T v p) : Calls Tryz.prog 105 #[.pointer (some ⟨t, 0, none⟩), .int .i64 v, .int .i64 p] w fun e w' => e = .returned (.tuple #[.int .i64 (tbF T v), .int .i64 0]) ∧ ∃ Z', Tm t (tbW T v p) w' Z' ∧ Gw w w' Z Z' := by
  have H1 := hid (c_find h ok hv)
  have HP : Hid (∀ w0, Calls Tryz.prog 170 #[.int .i64 p] w0 fun e w' => e = .returned (.bool (decide (POk p))) ∧ w' = w0) := fun w0 => u_page p w0
  have HH : Hid (∀ w0, Fr (fun _ => False) w w0 → Calls Tryz.prog 171 #[.pointer (some ⟨t, 0, none⟩), .int .i64 p] w0 fun e w' => e = .returned (.int .i64 (tbH T p)) ∧ Fr (fun _ => False) w w') := fun w0 f => (c_holder (h.kept f) ok hp).mono fun _ _ ⟨he, f2⟩ => ⟨he, f.trans f2⟩
  have H2 : Hid (∀ w0, Fr (fun _ => False) w w0 → Calls Tryz.prog 172 #[.pointer (some ⟨t, 0, none⟩), .int .i64 v, .int .i64 (tbF T v)] w0 fun e w' => e = .returned (.tuple #[]) ∧ ∃ Z', Tm t (tbU T v) w' Z' ∧ Gw w w' Z Z') := fun w0 f => (u_part (h.kept f) ok hs.2.1).mono fun _ _ ⟨he, Z', h1, h2⟩ => ⟨he, Z', h1, h2.ahead f⟩
  have r1 := ok.f_range v
  have r2 := ok.h_range p
  have hm := ok.f_some hs.2.1
  have hvo := (ok.at_ _ hm).1
  simp only at hvo
  have n1 : tbF (tbU T v) v < 0 := by
    rcases tbF_or (v := v) (tbU T v) with ⟨e, _⟩ | e
    · omega
    · exact absurd rfl ((mem_tbU.1 e).2)
  have n2 : tbH (tbU T v) p < 0 := by
    rcases tbH_or (p := p) (tbU T v) with ⟨e, _⟩ | e
    · omega
    · exact absurd rfl ((ok.h_none hs.2.2).2 _ (mem_tbU.1 e).1)
  have H3 : Hid (∀ w0 Z0, Tm t (tbU T v) w0 Z0 → Gw w w0 Z Z0 → Calls Tryz.prog 173 #[.pointer (some ⟨t, 0, none⟩), .int .i64 v, .int .i64 p] w0 fun e w' => e = .returned (.tuple #[]) ∧ ∃ Z', Tm t (tbW T v p) w' Z' ∧ Gw w w' Z Z') := fun w0 Z0 h0 g0 => (u_join h0 (ok.unmap v) hvo hs.1 n1 n2).mono fun _ _ ⟨he, Z', h1, h2⟩ => ⟨he, Z', by rw [← tbI_tbU ok hs.2.1]; exact h1, g0.trans h2⟩
  rw [decide_eq_true hs.1] at HP
  have q1 : (tbF T v == -1) = false := by simp; omega
  have q2 : tbH T p = -1 := by omega
  rw [q2] at HH
  clear h ok hv hp r1 r2 hm hvo n1 n2 hs q2
  generalize tbF T v = y at *
  go_enter Tryz.func105, Tryz.ntmps105
  go_wp2_with fail
  refine H1.out.mono ?_
  rintro e w1 ⟨rfl, hf1⟩
  have HF := hid hf1
  clear hf1
  go_wp2_with fail
  refine (HP.out _).mono ?_
  rintro e w2 ⟨rfl, hw⟩
  obtain rfl := hw.symm
  clear hw
  go_wp2_with fail
  refine (HH.out _ HF.out).mono ?_
  rintro e w3 ⟨rfl, hf3⟩
  have HF3 := hid hf3
  clear hf3
  go_wp2_with fail
  refine (H2.out _ HF3.out).mono ?_
  rintro e w4 ⟨rfl, Z4, h4, g4⟩
  have HG4 := hid (And.intro h4 g4)
  clear h4 g4
  go_wp2_with fail
  refine (H3.out _ _ HG4.out.1 HG4.out.2).mono ?_
  rintro e w5 ⟨rfl, h5⟩
  have HR := hid h5
  clear h5
  go_wp2
  go_ret2
  exact ⟨by simp, HR.out⟩
theorem c_swap (h : Tm t T w Z) (ok : TbOk T) {v p : Int} (hv : I64 v) (hp : I64 p) : Calls Tryz.prog 105 #[.pointer (some ⟨t, 0, none⟩), .int .i64 v, .int .i64 p] w fun e w' => e = .returned (.tuple #[.int .i64 (tbSV T v p), .int .i64 (tbSE T v p)]) ∧ ∃ Z', Tm t (tbS T v p) w' Z' ∧ Gw w w' Z Z' := by
  by_cases hs : SwOk T v p
  · have e1 : tbSV T v p = tbF T v := if_pos hs
    have e2 : tbSE T v p = 0 := by unfold tbSE; rw [if_neg (by simpa using hs.1), if_neg hs.2.1, if_pos hs.2.2]
    have e3 : tbS T v p = tbW T v p := if_pos hs
    rw [e1, e2, e3]
    exact c_swap_yes h ok hv hp hs
  · have e1 : tbSV T v p = 0 := if_neg hs
    have e3 : tbS T v p = T := if_neg hs
    rw [e1, e3]
    exact (c_swap_no h ok hv hp hs).mono fun _ _ ⟨he, f⟩ => ⟨he, Z, h.kept f, Gw.same h.lt (f.mono fun _ _ e => e.elim)⟩
set_option maxRecDepth 20000 in
theorem c_map_no (h : Tm t T w Z) (ok : TbOk T) {v p : Int} (hv : I64 v) (hp : I64 p) (hs : ¬ ((VOk v ∧ POk p) ∧ tbF T v < 0 ∧ tbH T p < 0)) : Calls Tryz.prog 145 #[.pointer (some ⟨t, 0, none⟩), .int .i64 v, .int .i64 p] w fun e w' => e = .returned (.int .i64 (tbME T v p)) ∧ Fr (fun _ => False) w w' := by
  have HL := hid (u_local (v := v) (Fr.refl _ w : Pt.K w w))
  have HP : Hid (∀ w0, Calls Tryz.prog 170 #[.int .i64 p] w0 fun e w' => e = .returned (.bool (decide (POk p))) ∧ w' = w0) := fun w0 => u_page p w0
  have H1 : Hid (∀ w0, Fr (fun _ => False) w w0 → Calls Tryz.prog 27 #[.pointer (some ⟨t, 0, none⟩), .int .i64 v] w0 fun e w' => e = .returned (.int .i64 (tbF T v)) ∧ Fr (fun _ => False) w w') := fun w0 f => (c_find (h.kept f) ok hv).mono fun _ _ ⟨he, f2⟩ => ⟨he, f.trans f2⟩
  have HH : Hid (∀ w0, Fr (fun _ => False) w w0 → Calls Tryz.prog 171 #[.pointer (some ⟨t, 0, none⟩), .int .i64 p] w0 fun e w' => e = .returned (.int .i64 (tbH T p)) ∧ Fr (fun _ => False) w w') := fun w0 f => (c_holder (h.kept f) ok hp).mono fun _ _ ⟨he, f2⟩ => ⟨he, f.trans f2⟩
  have r1 := ok.f_range v
  have r2 := ok.h_range p
  unfold tbME
  by_cases c0 : VOk v
  case neg =>
    rw [if_neg fun e => c0 e.1]
    rw [decide_eq_false c0] at HL
    clear h ok hv hp hs HH H1 HP r1 r2 c0
    go_enter Tryz.func145, Tryz.ntmps145
    go_wp2_with fail
    refine HL.out.mono ?_
    rintro e w1 ⟨rfl, hf1⟩
    have HF := hid hf1
    clear hf1
    go_wp2
    go_ret
    exact ⟨by simp, HF.out⟩
  rw [decide_eq_true c0] at HL
  by_cases c1 : POk p
  case neg =>
    rw [if_neg fun e => c1 e.2]
    rw [decide_eq_false c1] at HP
    clear h ok hv hp hs HH H1 r1 r2 c0 c1
    go_enter Tryz.func145, Tryz.ntmps145
    go_wp2_with fail
    refine HL.out.mono ?_
    rintro e w1 ⟨rfl, hf1⟩
    have HF := hid hf1
    clear hf1
    go_wp2_with fail
    refine (HP.out _).mono ?_
    rintro e w2 ⟨rfl, hw⟩
    obtain rfl := hw.symm
    go_wp2
    go_ret
    exact ⟨by simp, HF.out⟩
  rw [decide_eq_true c1] at HP
  rw [if_pos ⟨c0, c1⟩]
  have hs2 : ¬ (tbF T v < 0 ∧ tbH T p < 0) := fun e => hs ⟨⟨c0, c1⟩, e⟩
  rw [if_neg hs2]
  by_cases c2 : tbF T v < 0
  · have c3 : ¬ tbH T p < 0 := fun c3 => hs2 ⟨c2, c3⟩
    have q1 : tbF T v = -1 := by omega
    have q2 : (tbH T p != -1) = true := by simp; omega
    rw [q1] at H1
    clear h ok hv hp hs r1 r2 c0 c1 c2 c3 hs2 q1
    generalize tbH T p = z at *
    go_enter Tryz.func145, Tryz.ntmps145
    go_wp2_with fail
    refine HL.out.mono ?_
    rintro e w1 ⟨rfl, hf1⟩
    have HF := hid hf1
    clear hf1
    go_wp2_with fail
    refine (HP.out _).mono ?_
    rintro e w2 ⟨rfl, hw⟩
    obtain rfl := hw.symm
    clear hw
    go_wp2_with fail
    refine (H1.out _ HF.out).mono ?_
    rintro e w3 ⟨rfl, hf3⟩
    have HF3 := hid hf3
    clear hf3
    go_wp2_with fail
    refine (HH.out _ HF3.out).mono ?_
    rintro e w4 ⟨rfl, hf4⟩
    have HF4 := hid hf4
    clear hf4
    go_wp2
    go_ret
    exact ⟨by simp, HF4.out⟩
  · have q1 : (tbF T v != -1) = true := by simp; omega
    clear h ok hv hp hs r1 r2 c0 c1 c2 hs2
    generalize tbF T v = y at *
    go_enter Tryz.func145, Tryz.ntmps145
    go_wp2_with fail
    refine HL.out.mono ?_
    rintro e w1 ⟨rfl, hf1⟩
    have HF := hid hf1
    clear hf1
    go_wp2_with fail
    refine (HP.out _).mono ?_
    rintro e w2 ⟨rfl, hw⟩
    obtain rfl := hw.symm
    clear hw
    go_wp2_with fail
    refine (H1.out _ HF.out).mono ?_
    rintro e w3 ⟨rfl, hf3⟩
    have HF3 := hid hf3
    clear hf3
    go_wp2
    go_ret
    exact ⟨by simp, HF3.out⟩
set_option maxRecDepth 20000 in
theorem c_map_yes (h : Tm t T w Z) (ok : TbOk T) {v p : Int} (hv : I64 v) (hp : I64 p) (hs : (VOk v ∧ POk p) ∧ tbF T v < 0 ∧ tbH T p < 0) : Calls Tryz.prog 145 #[.pointer (some ⟨t, 0, none⟩), .int .i64 v, .int .i64 p] w fun e w' => e = .returned (.int .i64 0) ∧ ∃ Z', Tm t (tbI T v p) w' Z' ∧ Gw w w' Z Z' := by
  have HL := hid (u_local (v := v) (Fr.refl _ w : Pt.K w w))
  have HP : Hid (∀ w0, Calls Tryz.prog 170 #[.int .i64 p] w0 fun e w' => e = .returned (.bool (decide (POk p))) ∧ w' = w0) := fun w0 => u_page p w0
  have H1 : Hid (∀ w0, Fr (fun _ => False) w w0 → Calls Tryz.prog 27 #[.pointer (some ⟨t, 0, none⟩), .int .i64 v] w0 fun e w' => e = .returned (.int .i64 (tbF T v)) ∧ Fr (fun _ => False) w w') := fun w0 f => (c_find (h.kept f) ok hv).mono fun _ _ ⟨he, f2⟩ => ⟨he, f.trans f2⟩
  have HH : Hid (∀ w0, Fr (fun _ => False) w w0 → Calls Tryz.prog 171 #[.pointer (some ⟨t, 0, none⟩), .int .i64 p] w0 fun e w' => e = .returned (.int .i64 (tbH T p)) ∧ Fr (fun _ => False) w w') := fun w0 f => (c_holder (h.kept f) ok hp).mono fun _ _ ⟨he, f2⟩ => ⟨he, f.trans f2⟩
  have HJ : Hid (∀ w0, Fr (fun _ => False) w w0 → Calls Tryz.prog 173 #[.pointer (some ⟨t, 0, none⟩), .int .i64 v, .int .i64 p] w0 fun e w' => e = .returned (.tuple #[]) ∧ ∃ Z', Tm t (tbI T v p) w' Z' ∧ Gw w w' Z Z') := fun w0 f => (u_join (h.kept f) ok hs.1.1 hs.1.2 hs.2.1 hs.2.2).mono fun _ _ ⟨he, Z', h1, h2⟩ => ⟨he, Z', h1, h2.ahead f⟩
  have r1 := ok.f_range v
  have r2 := ok.h_range p
  rw [decide_eq_true hs.1.1] at HL
  rw [decide_eq_true hs.1.2] at HP
  have q1 : tbF T v = -1 := by omega
  have q2 : tbH T p = -1 := by omega
  rw [q1] at H1
  rw [q2] at HH
  clear h ok hv hp hs r1 r2 q1 q2
  go_enter Tryz.func145, Tryz.ntmps145
  go_wp2_with fail
  refine HL.out.mono ?_
  rintro e w1 ⟨rfl, hf1⟩
  have HF := hid hf1
  clear hf1
  go_wp2_with fail
  refine (HP.out _).mono ?_
  rintro e w2 ⟨rfl, hw⟩
  obtain rfl := hw.symm
  clear hw
  go_wp2_with fail
  refine (H1.out _ HF.out).mono ?_
  rintro e w3 ⟨rfl, hf3⟩
  have HF3 := hid hf3
  clear hf3
  go_wp2_with fail
  refine (HH.out _ HF3.out).mono ?_
  rintro e w4 ⟨rfl, hf4⟩
  have HF4 := hid hf4
  clear hf4
  go_wp2_with fail
  refine (HJ.out _ HF4.out).mono ?_
  rintro e w5 ⟨rfl, h5⟩
  have HR := hid h5
  clear h5
  go_wp2
  go_ret
  exact ⟨by simp, HR.out⟩
theorem c_map (h : Tm t T w Z) (ok : TbOk T) {v p : Int} (hv : I64 v) (hp : I64 p) : Calls Tryz.prog 145 #[.pointer (some ⟨t, 0, none⟩), .int .i64 v, .int .i64 p] w fun e w' => e = .returned (.int .i64 (tbME T v p)) ∧ ∃ Z', Tm t (tbM T v p) w' Z' ∧ Gw w w' Z Z' := by
  by_cases hs : (VOk v ∧ POk p) ∧ tbF T v < 0 ∧ tbH T p < 0
  · have e2 : tbME T v p = 0 := by unfold tbME; rw [if_pos hs.1, if_pos hs.2]
    have e3 : tbM T v p = tbI T v p := if_pos hs
    rw [e2, e3]
    exact c_map_yes h ok hv hp hs
  · have e3 : tbM T v p = T := if_neg hs
    rw [e3]
    exact (c_map_no h ok hv hp hs).mono fun _ _ ⟨he, f⟩ => ⟨he, Z, h.kept f, Gw.same h.lt (f.mono fun _ _ e => e.elim)⟩
end
end Go.Proofs.YtejbdbjccjkfdaaGreatDoor
