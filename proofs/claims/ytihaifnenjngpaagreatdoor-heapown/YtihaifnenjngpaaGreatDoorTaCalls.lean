/-
  Spans that lie where a slice says; two lists of spans that are alike.
  A row of spans that grows.
  What the calls of package table do: piece, Pieces.
  The library's functions that are called stand in this dump as the library's proof has them: numbers and bodies.
  What All of package table does: slices.Sorted(maps.Keys(m)), by the library's contracts.
  What the calls of package table answer, and what they leave, at the landed code.
-/
import Derived.Test.YtihaifnenjngpaaGreatDoorHpFam
import Derived.LoopTactic
import Derived.RegionTactic
import Derived.ChangeAlike
import Derived.Test.YtihaifnenjngpaaGreatDoorTaPrg
import Derived.Test.YtihaifnenjngpaaGreatDoorClCalls
import Derived.Test.YtihaifnenjngpaaGreatDoorTaCallsB
import Derived.Deep.RegionHeld3
import Derived.Shelf.SlIterI.Nil
import Derived.Shelf.SortM.Plain
import Derived.Shelf.SortM.SortNone
import Derived.Test.YtihaifnenjngpaaGreatDoorProg
import Derived.Test.YtihaifnenjngpaaGreatDoorLists
namespace Go.Proofs.YtihaifnenjngpaaGreatDoor
open Go.RowKit

/-- Spans where a slice says: three cells each. -/
def SpAt (w : World) (ad : Option Addr) (ss : List (Int × Int × Bool)) : Prop := ∀ i (h : i < ss.length), ∃ b off, ad = some ⟨b, off, none⟩ ∧ b < w.heap.size ∧ w.cell? ⟨b, off + i * 3, none⟩ = some (.int .i64 (ss[i]).1) ∧ w.cell? ⟨b, off + i * 3 + 1, none⟩ = some (.int .i64 (ss[i]).2.1) ∧ w.cell? ⟨b, off + i * 3 + 2, none⟩ = some (.bool (ss[i]).2.2)
theorem SpAt.carry {S : Nat → Prop} {w w' : World} {ad : Option Addr} {ss : List (Int × Int × Bool)} (h : SpAt w ad ss) (f : Fr S w w') (hs : ∀ b off, ad = some ⟨b, off, none⟩ → 0 < ss.length → ¬ S b) : SpAt w' ad ss := fun i hi => by
  obtain ⟨b, off, e, hb, h1, h2, h3⟩ := h i hi
  have hf := f.block b hb (hs b off e (by omega))
  exact ⟨b, off, e, by have := f.size; omega, (World.cell?_of_block hf).trans h1, (World.cell?_of_block hf).trans h2, (World.cell?_of_block hf).trans h3⟩
theorem SpAt.fr {w w' : World} {ad : Option Addr} {ss : List (Int × Int × Bool)} (h : SpAt w ad ss) (f : Fr (fun _ => False) w w') : SpAt w' ad ss := h.carry f fun _ _ _ _ => id
theorem SpAt.nil (w : World) (ad : Option Addr) : SpAt w ad [] := fun i h => by simp at h
/-- As a thing. -/
def Sv (ad : Option Addr) (ss : List (Int × Int × Bool)) (w : World) (Z : Nat → Prop) : Prop := SpAt w ad ss ∧ (∀ b off, ad = some ⟨b, off, none⟩ → 0 < ss.length → Z b) ∧ ∀ i, Z i → i < w.heap.size
theorem Sv.good (ad : Option Addr) (ss : List (Int × Int × Bool)) : Good (Sv ad ss) :=
  ⟨fun h f hs => ⟨h.1.carry f fun b off e h0 => hs b (h.2.1 b off e h0), h.2.1, fun i hi => Nat.lt_of_lt_of_le (h.2.2 i hi) f.size⟩, fun h h1 h2 => ⟨h.1, fun b off e h0 => h1 b (h.2.1 b off e h0), h2⟩⟩
theorem Sv.new {w : World} {ad : Option Addr} {ss : List (Int × Int × Bool)} (h : SpAt w ad ss) : Sv ad ss w (fun b => (∃ off, ad = some ⟨b, off, none⟩) ∧ 0 < ss.length) :=
  ⟨h, fun b off e h0 => ⟨⟨off, e⟩, h0⟩, fun i ⟨⟨off, e⟩, h0⟩ => by
    obtain ⟨b, off', e1, e2, _⟩ := h 0 h0
    rw [e] at e1
    simp only [Option.some.injEq, Addr.mk.injEq] at e1
    omega⟩
theorem Things.sps {W w : World} {ts : List (World → (Nat → Prop) → Prop)} (h : Things W w ts) (j : Nat) {ad : Option Addr} {ss : List (Int × Int × Bool)} (hj : ts[j]? = some (Sv ad ss)) : SpAt w ad ss := by
  obtain ⟨U, h1, _⟩ := h.get j hj
  exact h1.1
/-- Spans that have come in new blocks. -/
theorem Things.moreSpans {W w w' : World} {ts : List (World → (Nat → Prop) → Prop)} (h : Things W w ts) {ad : Option Addr} {ss : List (Int × Int × Bool)} (hs : SpAt w' ad ss) (hb : ∀ b off, ad = some ⟨b, off, none⟩ → 0 < ss.length → w.heap.size ≤ b) (f : Fr (fun _ => False) w w') : Things W w' (ts ++ [Sv ad ss]) :=
  h.more (Sv.good _ _) (Sv.new hs) f fun i ⟨⟨off, e⟩, h0⟩ => ⟨hb i off e h0, (Sv.new hs).2.2 i ⟨⟨off, e⟩, h0⟩⟩
end Go.Proofs.YtihaifnenjngpaaGreatDoor

namespace Go.Proofs.YtihaifnenjngpaaGreatDoor
open Go.RowKit

theorem own_kept {w w' : World} {base : Nat} {v : Value} {S : Nat → Prop} {e : TypeId} {size n : Nat} {xs : List Value} (h : w.ownsRow base e size v n xs) (f : Fr S w w') (hs : ∀ x, v.ownBlock = some x → ¬ S x) : w'.ownsRow base e size v n xs := by
  obtain ⟨h1, h2⟩ := h
  refine ⟨h1, ?_⟩
  rcases h2 with h2 | ⟨g, cap, cur, rfl, hb, hc, rest⟩
  · exact .inl h2
  · exact .inr ⟨g, cap, cur, rfl, hb, by rw [f.block g (Array.getElem?_eq_some_iff.1 hc).1 (hs g rfl)]; exact hc, rest⟩
/-- Spans' cells. -/
def qk (x : Sq) : List Value := [.int .i64 x.1, .int .i64 x.2.1, .bool x.2.2]
def qc (L : List Sq) : List Value := L.flatMap qk
theorem qc_cons (x : Sq) (L : List Sq) : qc (x :: L) = .int .i64 x.1 :: .int .i64 x.2.1 :: .bool x.2.2 :: qc L := rfl
theorem qc_length : ∀ L : List Sq, (qc L).length = L.length * 3
  | [] => rfl
  | x :: L => by rw [qc_cons]; simp only [List.length_cons, qc_length L]; omega
theorem qc_append (l m : List Sq) : qc (l ++ m) = qc l ++ qc m := by simp [qc]
theorem qc_at : ∀ (L : List Sq) (k : Nat) (h : k < L.length), (qc L)[k * 3]? = some (.int .i64 L[k].1) ∧ (qc L)[k * 3 + 1]? = some (.int .i64 L[k].2.1) ∧ (qc L)[k * 3 + 2]? = some (.bool L[k].2.2)
  | x :: L, 0, _ => by simp [qc_cons]
  | x :: L, k + 1, h => by
    have := qc_at L k (by simpa using h)
    rw [qc_cons]
    simpa [Nat.add_mul, Nat.add_right_comm _ 3] using this
theorem qc_set (L : List Sq) (s : Sq) (n : Int) : (qc (L ++ [s])).set (L.length * 3 + 1) (.int .i64 n) = qc (L ++ [(s.1, n, s.2.2)]) := by
  rw [qc_append, qc_append, ← qc_length L, List.set_append_right _ _ (by omega), show (qc L).length + 1 - (qc L).length = 1 by omega]
  rfl
/-- A row of spans that grows: all that turns is new. -/
structure Gr3 (w wr : World) (y : Value) (L : List Sq) : Prop where
  row : wr.ownsRow w.heap.size 83 3 y L.length (qc L)
  fr : Fr (fun k => w.heap.size ≤ k) w wr
section
variable {w wr : World} {y : Value} {L : List Sq}
theorem Gr3.start (w : World) : Gr3 w w (.slice none 0 0) [] := ⟨⟨rfl, .inl ⟨rfl, rfl⟩⟩, Fr.refl _ _⟩
theorem Gr3.le (h : Gr3 w wr y L) : w.heap.size ≤ wr.heap.size := h.fr.size
theorem Gr3.kept {w' : World} (h : Gr3 w wr y L) (f : Fr (fun _ => False) wr w') : Gr3 w w' y L := ⟨own_kept h.row f fun _ _ => id, Fr.trans' h.fr f fun _ _ e => e.elim⟩
theorem Gr3.form (h : Gr3 w wr y L) : ∃ ad cap, y = .slice ad L.length cap := by
  rcases h.row.2 with ⟨e1, e2⟩ | ⟨g, cap, cur, e1, _⟩
  · exact ⟨none, 0, by rw [e2]; exact e1⟩
  · exact ⟨_, cap, e1⟩
theorem Gr3.spans {ad : Option Addr} {n cap : Nat} (h : Gr3 w wr (.slice ad n cap) L) : SpAt wr ad L ∧ ∀ b off, ad = some ⟨b, off, none⟩ → 0 < L.length → w.heap.size ≤ b := by
  refine ⟨fun i hi => ?_, fun b off e h0 => ?_⟩
  · rcases h.row.2 with ⟨e1, e2⟩ | ⟨g, cap', cur, e1, hb, hc, _⟩
    · omega
    · simp only [Value.slice.injEq] at e1
      obtain ⟨rfl, _, _⟩ := e1
      obtain ⟨a0, a1, a2⟩ := qc_at L i hi
      have hcell : ∀ j u, (qc L)[j]? = some u → wr.cell? ⟨g, j, none⟩ = some u := fun j u hu => by
        have := h.row.cells (g := g) rfl j u hu
        rwa [add_plain, Nat.zero_add] at this
      refine ⟨g, 0, rfl, (Array.getElem?_eq_some_iff.1 hc).1, ?_, ?_, ?_⟩
      · rw [Nat.zero_add]; exact hcell _ _ a0
      · rw [Nat.zero_add]; exact hcell _ _ a1
      · rw [Nat.zero_add]; exact hcell _ _ a2
  · have := h.row.lt b (by rw [e]; rfl)
    exact this.1
/-- The last span's number of bytes. -/
theorem Gr3.last {s : Sq} (h : Gr3 w wr y (L ++ [s])) : ∃ g cap, y = .slice (some ⟨g, 0, none⟩) (L.length + 1) cap ∧ wr.cell? ⟨g, L.length * 3 + 1, none⟩ = some (.int .i64 s.2.1) ∧ wr.frozen? ⟨g, L.length * 3 + 1, none⟩ = false ∧ ∀ n : Int, Gr3 w (wr.setCell ⟨g, L.length * 3 + 1, none⟩ (.int .i64 n)) y (L ++ [(s.1, n, s.2.2)]) := by
  rcases h.row.2 with ⟨e1, e2⟩ | ⟨g, cap, cur, e1, hb, hc, _⟩
  · simp at e2
  · have hlt := h.row.lt g (by rw [e1]; rfl)
    have a1 := (qc_at (L ++ [s]) L.length (by simp)).2.1
    simp only [List.getElem_concat_length] at a1
    have hr := h.row
    rw [e1] at hr
    refine ⟨g, cap, by rw [e1, List.length_append]; rfl, ?_, by simp [World.frozen?, hc], fun n => ⟨?_, ?_⟩⟩
    · have := hr.cells (g := g) rfl _ _ a1
      rwa [add_plain, Nat.zero_add] at this
    · rw [← qc_set, e1]
      have := (hr.stored (L.length * 3 + 1) (.int .i64 n)).1
      rw [List.length_append] at this
      rw [List.length_append, List.length_append]
      exact this
    · exact Fr.setCell (p := ⟨g, L.length * 3 + 1, none⟩) h.fr hlt.1 _
end
end Go.Proofs.YtihaifnenjngpaaGreatDoor

namespace Go.Proofs.YtihaifnenjngpaaGreatDoor
open Go.RowKit

section
variable {w w0 : World} {t : Nat} {Z : Nat → Prop} {T : Tb} {m1 m2 : Option Nat}
end
end Go.Proofs.YtihaifnenjngpaaGreatDoor

namespace Go.Proofs
open Go.Shelf
def Tryz.keysA_ren : Go.Shelf.Ren := ⟨fun | 7 => 58 | 10 => 123 | n => n, fun | 23 => 114 | 26 => 3 | 3 => 3 | 28 => 112 | 0 => 0 | 27 => 111 | 33 => 90 | 4 => 4 | n => n, fun | n => n⟩
theorem Tryz.keysA : Go.Proofs.SlLaysZI.n7 Tryz.prog Tryz.keysA_ren := {
  mixed := by kernel_rfl
  f7 := ⟨Tryz.f58.name, by decide, Tryz.func58.trans (congrArg some (by kernel_rfl))⟩
  f10 := ⟨Tryz.f123.name, by decide, Tryz.func123.trans (congrArg some (by kernel_rfl))⟩
  t0 := Tryz.underlying0
  a0 := Tryz.isAgg0
  z0 := Tryz.sizeOf0
  v0 := Tryz.zeroValue0
  t4 := Tryz.underlying4
  a4 := Tryz.isAgg4
  z4 := Tryz.sizeOf4
  v4 := Tryz.zeroValue4
  t23 := Tryz.underlying114
  a23 := Tryz.isAgg114
  z23 := Tryz.sizeOf114
  v23 := Tryz.zeroValue114
  t26 := Tryz.underlying3
  a26 := Tryz.isAgg3
  z26 := Tryz.sizeOf3
  v26 := Tryz.zeroValue3
  t27 := Tryz.underlying111
  a27 := Tryz.isAgg111
  z27 := Tryz.sizeOf111
  v27 := Tryz.zeroValue111
  t28 := Tryz.underlying112
  a28 := Tryz.isAgg112
  z28 := Tryz.sizeOf112
  v28 := Tryz.zeroValue112
  t33 := Tryz.underlying90
  a33 := Tryz.isAgg90
  z33 := Tryz.sizeOf90
  v33 := Tryz.zeroValue90 }
def Tryz.sortedA_ren : Go.Shelf.Ren := ⟨fun | 6 => 57 | 8 => 121 | 9 => 122 | 11 => 172 | 13 => 174 | 12 => 173 | 23 => 219 | 24 => 220 | 14 => 210 | 15 => 211 | 16 => 212 | 17 => 213 | 18 => 214 | 19 => 215 | 20 => 216 | 21 => 217 | 22 => 218 | 25 => 227 | 26 => 228 | 27 => 229 | 28 => 230 | 29 => 231 | 30 => 232 | 31 => 235 | n => n, fun | 26 => 3 | 28 => 112 | 24 => 24 | 0 => 0 | 3 => 3 | 37 => 76 | 48 => 239 | 50 => 178 | 4 => 4 | 40 => 233 | 39 => 232 | 45 => 174 | 5 => 5 | 9 => 9 | 51 => 245 | 55 => 249 | 57 => 255 | 58 => 256 | 33 => 90 | n => n, fun | n => n⟩
theorem Tryz.sortedA : Go.Proofs.SlLaysZI.n6 Tryz.prog Tryz.sortedA_ren := {
  mixed := by kernel_rfl
  f6 := ⟨Tryz.f57.name, by decide, Tryz.func57.trans (congrArg some (by kernel_rfl))⟩
  f8 := ⟨Tryz.f121.name, by decide, Tryz.func121.trans (congrArg some (by kernel_rfl))⟩
  f11 := ⟨Tryz.f172.name, by decide, Tryz.func172.trans (congrArg some (by kernel_rfl))⟩
  t0 := Tryz.underlying0
  a0 := Tryz.isAgg0
  z0 := Tryz.sizeOf0
  v0 := Tryz.zeroValue0
  t24 := Tryz.underlying24
  a24 := Tryz.isAgg24
  z24 := Tryz.sizeOf24
  v24 := Tryz.zeroValue24
  t26 := Tryz.underlying3
  a26 := Tryz.isAgg3
  z26 := Tryz.sizeOf3
  v26 := Tryz.zeroValue3
  t28 := Tryz.underlying112
  a28 := Tryz.isAgg112
  z28 := Tryz.sizeOf112
  v28 := Tryz.zeroValue112
  i26 := by kernel_rfl }
def Tryz.sortA_ren : Go.Shelf.Ren := ⟨fun | 5 => 122 | 8 => 174 | 7 => 173 | 19 => 219 | 20 => 220 | 10 => 210 | 11 => 211 | 12 => 212 | 13 => 213 | 14 => 214 | 15 => 215 | 16 => 216 | 17 => 217 | 18 => 218 | 30 => 227 | 31 => 228 | 32 => 229 | 33 => 230 | 34 => 231 | 35 => 232 | 40 => 235 | n => n, fun | 23 => 24 | 25 => 3 | 3 => 3 | 32 => 76 | 22 => 24 | 0 => 0 | 44 => 239 | 46 => 178 | 4 => 4 | 36 => 233 | 35 => 232 | 41 => 174 | 5 => 5 | 9 => 9 | 53 => 245 | 57 => 249 | 63 => 255 | 64 => 256 | n => n, fun | n => n⟩
theorem Tryz.sortA : Go.Proofs.SlLaysM.n5 Tryz.prog Tryz.sortA_ren := {
  mixed := by kernel_rfl
  f5 := ⟨Tryz.f122.name, by decide, Tryz.func122.trans (congrArg some (by kernel_rfl))⟩
  f7 := ⟨Tryz.f173.name, by decide, Tryz.func173.trans (congrArg some (by kernel_rfl))⟩
  f8 := Tryz.func174.trans (congrArg some (by kernel_rfl))
  f10 := ⟨Tryz.f210.name, by decide, Tryz.func210.trans (congrArg some (by kernel_rfl))⟩
  f11 := ⟨Tryz.f211.name, by decide, Tryz.func211.trans (congrArg some (by kernel_rfl))⟩
  f12 := ⟨Tryz.f212.name, by decide, Tryz.func212.trans (congrArg some (by kernel_rfl))⟩
  f13 := ⟨Tryz.f213.name, by decide, Tryz.func213.trans (congrArg some (by kernel_rfl))⟩
  f14 := ⟨Tryz.f214.name, by decide, Tryz.func214.trans (congrArg some (by kernel_rfl))⟩
  f15 := ⟨Tryz.f215.name, by decide, Tryz.func215.trans (congrArg some (by kernel_rfl))⟩
  f16 := ⟨Tryz.f216.name, by decide, Tryz.func216.trans (congrArg some (by kernel_rfl))⟩
  f17 := ⟨Tryz.f217.name, by decide, Tryz.func217.trans (congrArg some (by kernel_rfl))⟩
  f18 := ⟨Tryz.f218.name, by decide, Tryz.func218.trans (congrArg some (by kernel_rfl))⟩
  f19 := Tryz.func219.trans (congrArg some (by kernel_rfl))
  f20 := Tryz.func220.trans (congrArg some (by kernel_rfl))
  f30 := ⟨Tryz.f227.name, by decide, Tryz.func227.trans (congrArg some (by kernel_rfl))⟩
  f31 := Tryz.func228.trans (congrArg some (by kernel_rfl))
  f32 := Tryz.func229.trans (congrArg some (by kernel_rfl))
  f33 := ⟨Tryz.f230.name, by decide, Tryz.func230.trans (congrArg some (by kernel_rfl))⟩
  f34 := ⟨Tryz.f231.name, by decide, Tryz.func231.trans (congrArg some (by kernel_rfl))⟩
  f35 := ⟨Tryz.f232.name, by decide, Tryz.func232.trans (congrArg some (by kernel_rfl))⟩
  f40 := ⟨Tryz.f235.name, by decide, Tryz.func235.trans (congrArg some (by kernel_rfl))⟩
  t0 := Tryz.underlying0
  a0 := Tryz.isAgg0
  z0 := Tryz.sizeOf0
  v0 := Tryz.zeroValue0
  t3 := Tryz.underlying3
  a3 := Tryz.isAgg3
  z3 := Tryz.sizeOf3
  v3 := Tryz.zeroValue3
  t4 := Tryz.underlying4
  a4 := Tryz.isAgg4
  z4 := Tryz.sizeOf4
  v4 := Tryz.zeroValue4
  t5 := Tryz.underlying5
  a5 := Tryz.isAgg5
  z5 := Tryz.sizeOf5
  v5 := Tryz.zeroValue5
  t9 := Tryz.underlying9
  a9 := Tryz.isAgg9
  z9 := Tryz.sizeOf9
  v9 := Tryz.zeroValue9
  t22 := Tryz.underlying24
  a22 := Tryz.isAgg24
  z22 := Tryz.sizeOf24
  v22 := Tryz.zeroValue24
  t23 := Tryz.underlying24
  a23 := Tryz.isAgg24
  z23 := Tryz.sizeOf24
  v23 := Tryz.zeroValue24
  t25 := Tryz.underlying3
  a25 := Tryz.isAgg3
  z25 := Tryz.sizeOf3
  v25 := Tryz.zeroValue3
  t32 := Tryz.underlying76
  a32 := Tryz.isAgg76
  z32 := Tryz.sizeOf76
  v32 := Tryz.zeroValue76
  t35 := Tryz.underlying232
  a35 := Tryz.isAgg232
  z35 := Tryz.sizeOf232
  v35 := Tryz.zeroValue232
  t36 := Tryz.underlying233
  a36 := Tryz.isAgg233
  z36 := Tryz.sizeOf233
  v36 := Tryz.zeroValue233
  t41 := Tryz.underlying174
  a41 := Tryz.isAgg174
  z41 := Tryz.sizeOf174
  v41 := Tryz.zeroValue174
  t44 := Tryz.underlying239
  a44 := Tryz.isAgg239
  z44 := Tryz.sizeOf239
  v44 := Tryz.zeroValue239
  t46 := Tryz.underlying178
  a46 := Tryz.isAgg178
  z46 := Tryz.sizeOf178
  v46 := Tryz.zeroValue178
  t53 := Tryz.underlying245
  a53 := Tryz.isAgg245
  z53 := Tryz.sizeOf245
  v53 := Tryz.zeroValue245
  t57 := Tryz.underlying249
  a57 := Tryz.isAgg249
  z57 := Tryz.sizeOf249
  v57 := Tryz.zeroValue249
  t63 := Tryz.underlying255
  a63 := Tryz.isAgg255
  z63 := Tryz.sizeOf255
  v63 := Tryz.zeroValue255
  t64 := Tryz.underlying256
  a64 := Tryz.isAgg256
  z64 := Tryz.sizeOf256
  v64 := Tryz.zeroValue256 }
end Go.Proofs

namespace Go.Proofs.YtihaifnenjngpaaGreatDoor
open Go.RowKit Go.Maps Go.Sort Go.Shelf

theorem sortsA (m : Nat) : AnyZI.SortsIn Tryz.prog Tryz.sortedA_ren Fence.wide m :=
  ⟨fun blk off cap ss W hH hblk hsz => callsIn_wide.2 (AnyM.slices_Sort_int Tryz.sortA blk off cap ss W hH hblk hsz),
   fun p cap W => callsIn_wide.2 (AnyM.slices_Sort_int_none Tryz.sortA p cap W)⟩
theorem keysIn (mb : Option Nat) (W : World) : CallsIn Fence.wide 5 Tryz.prog 58 #[.map mb] W fun e w' => e = .returned (.func (.func 123) #[] #[.pointer (some ⟨W.heap.size, 0, none⟩)]) ∧ w' = W.alloc (.cells #[.map mb] 114) := AnyZI.keys_in Tryz.keysA Fence.wide 5 trivial rfl mb W
section
variable {w : World} {t : Nat} {T : Tb} {m1 m2 : Option Nat}
/-- The keys that a table reads as. -/
theorem keys_of {B n : Nat} (ok : TbOk T) {D : DataW Unit} (h1 : w.ownsMap Tryz.prog 3 (plainElem Tryz.prog 3) B n D) (h2 : Di D (fF T) T.length) : (T.map Prod.fst).Perm (intKeys D) := by
  have hc : CollectedI D (fun _ => false) (T.map Prod.fst) := by
    refine ⟨List.pairwise_map.2 (ok.up.imp fun {x y} h => by omega), fun x => ?_⟩
    rw [h2.1 x]
    constructor
    · intro h
      obtain ⟨y, hy, rfl⟩ := List.mem_map.1 h
      have := (fF_iff ok (v := y.1) (p := y.2)).2 hy
      simp [this]
    · rintro ⟨h, _⟩
      obtain ⟨p, hp⟩ := Option.isSome_iff_exists.1 h
      exact List.mem_map.2 ⟨_, (fF_iff ok).1 hp, rfl⟩
  exact hc.perm h1 intLaw Tryz.underlying3 fun _ => rfl
set_option maxRecDepth 20000 in
set_option maxHeartbeats 2000000 in
theorem u_all (c : Tw w t m1 m2) (o : Og w m1 (fF T) T.length) (ok : TbOk T) : Calls Tryz.prog 18 #[.pointer (some ⟨t, 0, none⟩)] w fun e w' => ∃ ad cap, e = .returned (.slice ad (T.map Prod.fst).length cap) ∧ NumsAt w' ad (T.map Prod.fst) ∧ (∀ b off, ad = some ⟨b, off, none⟩ → 0 < (T.map Prod.fst).length → w.heap.size ≤ b) ∧ Fr (fun _ => False) w w' := by
  have c0 := c.c0
  have hlen := Tb.few ok
  refine (callsIn_wide (n := 6)).1 ?_
  have hfK : Fence.wide.fn 58 := trivial
  have hfS : Fence.wide.fn 57 := trivial
  rcases o with ⟨rfl, e1, e2⟩ | ⟨B, rfl, D, hown, hD⟩
  · have eT : T = [] := List.eq_nil_of_length_eq_zero e2
    subst eT
    have hseq : SeqGives Fence.wide 2 Tryz.prog 123 #[.pointer (some ⟨w.heap.size, 0, none⟩)] encZ (fun ss : List Int => ss = []) 0 (w.alloc (.cells #[.map none] 114)) :=
      AnyZI.keys_gives_nil (ρ := Tryz.keysA_ren) { Tryz.keysA with } Fence.wide _ trivial rfl w.heap.size _ (by simp) (by simp)
    have cS := AnyZI.sorted_in Tryz.sortedA Fence.wide 5 trivial trivial trivial trivial rfl (by omega) (sortsA _) (enters_of Tryz.func122 (by kernel_rfl) rfl) 123 #[.pointer (some ⟨w.heap.size, 0, none⟩)] trivial (enters_of Tryz.func123 (by kernel_rfl) rfl) _ 0 (Nat.zero_le _) (by omega) _ hseq
    change CallsIn _ _ Tryz.prog 57 _ _ _ at cS
    have HS := hid cS
    clear cS hseq c ok hlen e1 e2
    refine callsIn_of_wp Tryz.func18 rfl trivial ?_ rfl
    simp only [Tryz.ntmps18, List.size_toArray, List.length_cons, List.length_nil, Nat.reduceAdd, Nat.reduceSub, Array.replicate_succ, Array.replicate_zero, List.push_toArray, List.append_toArray, List.nil_append, List.cons_append]
    gi_wp2_with (first
      | (gi_at_call 58; refine (keysIn _ _).mono ?_; rintro e w' ⟨rfl, rfl⟩)
      | (gi_at_call 57; refine HS.out.mono ?_; rintro e w' ⟨v, ss, rfl, rfl, hrow, hnil, hb⟩; obtain rfl : v = .slice none 0 0 := hnil.2 rfl))
    go_ret
    exact ⟨none, 0, by simp, fun i hi => by simp at hi, (fun b off e => by cases e), Fr.trans ((Fr.refl _ w).alloc _) (Fr.ofBelow hb)⟩
  · have hbl := hown.lt
    have hsz : Maps.size D = T.length := hD.2.2
    have HP := hid (keys_of ok hown hD)
    have hseq : SeqGives Fence.wide 2 Tryz.prog 123 #[.pointer (some ⟨w.heap.size, 0, none⟩)] encZ (fun ss => ss.Perm (intKeys D)) (Maps.size D) (w.alloc (.cells #[.map (some B)] 114)) :=
      AnyZI.keys_gives (ρ := Tryz.keysA_ren) { Tryz.keysA with } Fence.wide _ trivial rfl (by omega) w.heap.size B T.length D _ (by simp) (by simp) (by
        obtain ⟨es, clock, hb, Ft, hs, hD⟩ := hown
        exact ⟨es, clock, (Below.heap_alloc _ _ B hbl).trans hb, Ft, hs, hD⟩)
    have cS := AnyZI.sorted_in Tryz.sortedA Fence.wide 5 trivial trivial trivial trivial rfl (by omega) (sortsA _) (enters_of Tryz.func122 (by kernel_rfl) rfl) 123 #[.pointer (some ⟨w.heap.size, 0, none⟩)] trivial (enters_of Tryz.func123 (by kernel_rfl) rfl) _ _ (by unfold maxLen; omega) (by omega) _ hseq
    change CallsIn _ _ Tryz.prog 57 _ _ _ at cS
    have HS := hid cS
    have HOK := hid ok
    clear cS hseq c ok hlen hown hD hbl hsz
    refine callsIn_of_wp Tryz.func18 rfl trivial ?_ rfl
    simp only [Tryz.ntmps18, List.size_toArray, List.length_cons, List.length_nil, Nat.reduceAdd, Nat.reduceSub, Array.replicate_succ, Array.replicate_zero, List.push_toArray, List.append_toArray, List.nil_append, List.cons_append]
    gi_wp2_with (first
      | (gi_at_call 58; refine (keysIn _ _).mono ?_; rintro e w' ⟨rfl, rfl⟩)
      | (gi_at_call 57; refine HS.out.mono ?_; rintro e w' ⟨v, ss, rfl, hS, hrow, hnil, hb⟩))
    go_ret
    have hs := keys_sorted HOK.out (hS.trans HP.out.symm)
    have hl : ss.length = (T.map Prod.fst).length := (hS.trans HP.out.symm).length_eq
    rw [hs, hl] at hrow
    have hrow2 : w'.ownsRow w.heap.size 3 1 v (T.map Prod.fst).length (ic (T.map Prod.fst)) := ownsRow_base_a hrow (by simp)
    obtain ⟨ad, cap, rfl, h1, h2⟩ := row_list hrow2
    exact ⟨ad, cap, rfl, h1, fun b off e _ => h2 b off e, Fr.trans ((Fr.refl _ w).alloc _) (Fr.ofBelow hb)⟩
end
end Go.Proofs.YtihaifnenjngpaaGreatDoor

namespace Go.Proofs.YtihaifnenjngpaaGreatDoor
open Go.RowKit

section
variable {w : World} {t : Nat} {Z : Nat → Prop} {T : Tb}
theorem Tm.kept {w' : World} (h : Tm t T w Z) (f : Fr (fun _ => False) w w') : Tm t T w' Z := (Tm.good t T).1 h f fun _ _ => id
theorem Tm.lt (h : Tm t T w Z) : ∀ i, Z i → i < w.heap.size := by obtain ⟨m1, m2, h⟩ := h; exact h.lt
theorem c_new (w : World) : Calls Tryz.prog 96 #[] w fun e w' => ∃ t Z, e = .returned (.pointer (some ⟨t, 0, none⟩)) ∧ Tm t [] w' Z ∧ Fr (fun _ => False) w w' ∧ ∀ i, Z i → w.heap.size ≤ i ∧ i < w'.heap.size := by
  go_enter Tryz.func96, Tryz.ntmps96
  go_wp2
  go_ret
  exact ⟨w.heap.size, fun i => i = w.heap.size, by simp, ⟨none, none, heap_alloc_new w _, .inl ⟨rfl, fun _ => rfl, rfl⟩, .inl ⟨rfl, fun _ => rfl, rfl⟩, Iff.rfl, rfl, (fun B e => by cases e), (fun B e => by cases e), (fun B e => by cases e), (fun i e => by subst e; simp)⟩, (Fr.refl _ _).alloc _, fun i e => by subst e; simp⟩
theorem c_find (h : Tm t T w Z) (ok : TbOk T) {v : Int} (hv : I64 v) : Calls Tryz.prog 20 #[.pointer (some ⟨t, 0, none⟩), .int .i64 v] w fun e w' => e = .returned (.int .i64 (tbF T v)) ∧ Fr (fun _ => False) w w' := by
  obtain ⟨m1, m2, h⟩ := h
  refine (u_find h.c h.o1 hv).mono ?_
  rintro e w' ⟨rfl, rfl⟩
  exact ⟨by rw [← fF_get ok], Fr.refl _ _⟩
theorem c_holder (h : Tm t T w Z) (ok : TbOk T) {p : Int} (hp : I64 p) : Calls Tryz.prog 201 #[.pointer (some ⟨t, 0, none⟩), .int .i64 p] w fun e w' => e = .returned (.int .i64 (tbH T p)) ∧ Fr (fun _ => False) w w' := by
  obtain ⟨m1, m2, h⟩ := h
  refine (u_holder h.c h.o2 hp).mono ?_
  rintro e w' ⟨rfl, rfl⟩
  exact ⟨by rw [← fH_get ok], Fr.refl _ _⟩
theorem c_all (h : Tm t T w Z) (ok : TbOk T) : Calls Tryz.prog 18 #[.pointer (some ⟨t, 0, none⟩)] w fun e w' => ∃ ad cap, e = .returned (.slice ad (T.map Prod.fst).length cap) ∧ NumsAt w' ad (T.map Prod.fst) ∧ (∀ b off, ad = some ⟨b, off, none⟩ → 0 < (T.map Prod.fst).length → w.heap.size ≤ b) ∧ Fr (fun _ => False) w w' := by
  obtain ⟨m1, m2, h⟩ := h
  exact u_all h.c h.o1 ok
theorem c_len (h : Tm t T w Z) (_ok : TbOk T) : Calls Tryz.prog 55 #[.pointer (some ⟨t, 0, none⟩)] w fun e w' => e = .returned (.int .i64 T.length) ∧ Fr (fun _ => False) w w' := by
  obtain ⟨m1, m2, h⟩ := h
  refine (u_len h.c h.o1).mono ?_
  rintro e w' ⟨rfl, rfl⟩
  exact ⟨rfl, Fr.refl _ _⟩
set_option maxRecDepth 20000 in
theorem c_unmap (h : Tm t T w Z) (ok : TbOk T) {v : Int} (hv : I64 v) : Calls Tryz.prog 155 #[.pointer (some ⟨t, 0, none⟩), .int .i64 v] w fun e w' => e = .returned (.tuple #[.int .i64 (tbUV T v), .int .i64 (tbUE T v)]) ∧ ∃ Z', Tm t (tbU T v) w' Z' ∧ Gw w w' Z Z' := by
  have H1 := hid (c_find h ok hv)
  have hr := ok.f_range v
  unfold tbUV tbUE
  by_cases hf : tbF T v < 0
  · rw [if_pos hf, if_pos hf, tbU_gone ok hf]
    have e1 : tbF T v = -1 := by omega
    have HR : Hid (∀ w', Fr (fun _ => False) w w' → ∃ Z', Tm t T w' Z' ∧ Gw w w' Z Z') := fun w' f => ⟨Z, h.kept f, Gw.same h.lt (f.mono fun _ _ e => e.elim)⟩
    rw [e1] at H1
    clear h ok hv hr hf e1
    go_enter Tryz.func155, Tryz.ntmps155
    go_wp2_with fail
    refine H1.out.mono ?_
    rintro e w1 ⟨rfl, hf1⟩
    have HF := hid hf1
    clear hf1
    go_wp2
    go_ret2
    exact ⟨by simp, HR.out _ HF.out⟩
  · rw [if_neg hf, if_neg hf]
    have H2 : Hid (∀ w0, Fr (fun _ => False) w w0 → Calls Tryz.prog 202 #[.pointer (some ⟨t, 0, none⟩), .int .i64 v, .int .i64 (tbF T v)] w0 fun e w' => e = .returned (.tuple #[]) ∧ ∃ Z', Tm t (tbU T v) w' Z' ∧ Gw w w' Z Z') := fun w0 f => (u_part (h.kept f) ok hf).mono fun _ _ ⟨he, Z', h1, h2⟩ => ⟨he, Z', h1, h2.ahead f⟩
    have hq1 : (tbF T v == -1) = false := by simp; omega
    clear h ok hv hr hf
    generalize tbF T v = p at *
    go_enter Tryz.func155, Tryz.ntmps155
    go_wp2_with fail
    refine H1.out.mono ?_
    rintro e w1 ⟨rfl, hf1⟩
    have HF := hid hf1
    clear hf1
    go_wp2_with fail
    refine (H2.out _ HF.out).mono ?_
    rintro e w2 ⟨rfl, h2⟩
    have HR := hid h2
    clear h2
    go_wp2
    go_ret2
    exact ⟨by simp, HR.out⟩
set_option maxRecDepth 20000 in
theorem c_map_no (h : Tm t T w Z) (ok : TbOk T) {v p : Int} (hv : I64 v) (hp : I64 p) (hs : ¬ ((VOk v ∧ POk p) ∧ tbF T v < 0 ∧ tbH T p < 0)) : Calls Tryz.prog 180 #[.pointer (some ⟨t, 0, none⟩), .int .i64 v, .int .i64 p] w fun e w' => e = .returned (.int .i64 (tbME T v p)) ∧ Fr (fun _ => False) w w' := by
  have HL := hid (u_local (v := v) (Fr.refl _ w : Pt.K w w))
  have HP : Hid (∀ w0, Calls Tryz.prog 200 #[.int .i64 p] w0 fun e w' => e = .returned (.bool (decide (POk p))) ∧ w' = w0) := fun w0 => u_page p w0
  have H1 : Hid (∀ w0, Fr (fun _ => False) w w0 → Calls Tryz.prog 20 #[.pointer (some ⟨t, 0, none⟩), .int .i64 v] w0 fun e w' => e = .returned (.int .i64 (tbF T v)) ∧ Fr (fun _ => False) w w') := fun w0 f => (c_find (h.kept f) ok hv).mono fun _ _ ⟨he, f2⟩ => ⟨he, f.trans f2⟩
  have HH : Hid (∀ w0, Fr (fun _ => False) w w0 → Calls Tryz.prog 201 #[.pointer (some ⟨t, 0, none⟩), .int .i64 p] w0 fun e w' => e = .returned (.int .i64 (tbH T p)) ∧ Fr (fun _ => False) w w') := fun w0 f => (c_holder (h.kept f) ok hp).mono fun _ _ ⟨he, f2⟩ => ⟨he, f.trans f2⟩
  have r1 := ok.f_range v
  have r2 := ok.h_range p
  unfold tbME
  by_cases c0 : VOk v
  case neg =>
    rw [if_neg fun e => c0 e.1]
    rw [decide_eq_false c0] at HL
    clear h ok hv hp hs HH H1 HP r1 r2 c0
    go_enter Tryz.func180, Tryz.ntmps180
    go_wp2_with fail
    refine HL.out.mono ?_
    rintro e w1 ⟨rfl, hf1⟩
    have HF := hid hf1
    clear hf1
    go_wp2
    go_ret
    exact ⟨by simp, HF.out⟩
  rw [decide_eq_true c0] at HL
  by_cases c1 : POk p
  case neg =>
    rw [if_neg fun e => c1 e.2]
    rw [decide_eq_false c1] at HP
    clear h ok hv hp hs HH H1 r1 r2 c0 c1
    go_enter Tryz.func180, Tryz.ntmps180
    go_wp2_with fail
    refine HL.out.mono ?_
    rintro e w1 ⟨rfl, hf1⟩
    have HF := hid hf1
    clear hf1
    go_wp2_with fail
    refine (HP.out _).mono ?_
    rintro e w2 ⟨rfl, hw⟩
    obtain rfl := hw.symm
    go_wp2
    go_ret
    exact ⟨by simp, HF.out⟩
  rw [decide_eq_true c1] at HP
  rw [if_pos ⟨c0, c1⟩]
  have hs2 : ¬ (tbF T v < 0 ∧ tbH T p < 0) := fun e => hs ⟨⟨c0, c1⟩, e⟩
  rw [if_neg hs2]
  by_cases c2 : tbF T v < 0
  · have c3 : ¬ tbH T p < 0 := fun c3 => hs2 ⟨c2, c3⟩
    have q1 : tbF T v = -1 := by omega
    have q2 : (tbH T p != -1) = true := by simp; omega
    rw [q1] at H1
    clear h ok hv hp hs r1 r2 c0 c1 c2 c3 hs2 q1
    generalize tbH T p = z at *
    go_enter Tryz.func180, Tryz.ntmps180
    go_wp2_with fail
    refine HL.out.mono ?_
    rintro e w1 ⟨rfl, hf1⟩
    have HF := hid hf1
    clear hf1
    go_wp2_with fail
    refine (HP.out _).mono ?_
    rintro e w2 ⟨rfl, hw⟩
    obtain rfl := hw.symm
    clear hw
    go_wp2_with fail
    refine (H1.out _ HF.out).mono ?_
    rintro e w3 ⟨rfl, hf3⟩
    have HF3 := hid hf3
    clear hf3
    go_wp2_with fail
    refine (HH.out _ HF3.out).mono ?_
    rintro e w4 ⟨rfl, hf4⟩
    have HF4 := hid hf4
    clear hf4
    go_wp2
    go_ret
    exact ⟨by simp, HF4.out⟩
  · have q1 : (tbF T v != -1) = true := by simp; omega
    clear h ok hv hp hs r1 r2 c0 c1 c2 hs2
    generalize tbF T v = y at *
    go_enter Tryz.func180, Tryz.ntmps180
    go_wp2_with fail
    refine HL.out.mono ?_
    rintro e w1 ⟨rfl, hf1⟩
    have HF := hid hf1
    clear hf1
    go_wp2_with fail
    refine (HP.out _).mono ?_
    rintro e w2 ⟨rfl, hw⟩
    obtain rfl := hw.symm
    clear hw
    go_wp2_with fail
    refine (H1.out _ HF.out).mono ?_
    rintro e w3 ⟨rfl, hf3⟩
    have HF3 := hid hf3
    clear hf3
    go_wp2
    go_ret
    exact ⟨by simp, HF3.out⟩
set_option maxRecDepth 20000 in
theorem c_map_yes (h : Tm t T w Z) (ok : TbOk T) {v p : Int} (hv : I64 v) (hp : I64 p) (hs : (VOk v ∧ POk p) ∧ tbF T v < 0 ∧ tbH T p < 0) : Calls Tryz.prog 180 #[.pointer (some ⟨t, 0, none⟩), .int .i64 v, .int .i64 p] w fun e w' => e = .returned (.int .i64 0) ∧ ∃ Z', Tm t (tbI T v p) w' Z' ∧ Gw w w' Z Z' := by
  have HL := hid (u_local (v := v) (Fr.refl _ w : Pt.K w w))
  have HP : Hid (∀ w0, Calls Tryz.prog 200 #[.int .i64 p] w0 fun e w' => e = .returned (.bool (decide (POk p))) ∧ w' = w0) := fun w0 => u_page p w0
  have H1 : Hid (∀ w0, Fr (fun _ => False) w w0 → Calls Tryz.prog 20 #[.pointer (some ⟨t, 0, none⟩), .int .i64 v] w0 fun e w' => e = .returned (.int .i64 (tbF T v)) ∧ Fr (fun _ => False) w w') := fun w0 f => (c_find (h.kept f) ok hv).mono fun _ _ ⟨he, f2⟩ => ⟨he, f.trans f2⟩
  have HH : Hid (∀ w0, Fr (fun _ => False) w w0 → Calls Tryz.prog 201 #[.pointer (some ⟨t, 0, none⟩), .int .i64 p] w0 fun e w' => e = .returned (.int .i64 (tbH T p)) ∧ Fr (fun _ => False) w w') := fun w0 f => (c_holder (h.kept f) ok hp).mono fun _ _ ⟨he, f2⟩ => ⟨he, f.trans f2⟩
  have HJ : Hid (∀ w0, Fr (fun _ => False) w w0 → Calls Tryz.prog 203 #[.pointer (some ⟨t, 0, none⟩), .int .i64 v, .int .i64 p] w0 fun e w' => e = .returned (.tuple #[]) ∧ ∃ Z', Tm t (tbI T v p) w' Z' ∧ Gw w w' Z Z') := fun w0 f => (u_join (h.kept f) ok hs.1.1 hs.1.2 hs.2.1 hs.2.2).mono fun _ _ ⟨he, Z', h1, h2⟩ => ⟨he, Z', h1, h2.ahead f⟩
  have r1 := ok.f_range v
  have r2 := ok.h_range p
  rw [decide_eq_true hs.1.1] at HL
  rw [decide_eq_true hs.1.2] at HP
  have q1 : tbF T v = -1 := by omega
  have q2 : tbH T p = -1 := by omega
  rw [q1] at H1
  rw [q2] at HH
  clear h ok hv hp hs r1 r2 q1 q2
  go_enter Tryz.func180, Tryz.ntmps180
  go_wp2_with fail
  refine HL.out.mono ?_
  rintro e w1 ⟨rfl, hf1⟩
  have HF := hid hf1
  clear hf1
  go_wp2_with fail
  refine (HP.out _).mono ?_
  rintro e w2 ⟨rfl, hw⟩
  obtain rfl := hw.symm
  clear hw
  go_wp2_with fail
  refine (H1.out _ HF.out).mono ?_
  rintro e w3 ⟨rfl, hf3⟩
  have HF3 := hid hf3
  clear hf3
  go_wp2_with fail
  refine (HH.out _ HF3.out).mono ?_
  rintro e w4 ⟨rfl, hf4⟩
  have HF4 := hid hf4
  clear hf4
  go_wp2_with fail
  refine (HJ.out _ HF4.out).mono ?_
  rintro e w5 ⟨rfl, h5⟩
  have HR := hid h5
  clear h5
  go_wp2
  go_ret
  exact ⟨by simp, HR.out⟩
theorem c_map (h : Tm t T w Z) (ok : TbOk T) {v p : Int} (hv : I64 v) (hp : I64 p) : Calls Tryz.prog 180 #[.pointer (some ⟨t, 0, none⟩), .int .i64 v, .int .i64 p] w fun e w' => e = .returned (.int .i64 (tbME T v p)) ∧ ∃ Z', Tm t (tbM T v p) w' Z' ∧ Gw w w' Z Z' := by
  by_cases hs : (VOk v ∧ POk p) ∧ tbF T v < 0 ∧ tbH T p < 0
  · have e2 : tbME T v p = 0 := by unfold tbME; rw [if_pos hs.1, if_pos hs.2]
    have e3 : tbM T v p = tbI T v p := if_pos hs
    rw [e2, e3]
    exact c_map_yes h ok hv hp hs
  · have e3 : tbM T v p = T := if_neg hs
    rw [e3]
    exact (c_map_no h ok hv hp hs).mono fun _ _ ⟨he, f⟩ => ⟨he, Z, h.kept f, Gw.same h.lt (f.mono fun _ _ e => e.elim)⟩
end
end Go.Proofs.YtihaifnenjngpaaGreatDoor
