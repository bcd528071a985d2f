/-
  'put' of the laws of stage 5: a block into one of the pages that have room, or into a new one: what it answers and leaves.
-/
import Derived.Test.YtcfeeeloceeicaaDoorRows
import Derived.Test.YtcfeeeloceeicaaDoorBase
import Derived.WalkMore
import Derived.BigQuiet
import Derived.Deep.QuietTactic
namespace Go.Proofs.YtcfeeeloceeicaaDoor
open Go.RowKit

/-- Numbers as cells. -/
def ic (l : List Int) : List Value := l.map fun x => Value.int .i64 x
theorem ic_length (l : List Int) : (ic l).length = l.length := by simp [ic]
theorem ic_append (l m : List Int) : ic (l ++ m) = ic l ++ ic m := by simp [ic]
theorem ic_set (l : List Int) (i : Nat) (u : Int) : ic (l.set i u) = (ic l).set i (.int .i64 u) := by simp [ic, List.map_set]
section
variable {w w' : World} {base : Nat} {v : Value} {xs : List Int}
theorem irow_on {S : Nat → Prop} (h : w.ownsRow base 3 1 v xs.length (ic xs)) (f : Fr S w w') (hs : ∀ i, v.ownBlock = some i → ¬ S i) : w'.ownsRow base 3 1 v xs.length (ic xs) := by
  refine ⟨h.1, ?_⟩
  rcases h.2 with hn | ⟨g, cap, cur, rfl, hb, hgg, rest⟩
  · exact .inl hn
  · refine .inr ⟨g, cap, cur, rfl, hb, ?_, rest⟩
    rw [f.block g (Array.getElem?_eq_some_iff.1 hgg).1 (hs g rfl)]
    exact hgg
theorem irow_base {b : Nat} (h : w.ownsRow base 3 1 v xs.length (ic xs)) (hb : ∀ k, v.ownBlock = some k → b ≤ k) : w.ownsRow b 3 1 v xs.length (ic xs) := by
  refine ⟨h.1, ?_⟩
  rcases h.2 with hn | ⟨g, cap, cur, rfl, _, rest⟩
  · exact .inl hn
  · exact .inr ⟨g, cap, cur, rfl, hb g rfl, rest⟩
theorem irow_shape (h : w.ownsRow base 3 1 v xs.length (ic xs)) : ∃ ad cap, v = .slice ad xs.length cap := by
  rcases h.2 with ⟨h1, h2⟩ | ⟨g, cap, cur, h1, _⟩
  · exact ⟨none, 0, by rw [h1, h2]⟩
  · exact ⟨_, _, h1⟩
theorem irow_at {ad : Option Addr} {cap : Nat} (h : w.ownsRow base 3 1 (.slice ad xs.length cap) xs.length (ic xs)) (j : Nat) (hj : j < xs.length) : ∃ g, ad = some ⟨g, 0, none⟩ ∧ g < w.heap.size ∧ base ≤ g ∧ w.cell? ⟨g, j, none⟩ = some (.int .i64 xs[j]) ∧ w.frozen? ⟨g, j, none⟩ = false := by
  rcases h.2 with ⟨h1, h2⟩ | ⟨g, cap', cur, h1, hb, hg, _⟩
  · omega
  · simp only [Value.slice.injEq] at h1
    obtain ⟨rfl, _, rfl⟩ := h1
    have := h.cells (g := g) rfl j (.int .i64 xs[j]) (by simp [ic, hj])
    rw [add_plain, Nat.zero_add] at this
    exact ⟨g, rfl, (Array.getElem?_eq_some_iff.1 hg).1, hb, this, by simp [World.frozen?, hg]⟩
theorem irow_set {g cap : Nat} (h : w.ownsRow base 3 1 (.slice (some ⟨g, 0, none⟩) xs.length cap) xs.length (ic xs)) (i : Nat) (hi : i < xs.length) (u : Int) :
    (w.setCell ⟨g, i, none⟩ (.int .i64 u)).ownsRow base 3 1 (.slice (some ⟨g, 0, none⟩) (xs.set i u).length cap) (xs.set i u).length (ic (xs.set i u)) := by
  refine ⟨by simp [ic_length], ?_⟩
  rcases h.2 with ⟨h1, h2⟩ | ⟨g', cap', cur, h1, hb, hg, h3, h4, h5, h6⟩
  · omega
  · simp only [Value.slice.injEq, Option.some.injEq, Addr.mk.injEq] at h1
    obtain ⟨⟨rfl, _, _⟩, _, rfl⟩ := h1
    refine .inr ⟨g, cap, cur.setIfInBounds i (.int .i64 u), by simp, hb, ?_, by simpa using h3, h4, by simpa using h5, ?_⟩
    · simp [World.setCell, Array.getElem?_modify, hg]
    · rw [ic_set, ← h6]
      simp [List.take_set]
end

/-- What put does to the counts of a kind's pages, and to the number of all pages. -/
def Put (per : Int) (xs : List Int) (n : Int) (i : Nat) (xs' : List Int) (n' : Int) : Prop :=
  (∃ h : i < xs.length, 0 < xs[i] ∧ xs[i] < per ∧ xs' = xs.set i (xs[i] + 1) ∧ n' = n) ∨
  ((∀ x ∈ xs, ¬ (0 < x ∧ x < per)) ∧ n' = n + 1 ∧ ((∃ h : i < xs.length, xs[i] = 0 ∧ xs' = xs.set i 1) ∨ ((∀ x ∈ xs, x ≠ 0) ∧ i = xs.length ∧ xs' = xs ++ [1])))

/-- In block B lie slices, the o-th of them a row of its own; in block D a number. -/
structure Pg (w : World) (base B D : Nat) (T : TypeId) (vs : List Value) (o : Nat) (v : Value) (xs : List Int) (n : Int) : Prop where
  hB : w.heap[B]? = some (.cells vs.toArray T (0, 0))
  at_ : vs[o]? = some v
  row : w.ownsRow base 3 1 v xs.length (ic xs)
  hD : w.heap[D]? = some (.cells #[.int .i64 n] 3 (0, 0))
  n1 : v.ownBlock ≠ some B
  n2 : v.ownBlock ≠ some D
  n3 : B ≠ D
  le : base ≤ w.heap.size
section
variable {w w' : World} {base B D : Nat} {T : TypeId} {vs : List Value} {o : Nat} {v : Value} {xs : List Int} {n : Int}
theorem Pg.ltB (h : Pg w base B D T vs o v xs n) : B < w.heap.size := (Array.getElem?_eq_some_iff.1 h.hB).1
theorem Pg.ltD (h : Pg w base B D T vs o v xs n) : D < w.heap.size := (Array.getElem?_eq_some_iff.1 h.hD).1
theorem Pg.cB (h : Pg w base B D T vs o v xs n) : w.cell? ⟨B, o, none⟩ = some v := by
  simp [World.cell?, h.hB, h.at_]
theorem Pg.fB (h : Pg w base B D T vs o v xs n) : w.frozen? ⟨B, o, none⟩ = false := by simp [World.frozen?, h.hB]
theorem Pg.cD (h : Pg w base B D T vs o v xs n) : w.cell? ⟨D, 0, none⟩ = some (.int .i64 n) := by simp [World.cell?, h.hD]
theorem Pg.fD (h : Pg w base B D T vs o v xs n) : w.frozen? ⟨D, 0, none⟩ = false := by simp [World.frozen?, h.hD]
theorem Pg.on (h : Pg w base B D T vs o v xs n) (f : Fr (fun _ => False) w w') : Pg w' base B D T vs o v xs n :=
  ⟨by rw [f.block B h.ltB id]; exact h.hB, h.at_, irow_on h.row f (fun _ _ => id), by rw [f.block D h.ltD id]; exact h.hD, h.n1, h.n2, h.n3, by have := f.size; have := h.le; omega⟩
/-- The number is another one. -/
theorem Pg.num (h : Pg w base B D T vs o v xs n) (m : Int) : Pg (w.setCell ⟨D, 0, none⟩ (.int .i64 m)) base B D T vs o v xs m ∧ Fr (fun k => k = D) w (w.setCell ⟨D, 0, none⟩ (.int .i64 m)) := by
  have f : Fr (fun k => k = D) w (w.setCell ⟨D, 0, none⟩ (.int .i64 m)) := (Fr.refl (fun k => k = D) w).setCell (p := ⟨D, 0, none⟩) (show D = D from rfl) _
  refine ⟨⟨by rw [f.block B h.ltB h.n3]; exact h.hB, h.at_, irow_on h.row f (fun i hi e => h.n2 (e ▸ hi)), ?_, h.n1, h.n2, h.n3, by have := f.size; have := h.le; omega⟩, f⟩
  simp [World.setCell, Array.getElem?_modify, h.hD]
/-- One of the counts is another one. -/
theorem Pg.set {g cap : Nat} (h : Pg w base B D T vs o (.slice (some ⟨g, 0, none⟩) xs.length cap) xs n) (i : Nat) (hi : i < xs.length) (u : Int) :
    Pg (w.setCell ⟨g, i, none⟩ (.int .i64 u)) base B D T vs o (.slice (some ⟨g, 0, none⟩) (xs.set i u).length cap) (xs.set i u) n ∧ Fr (fun k => k = g) w (w.setCell ⟨g, i, none⟩ (.int .i64 u)) := by
  have f : Fr (fun k => k = g) w (w.setCell ⟨g, i, none⟩ (.int .i64 u)) := (Fr.refl (fun k => k = g) w).setCell (p := ⟨g, i, none⟩) (show g = g from rfl) _
  have a1 : B ≠ g := fun e => h.n1 (by rw [e]; rfl)
  have a2 : D ≠ g := fun e => h.n2 (by rw [e]; rfl)
  exact ⟨⟨by rw [f.block B h.ltB a1]; exact h.hB, by rw [List.length_set]; exact h.at_, irow_set h.row i hi u, by rw [f.block D h.ltD a2]; exact h.hD, h.n1, h.n2, h.n3, by have := f.size; have := h.le; omega⟩, f⟩
/-- The o-th slice is another one. -/
theorem Pg.store (h : Pg w base B D T vs o v xs n) {v' : Value} {xs' : List Int} {w1 : World} (f : Fr (fun k => v.ownBlock = some k) w w1) (hr : w1.ownsRow base 3 1 v' xs'.length (ic xs')) (hs : v'.ownBlock = v.ownBlock ∨ ∃ g, v'.ownBlock = some g ∧ w.heap.size ≤ g) :
    Pg (w1.setCell ⟨B, o, none⟩ v') base B D T (vs.set o v') o v' xs' n ∧ Fr (fun k => k = B ∨ v.ownBlock = some k) w (w1.setCell ⟨B, o, none⟩ v') := by
  have f2 : Fr (fun k => k = B) w1 (w1.setCell ⟨B, o, none⟩ v') := (Fr.refl (fun k => k = B) w1).setCell (p := ⟨B, o, none⟩) (show B = B from rfl) _
  have hB1 : w1.heap[B]? = some (.cells vs.toArray T (0, 0)) := by rw [f.block B h.ltB h.n1]; exact h.hB
  have hD1 : w1.heap[D]? = some (.cells #[.int .i64 n] 3 (0, 0)) := by rw [f.block D h.ltD h.n2]; exact h.hD
  have ne : v'.ownBlock ≠ some B ∧ v'.ownBlock ≠ some D := by
    rcases hs with e | ⟨g, e, hg⟩
    · rw [e]; exact ⟨h.n1, h.n2⟩
    · rw [e]
      have := h.ltB
      have := h.ltD
      exact ⟨fun e => by simp at e; omega, fun e => by simp at e; omega⟩
  have hol : o < vs.length := (List.getElem?_eq_some_iff.1 h.at_).1
  refine ⟨⟨?_, by simp [hol], irow_on hr f2 (fun i hi e => ne.1 (e ▸ hi)), ?_, ne.1, ne.2, h.n3, by have := f.size; have := f2.size; have := h.le; omega⟩, ?_⟩
  · simp [World.setCell, Array.getElem?_modify, hB1]
  · rw [f2.block D (by have := f.size; have := h.ltD; omega) (fun e => h.n3 e.symm)]; exact hD1
  · exact (f.mono fun k _ e => .inr e).trans' f2 (fun i _ e => .inl e)
end
theorem set_same {α : Type} {l : List α} {o : Nat} {v : α} (h : l[o]? = some v) : l.set o v = l := by
  obtain ⟨h1, rfl⟩ := List.getElem?_eq_some_iff.1 h
  exact List.set_getElem_self h1

theorem infoInt : (Tryd.prog.info? 3).map (fun i => (i.zero, i.size, i.bytes)) = some (some (.int .i64 0), 1, 8) := by kernel_rfl
theorem info_int : ∃ i, Tryd.prog.info? 3 = some i ∧ i.zero = some (.int .i64 0) ∧ i.size = 1 ∧ i.bytes = 8 := by
  have h := infoInt
  cases hq : Tryd.prog.info? 3 with
  | none => rw [hq] at h; cases h
  | some i =>
    rw [hq] at h
    simp only [Option.map_some, Option.some.injEq, Prod.mk.injEq] at h
    exact ⟨i, rfl, h.1, h.2.1, h.2.2⟩
/-- One more number behind a row. -/
theorem wpList_push {b0 : Nat} {w : World} {rv : Value} {rs : List Int} (x : Int) (h : w.ownsRow b0 3 1 rv rs.length (ic rs)) (hb : b0 ≤ w.heap.size) (hk : rs.length ≤ 100000)
    {ops : Array Oper} {rest : List Oper} {o : Oper} {ac : Act} {Q : Exit → Act → World → Prop} (hgd : o.guard = none) (t1 t2 : Operand)
    (ho : o.op = .call { callee := .builtin .append, args := #[t1, t2], argTypes := #[37, 37] })
    (hs : ac.eval t1 = rv) (hx : ac.eval t2 = .slice (some ⟨w.heap.size, 0, none⟩) 1 1)
    (K : ∀ g cap w', w'.ownsRow b0 3 1 (.slice (some ⟨g, 0, none⟩) (rs.length + 1) cap) (rs ++ [x]).length (ic (rs ++ [x])) → Fr (fun k => rv.ownBlock = some k) w w' → (rv.ownBlock = some g ∨ w.heap.size ≤ g) → wpList Tryd.prog ops Q rest (ac.put o.dst (.slice (some ⟨g, 0, none⟩) (rs.length + 1) cap)) w') :
    wpList Tryd.prog ops Q (o :: rest) ac (w.alloc (.cells #[.int .i64 x] 3)) := by
  obtain ⟨i0, hi, hz0, hz1, hz2⟩ := info_int
  refine wpList_append_sep hgd t1 t2 37 ho b0 3 i0 (.int .i64 0) 1 8 Tryd.underlying37 hi hz0 hz1 hz2 rfl (by decide) rv _ _ hs (h.alloc _) ⟨w.heap.size, 0, none⟩ 1 1 (by decide) [.int .i64 x] hx rfl ?_ ?_ (by unfold maxLen; omega) (by omega) (by simp; omega) ?_
  · intro j u hj
    match j, hj with
    | 0, hj => simp at hj; subst hj; simp [Addr.add]
  · intro u hu; simp at hu; subst hu; rfl
  · intro g cap w1 hown hgrow hsep
    refine K g cap w1 ?_ (((Fr.refl (fun k => rv.ownBlock = some k) w).alloc _).grown hgrow (fun k e => .inl e)) ?_
    · rw [ic_append, List.length_append]; exact hown
    · rcases hsep with e | e
      · exact .inl e
      · exact .inr (by simp at e; omega)

/-- What the list of the pages that have room says, the first j looked at. -/
def RoomOk (per : Int) (xs : List Int) (j : Nat) (rs : List Int) : Prop :=
  (∀ r ∈ rs, ∃ i, ∃ h : i < xs.length, r = (i : Int) ∧ 0 < xs[i] ∧ xs[i] < per) ∧ rs.length ≤ j ∧ (rs = [] → ∀ i (h : i < xs.length), i < j → ¬ (0 < xs[i] ∧ xs[i] < per))
theorem RoomOk.yes {per : Int} {xs : List Int} {j : Nat} {rs : List Int} (h : RoomOk per xs j rs) (hj : j < xs.length) (h0 : 0 < xs[j]) (h1 : xs[j] < per) : RoomOk per xs (j + 1) (rs ++ [(j : Int)]) := by
  refine ⟨fun r hr => ?_, by simp; exact h.2.1, fun e => by simp at e⟩
  rcases List.mem_append.1 hr with hr | hr
  · exact h.1 r hr
  · simp at hr; exact ⟨j, hj, hr, h0, h1⟩
theorem RoomOk.no {per : Int} {xs : List Int} {j : Nat} {rs : List Int} (h : RoomOk per xs j rs) (hj : j < xs.length) (hn : ¬ (0 < xs[j] ∧ xs[j] < per)) : RoomOk per xs (j + 1) rs := by
  refine ⟨h.1, by have := h.2.1; omega, fun e i hi hl => ?_⟩
  by_cases c : i = j
  · subst c; exact hn
  · exact h.2.2 e i hi (by omega)

set_option maxRecDepth 20000 in
set_option maxHeartbeats 2000000 in
theorem put_any {w : World} {base B D : Nat} {T : TypeId} {vs : List Value} {o : Nat} {v : Value} {xs : List Int} {n : Int} (h : Pg w base B D T vs o v xs n) (per k : Int) (hk : 0 ≤ k) (hp0 : 0 ≤ per) (hper : per ≤ 1000) (hlen : xs.length ≤ 5000) (hn0 : 0 ≤ n) (hn : n ≤ 1000000) :
    Calls Tryd.prog 22 #[.pointer (some ⟨B, o, none⟩), .int .i64 per, .int .i64 k, .pointer (some ⟨D, 0, none⟩)] w fun e w' => ∃ (i : Nat) (v' : Value) (xs' : List Int) (n' : Int), e = .returned (.int .i64 i) ∧ Put per xs n i xs' n' ∧ Pg w' base B D T (vs.set o v') o v' xs' n' ∧ Fr (fun k => k = B ∨ k = D ∨ v.ownBlock = some k) w w' ∧ (v'.ownBlock = v.ownBlock ∨ ∃ g, v'.ownBlock = some g ∧ w.heap.size ≤ g) := by
  have HG := hid h
  clear h
  have cB := HG.out.cB
  obtain ⟨ad, cap, hv⟩ := irow_shape HG.out.row
  subst hv
  go_enter Tryd.func22, Tryd.ntmps22
  go_wp2
  clear cB
  go_loopw [9, 10, 11, 19] (fun rv _ _ i wr => ∃ (j : Nat) (rs : List Int), j ≤ xs.length ∧ i = .int .i64 j ∧ Hid (RoomOk per xs j rs) ∧ Hid (wr.ownsRow w.heap.size 3 1 rv rs.length (ic rs)) ∧ Hid (Fr (fun _ => False) w wr)) (fun _ _ _ i _ => xs.length - (intOf i).toNat)
  case atStart => exact ⟨0, [], by omega, rfl, ⟨fun r hr => (by cases hr), Nat.le_refl _, fun _ i _ hl => by omega⟩, World.ownsRow_nil _ _ _ _, Fr.refl _ _⟩
  case round =>
    obtain ⟨j, rs, hj, rfl, HR, HO, HF⟩ := hrel
    have hrl := HR.out.2.1
    have hws := HF.out.size
    by_cases hlt : j < xs.length
    · obtain ⟨g, had, _, _, hc, _⟩ := irow_at (HG.out.on HF.out).row j hlt
      subst had
      by_cases hy : 0 < xs[j] ∧ xs[j] < per
      · have HR2 := hid (HR.out.yes hlt hy.1 hy.2)
        obtain ⟨y1, y2⟩ := hy
        generalize xs[j] = x at *
        go_wp2_with (at_builtin; refine wpList_push (j : Int) HO.out hws (by omega) rfl (.tmp 31) (.tmp 33) rfl rfl rfl ?_; intro g1 cap1 w1 ho1 hf1 hs1; have HO1 := hid ho1; have HF1 := hid (Fr.new ((HF.out.mono (fun _ _ e => e.elim)).trans' hf1 (fun i hi e => by have := (HO.out.lt i e).1; omega))); clear ho1 hf1 hs1 HF HO)
        go_roundw
        case rel =>
          refine ⟨j + 1, rs ++ [(j : Int)], by omega, by go_num, HR2, ?_, HF1⟩
          have := HO1.out
          exact this
        case measure => simp [intOf]; omega
      · have HR2 := hid (HR.out.no hlt hy)
        generalize xs[j] = x at *
        by_cases y1 : 0 < x
        · have y2 : ¬ x < per := fun e => hy ⟨y1, e⟩
          clear hy
          go_wp2
          go_roundw
          case rel => exact ⟨j + 1, rs, by omega, by go_num, HR2, HO, HF⟩
          case measure => simp [intOf]; omega
        · clear hy
          go_wp2
          go_roundw
          case rel => exact ⟨j + 1, rs, by omega, by go_num, HR2, HO, HF⟩
          case measure => simp [intOf]; omega
    · obtain rfl : j = xs.length := by omega
      obtain ⟨ra, rc, hrv⟩ := irow_shape HO.out
      subst hrv
      cases hrs : rs with
      | cons r0 rs0 =>
        have hpos : 0 < rs.length := by rw [hrs]; simp
        rw [← hrs]
        clear hrs
        obtain ⟨idx, hidx⟩ : ∃ idx, idx = k.toNat % rs.length := ⟨_, rfl⟩
        have hil : idx < rs.length := by rw [hidx]; exact Nat.mod_lt _ hpos
        have ht : Int.tmod k (rs.length : Int) = (idx : Int) := by
          rw [Int.tmod_eq_emod_of_nonneg hk, hidx, Int.natCast_emod, show ((k.toNat : Nat) : Int) = k by omega]
        clear hidx
        obtain ⟨gr, hra, _, _, hcr, _⟩ := irow_at HO.out idx hil
        subst hra
        obtain ⟨i, hi, hr, x0, x1⟩ := HR.out.1 rs[idx] (List.getElem_mem hil)
        rw [hr] at hcr
        clear hr
        have HG2 := hid (HG.out.on HF.out)
        have cB := HG2.out.cB
        obtain ⟨g, had, _, _, hcx, hfx⟩ := irow_at HG2.out.row i hi
        subst had
        have HP : Hid (Put per xs n i (xs.set i (xs[i] + 1)) n) := .inl ⟨hi, x0, x1, rfl, rfl⟩
        have HS := hid (HG2.out.set i hi (xs[i] + 1))
        have hne : (rs.length : Int) ≠ 0 := by omega
        generalize xs[i] = x at *
        generalize rs.length = rl at *
        go_wp2
        go_ret
        refine ⟨i, .slice (some ⟨g, 0, none⟩) (xs.set i (x + 1)).length cap, xs.set i (x + 1), n, by simp, HP.out, ?_, ?_, .inl rfl⟩
        · rw [set_same HS.out.1.at_]
          exact HS.out.1
        · exact (HF.out.mono fun _ _ e => e.elim).trans' HS.out.2 fun k _ e => .inr (.inr (by rw [e]; rfl))
      | nil =>
        subst hrs
        have hno := HR.out.2.2 rfl
        have HNO : Hid (∀ x ∈ xs, ¬ (0 < x ∧ x < per)) := fun x hx => by
          obtain ⟨i, hi, rfl⟩ := List.getElem_of_mem hx
          exact hno i hi hi
        clear hno
        have HG2 := hid (HG.out.on HF.out)
        have cB := HG2.out.cB
        have cD := HG2.out.cD
        have fD := HG2.out.fD
        have HN := hid (HG2.out.num (n + 1))
        have cB2 := HN.out.1.cB
        go_wp2
        clear cB cD fD cB2 HG2 HO HR
        have HF2 := hid ((HF.out.mono (S' := fun k => k = D) fun _ _ e => e.elim).trans' HN.out.2 (fun _ _ e => e))
        replace HN := hid HN.out.1
        clear HF HG
        generalize wr.setCell ⟨D, 0, none⟩ (.int .i64 (n + 1)) = w2 at *
        go_loopw [13, 14, 64] (fun _ _ i wr => ∃ j : Nat, j ≤ xs.length ∧ i = .int .i64 j ∧ Hid (∀ i (h : i < xs.length), i < j → xs[i] ≠ 0) ∧ wr = w2) (fun _ _ i _ => xs.length - (intOf i).toNat)
        case atStart => exact ⟨0, by omega, rfl, fun i _ hl => by omega, rfl⟩
        case round =>
          obtain ⟨j, hj, rfl, HZ, hwr⟩ := hrel
          obtain rfl := hwr.symm
          clear hwr
          by_cases hlt : j < xs.length
          · obtain ⟨g, had, _, _, hc, hf⟩ := irow_at HN.out.row j hlt
            subst had
            by_cases hz : xs[j] = 0
            · have HP : Hid (Put per xs n j (xs.set j 1) (n + 1)) := .inr ⟨HNO.out, rfl, .inl ⟨hlt, hz, rfl⟩⟩
              have HS := hid (HN.out.set j hlt 1)
              have cB := HN.out.cB
              rw [hz] at hc
              clear hz
              go_wp2
              go_ret
              refine ⟨j, .slice (some ⟨g, 0, none⟩) (xs.set j 1).length cap, xs.set j 1, n + 1, by simp, HP.out, ?_, ?_, .inl rfl⟩
              · rw [set_same HS.out.1.at_]
                exact HS.out.1
              · exact (HF2.out.mono fun _ _ e => .inr (.inl e)).trans' HS.out.2 fun k _ e => .inr (.inr (by rw [e]; rfl))
            · have HZ2 : Hid (∀ i (h : i < xs.length), i < j + 1 → xs[i] ≠ 0) := fun i h hl => by
                by_cases c : i = j
                · subst c; exact hz
                · exact HZ.out i h (by omega)
              have hzb : (xs[j] == 0) = false := by simpa using hz
              generalize xs[j] = x at *
              go_wp2
              go_roundw
              case rel => exact ⟨j + 1, by omega, by go_num, HZ2, trivial⟩
              case measure => simp [intOf]; omega
          · obtain rfl : j = xs.length := by omega
            have HP : Hid (Put per xs n xs.length (xs ++ [1]) (n + 1)) := .inr ⟨HNO.out, rfl, .inr ⟨fun x hx => by
              obtain ⟨i, hi, rfl⟩ := List.getElem_of_mem hx
              exact HZ.out i hi hi, rfl, rfl⟩⟩
            have cB := HN.out.cB
            have hle := HN.out.le
            have hBl := HN.out.ltB
            have hsz := HF2.out.size
            go_wp2_with (at_builtin; refine wpList_push 1 HN.out.row hle (by omega) rfl (.tmp 81) (.tmp 82) rfl rfl rfl ?_; intro g1 cap1 w3 ho1 hf1 hs1; have HS := hid (HN.out.store hf1 ho1 (by rcases hs1 with e | e; exact .inl e.symm; exact .inr ⟨g1, rfl, e⟩)); have HH := hid hs1; have cB3 := (World.cell?_of_block (a := ⟨B, o, none⟩) (hf1.block B hBl HN.out.n1)).trans cB; have fB3 := (World.frozen?_of_block (a := ⟨B, o, none⟩) (hf1.block B hBl HN.out.n1)).trans HN.out.fB; clear ho1 hf1 hs1)
            go_ret
            refine ⟨xs.length, .slice (some ⟨g1, 0, none⟩) (xs.length + 1) cap1, xs ++ [1], n + 1, by go_num, HP.out, HS.out.1, ?_, ?_⟩
            · exact (HF2.out.mono fun _ _ e => .inr (.inl e)).trans' HS.out.2 fun k _ e => by
                rcases e with e | e
                · exact .inl e
                · exact .inr (.inr e)
            · rcases HH.out with e | e
              · exact .inl e.symm
              · exact .inr ⟨g1, rfl, by omega⟩
end Go.Proofs.YtcfeeeloceeicaaDoor

