/-
  The document's view: its pieces; rows of bytes that a call makes.
  What the document's view answers, and leaves.
-/
import Derived.Test.YtcajdbklchjkkaaViMoves
import Derived.Test.YtcajdbklchjkkaaTaRef
import Derived.Test.YtcajdbklchjkkaaBld
namespace Go.Proofs.Ytcajdbklchjkkaa
open Go.RowKit
open An

theorem set_app {α : Type} {ts : List α} {i : Nat} (h : i < ts.length) (x R : α) : (ts ++ [R]).set i x = ts.set i x ++ [R] := List.set_append_left _ _ h
theorem ltAt {α : Type} {ts : List α} {i : Nat} {x : α} (h : ts[i]? = some x) : i < ts.length := (List.getElem?_eq_some_iff.1 h).1
/-- A row of bytes of the call's own. -/
def Rb (base : Nat) (y : Value) (ds : List UInt8) (w : World) (Z : Nat → Prop) : Prop := w.ownsRow base 5 1 y ds.length (bc ds) ∧ (∀ g, y.ownBlock = some g → Z g) ∧ ∀ i, Z i → i < w.heap.size
theorem Rb.good (base : Nat) (y : Value) (ds : List UInt8) : Good (Rb base y ds) :=
  ⟨fun h f hs => ⟨row_turn h.1 f fun x e => hs x (h.2.1 x e), h.2.1, fun i hi => Nat.lt_of_lt_of_le (h.2.2 i hi) f.size⟩, fun h h1 h2 => ⟨h.1, fun g e => h1 _ (h.2.1 g e), h2⟩⟩
section
variable {W w : World} {ts : List (World → (Nat → Prop) → Prop)} {r base q : Nat} {bs : List UInt8} {ss : List Sp} {T : Tb} {y : Value} {ds : List UInt8}
/-- Of things side by side one is a row of bytes: a string is put behind it. -/
theorem Things.appStr (h : Things W w ts) (j : Nat) (hj : ts[j]? = some (Rb W.heap.size y ds)) (s : ByteArray) (hs : 0 < s.size) (hn : ds.length + s.size ≤ 1000000) (ty : TypeId) :
    ∃ g cap w', (Builtin.append_ #[49, 9] ty #[y, .string s]).run Try.prog w = .ok (.slice (some ⟨g, 0, none⟩) (ds.length + s.size) cap) w' ∧ Things W w' (ts.set j (Rb W.heap.size (.slice (some ⟨g, 0, none⟩) (ds.length + s.size) cap) (ds ++ s.data.toList))) := by
  obtain ⟨U, h1, hU, h2⟩ := h.turn j hj
  obtain ⟨g, cap, w', hr, ho, hg, hw⟩ := run_app_str ty h1.1 s hs hn h.nw.le
  have f : Fr (fun i => y.ownBlock = some i) w w' := (Fr.refl _ w).grown hg fun k e => .inl e
  have hsz : s.size = s.data.toList.length := rfl
  have hlt : ∀ i, (U i ∨ i = g) → i < w'.heap.size := fun i hi => by
    rcases hi with hi | rfl
    · exact Nat.lt_of_lt_of_le (hU i hi).2 f.size
    · exact (ho.lt i rfl).2
  refine ⟨g, cap, w', hr, h2 _ w' (fun i => U i ∨ i = g) (Rb.good _ _ _) ⟨?_, fun x e => .inr (by simpa [Value.ownBlock] using e.symm), hlt⟩ ⟨fun _ => .inl, fun i hi => ?_, hlt, f.mono fun i _ e => h1.2.1 i e⟩⟩
  · rw [bc_append, List.length_append, ← hsz]
    exact ho
  · rcases hi with hi | rfl
    · exact .inl hi
    · rcases hw with e | e
      · exact .inl (h1.2.1 _ e)
      · exact .inr (by omega)
theorem Things.newBytes (h : Things W w ts) : Things W (w.alloc (.cells #[] 5)) (ts ++ [Rb W.heap.size (.slice (some ⟨w.heap.size, 0, none⟩) 0 0) []]) :=
  h.more (Rb.good _ _ _) (Z := fun i => i = w.heap.size) ⟨World.ownsRow_lit (e := 5) (base := W.heap.size) (size := 1) w #[] 0 h.nw.le (by simp [maxLen]) (by simp), fun g e => by simpa [Value.ownBlock] using e.symm, fun i hi => by simp only [World.size_alloc]; omega⟩ ((Fr.refl _ _).alloc _) fun i hi => by simp only [World.size_alloc]; omega
/-- A row of bytes as a text. -/
theorem Things.bytesText {g0 n0 c0 : Nat} (h : Things W w ts) (j : Nat) (hj : ts[j]? = some (Rb W.heap.size (.slice (some ⟨g0, 0, none⟩) n0 c0) ds)) : (convert 49 9 (.slice (some ⟨g0, 0, none⟩) n0 c0)).run Try.prog w = .ok (.string ⟨ds.toArray⟩) w := by
  obtain ⟨U, h1, _⟩ := h.get j hj
  rcases h1.1.2 with ⟨e1, e2⟩ | ⟨g, cap, cur, e1, hb, hc, h3, h4, h5, h6⟩
  · cases e1
  · simp only [Value.slice.injEq, Option.some.injEq, Addr.mk.injEq] at e1
    obtain ⟨⟨rfl, _, _⟩, rfl, rfl⟩ := e1
    have hcell : ∀ i, i < ds.length → w.cell? ⟨g0, i, none⟩ = some (.int .u8 ((ds.map fun x => (x.toNat : Int)).getD i 0)) := fun i hi => by
      have := h1.1.cells (g := g0) rfl i (.int .u8 (ds[i].toNat : Int)) (by simp [bc, hi])
      rw [add_plain, Nat.zero_add] at this
      rw [this]
      simp [List.getD, hi]
    have := run_convert_bytes_arg (P := Try.prog) w 49 5 Try.underlying49 Try.underlying5 g0 0 ds.length c0 (ds.map fun x => (x.toNat : Int)) (by simp) (by
      intro i hi
      rw [Nat.zero_add]
      exact hcell i hi) 9 Try.underlying9
    rw [this]
    simp [strOfNums, List.map_map, Function.comp_def]
theorem ra_read (h : Things W w ts) (i : Nat) (hi : ts[i]? = some (Am 51 r bs ss)) (p m : Nat) (hin : p + m ≤ bs.length) (hk : ss.length ≤ 1000000) : Calls Try.prog 50 #[.pointer (some ⟨r, 0, none⟩), .int .i64 p, .int .i64 m] w fun e w' => e = .returned (.tuple #[.string ⟨((bs.drop p).take m).toArray⟩, .int .i64 0]) ∧ Things W w' (ts.set i (Am 51 r bs (noted ss p m false))) :=
  h.lift i hi (Am.good _ _ _ _) fun _ ⟨_, _, _, h, h1, h2⟩ => (rread_ok h p m hin hk).mono fun _ _ ⟨he, hn⟩ => ⟨he, Am.noted h1 h2 hn⟩
theorem ra_write (h : Things W w ts) (i : Nat) (hi : ts[i]? = some (Am 51 r bs ss)) (p : Nat) (s : ByteArray) (hin : p + s.size ≤ bs.length) (hk : ss.length ≤ 1000000) : Calls Try.prog 51 #[.pointer (some ⟨r, 0, none⟩), .int .i64 p, .string s] w fun e w' => e = .returned (.int .i64 0) ∧ Things W w' (ts.set i (Am 51 r (over bs p s.data.toList) (noted ss p s.size true))) :=
  h.lift i hi (Am.good _ _ _ _) fun _ ⟨_, _, _, h, h1, h2⟩ => (rwrite_ok h p s hin hk).mono fun _ _ ⟨he, hn⟩ => ⟨he, Am.noted h1 h2 hn⟩
theorem ra_zero (h : Things W w ts) (i : Nat) (hi : ts[i]? = some (Am 51 r bs ss)) (p m : Nat) (hin : p + m ≤ bs.length) (hk : ss.length ≤ 1000000) : Calls Try.prog 52 #[.pointer (some ⟨r, 0, none⟩), .int .i64 p, .int .i64 m] w fun e w' => e = .returned (.int .i64 0) ∧ Things W w' (ts.set i (Am 51 r (over bs p (List.replicate m 0)) (noted ss p m true))) :=
  h.lift i hi (Am.good _ _ _ _) fun _ h1 => rm_zero h1 p m hin hk
/-- Its bytes. -/
theorem Things.arB (h : Things W w ts) (i : Nat) (hi : ts[i]? = some (Am 51 r bs ss)) : ∃ b, w.cell? ⟨r, 0, none⟩ = some (.slice (some ⟨b, 0, none⟩) bs.length bs.length) ∧ (convert 49 9 (.slice (some ⟨b, 0, none⟩) bs.length bs.length)).run Try.prog w = .ok (.string ⟨bs.toArray⟩) w := by
  obtain ⟨U, ⟨B, b, v, h, _⟩, _⟩ := h.get i hi
  refine ⟨b, h.c0, ?_⟩
  have := run_bytes_string (P := Try.prog) 49 5 9 Try.underlying49 Try.underlying5 Try.underlying9 h.by' 0 bs.length bs.length (by omega)
  simpa using this
end
end Go.Proofs.Ytcajdbklchjkkaa

namespace Go.Proofs.Ytcajdbklchjkkaa
open Go.RowKit
open An

/-- Bounds of pieces. -/
theorem pi_bounds {T : Tb} (ok : TbOk T) {x n : Int} (h : piE T x n = 0) : ∀ k (hk : k < (piL T x n).length), 0 ≤ (piL T x n)[k].1 ∧ (piL T x n)[k].1 ≤ 600000000 ∧ 1 ≤ (piL T x n)[k].2.1 ∧ (piL T x n)[k].2.1 ≤ 512 := fun k hk => by
  obtain ⟨h1, h2⟩ := piE_zero h
  have pk := pcs_ok (T := T) (a := x) (by have := h1.2.1; omega) n.toNat _ h2
  obtain ⟨a1, a2, a3, a4, a5⟩ := pk.all k hk
  have := (ok.f_range (x / 512 + k)).2
  omega
section
variable {W w : World} {ts : List (World → (Nat → Prop) → Prop)} {r base q : Nat} {bs : List UInt8} {ss : List Sp} {T : Tb}
set_option maxRecDepth 20000 in
set_option maxHeartbeats 2000000 in
theorem d_pieces (h : Things W w ts) (i j : Nat) (hi : ts[i]? = some (Am 51 r bs ss)) (hj : ts[j]? = some (Dt base q T)) (ok : TbOk T) (hbs : bs.length ≤ 2097152) {x n : Int} (hn : n ≤ 16384) : Calls Try.prog 49 #[.pointer (some ⟨r, 0, none⟩), .pointer (some ⟨q, 0, none⟩), .int .i64 x, .int .i64 n] w fun e w' => ∃ ad cap, e = .returned (.tuple #[.slice ad (vwL T bs.length x n).length cap, .int .i64 (vwE T bs.length x n)]) ∧ Things W w' (ts ++ [Sv ad (vwL T bs.length x n)]) := by
  have HP := hid (y_pieces h j hj ok (a := x) hn)
  have HI := hid hi
  clear h hj
  by_cases he : piE T x n = 0
  case neg =>
    obtain ⟨e4, eL⟩ := piE_not he
    have e1 : vwL T bs.length x n = [] := if_neg fun hv => he hv.1
    have e2 : vwE T bs.length x n = 4 := if_neg fun hv => he hv.1
    rw [e4] at HP
    rw [e1, e2]
    clear ok he e4 eL e1 e2 hi
    go_enter Try.func49, Try.ntmps49
    go_wp2_with fail
    refine HP.out.mono ?_
    rintro e w1 ⟨ad, cap, rfl, h1⟩
    have T1 := hid h1
    clear h1 HP
    go_wp2
    go_ret2
    exact ⟨none, 0, by simp, T1.out.less.moreSpans (SpAt.nil _ _) (fun _ _ e => by cases e) (Fr.refl _ _)⟩
  have HB := hid (pi_bounds ok he)
  have HE := hid he
  rw [he] at HP
  have HL := hid (piL_len (T := T) (a := x) (n := n) hn)
  clear ok he hi
  generalize hL : piL T x n = L at HP HB HL
  have hl16 : L.length ≤ 16384 := HL.out
  go_enter Try.func49, Try.ntmps49
  go_wp2_with fail
  refine HP.out.mono ?_
  rintro e w1 ⟨ad, cap, rfl, h1⟩
  have T1 := hid h1
  clear h1 HP
  go_wp2
  go_loopw [12] (fun i wr => ∃ k : Nat, k ≤ L.length ∧ i = .int .i64 k ∧ Hid (∀ m (hm : m < L.length), m < k → L[m].1 + L[m].2.1 ≤ bs.length) ∧ Hid (Things W wr (ts ++ [Sv ad L]))) (fun i _ => L.length - (intOf i).toNat)
  case atStart => exact ⟨0, by omega, rfl, fun m _ hm => by omega, T1⟩
  case round =>
    obtain ⟨k, hk, rfl, HK, T2⟩ := hrel
    clear T1
    by_cases hlt : k < L.length
    · have hlen : (ts ++ [Sv ad L])[ts.length]? = some (Sv ad L) := by simp
      obtain ⟨bb, off, rfl, hbb, hc1, hc2, hc3⟩ := (T2.out.kept (Fr.refl _ _).drew).sps ts.length hlen k hlt
      obtain ⟨b, c0, _⟩ := (T2.out.kept (Fr.refl _ _).drew).arB i (append_at HI.out)
      have hb := HB.out k hlt
      have HLK : Hid (L[k] = L[k]) := rfl
      have HNO : Hid (¬ L[k].1 + L[k].2.1 ≤ bs.length → ¬ InAr bs.length L) := fun hno hin => hno (hin _ (List.getElem_mem hlt))
      have HST : Hid (L[k].1 + L[k].2.1 ≤ bs.length → ∀ m (hm : m < L.length), m < k + 1 → L[m].1 + L[m].2.1 ≤ bs.length) := fun hyes m hm hmk => by
        by_cases e : m = k
        · subst e; exact hyes
        · exact HK.out m hm (by omega)
      have T3 := hid (T2.out.kept (Fr.refl _ _).drew)
      clear HLK hlen HK T2 HB
      generalize L[k] = s at *
      obtain ⟨s1, s2, s3⟩ := s
      simp only at hc1 hc2 hc3 hb HNO HST
      have r1 : IntKind.i64.wrap ((bs.length : Int) - s1) = bs.length - s1 := by rw [IntKind.wrap_i64]; omega
      by_cases g1 : (bs.length : Int) < s1
      · have E1 : Hid (vwL T bs.length x n = [] ∧ vwE T bs.length x n = 4) := by
          have hno : ¬ VwOk T bs.length x n := fun hv => by
            have := hv.2
            rw [hL] at this
            exact HNO.out (by omega) this
          exact ⟨if_neg hno, if_neg hno⟩
        have d1 : decide ((bs.length : Int) < s1) = true := decide_eq_true g1
        clear HST HNO
        go_wp2_with fail
        go_region
        go_wp2
        go_ret2
        refine ⟨none, 0, by rw [E1.out.1, E1.out.2]; simp, ?_⟩
        rw [E1.out.1]
        exact T3.out.less.moreSpans (SpAt.nil _ _) (fun _ _ e => by cases e) (Fr.refl _ _)
      have d1 : decide ((bs.length : Int) < s1) = false := decide_eq_false g1
      by_cases g2 : (bs.length : Int) - s1 < s2
      · have E1 : Hid (vwL T bs.length x n = [] ∧ vwE T bs.length x n = 4) := by
          have hno : ¬ VwOk T bs.length x n := fun hv => by
            have := hv.2
            rw [hL] at this
            exact HNO.out (by omega) this
          exact ⟨if_neg hno, if_neg hno⟩
        have d2 : decide ((bs.length : Int) - s1 < s2) = true := decide_eq_true g2
        clear HST HNO
        go_wp2_with fail
        go_region
        go_wp2
        go_ret2
        refine ⟨none, 0, by rw [E1.out.1, E1.out.2]; simp, ?_⟩
        rw [E1.out.1]
        exact T3.out.less.moreSpans (SpAt.nil _ _) (fun _ _ e => by cases e) (Fr.refl _ _)
      · have d2 : decide ((bs.length : Int) - s1 < s2) = false := decide_eq_false g2
        have HST2 := hid (HST.out (by omega))
        clear HST HNO
        go_wp2_with fail
        go_region
        go_wp2
        go_roundw
        case rel => exact ⟨k + 1, by omega, by go_num, HST2, T3⟩
        case measure => simp [intOf]; omega
    · obtain rfl : L.length = k := by omega
      have hv : VwOk T bs.length x n := ⟨HE.out, by
        rw [hL]
        intro s hs
        obtain ⟨m, hm, rfl⟩ := List.getElem_of_mem hs
        exact HK.out m hm hm⟩
      have E1 : Hid (vwL T bs.length x n = L ∧ vwE T bs.length x n = 0) := ⟨(if_pos hv).trans hL, if_pos hv⟩
      clear hv HB HK
      go_wp2
      go_ret2
      exact ⟨ad, cap, by rw [E1.out.1, E1.out.2]; simp, by rw [E1.out.1]; exact T2.out⟩
end
end Go.Proofs.Ytcajdbklchjkkaa
