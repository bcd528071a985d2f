/-
  What the view's 'find' does: the pieces, all of them within the arena, or an error.
  What the view's Zero and Write do, piece by piece.
  What the view's Write does, piece by piece.
  strings.Builder at this dump: a builder as a thing in memory; copyCheck, WriteString, String.
-/
import Derived.Test.YtioplfbkfokkfaaGreatDoorViOver
import Derived.Test.YtioplfbkfokkfaaGreatDoorTaCalls
import Derived.Test.YtioplfbkfokkfaaGreatDoorPaThing
import Derived.Test.YtioplfbkfokkfaaGreatDoorViIn
import Derived.Deep.RegionHeld3
import Derived.Test.YtioplfbkfokkfaaGreatDoorSeen
import Derived.Lib.Builder
import Derived.Lib.UnsafeStr
import Derived.Lib.AppendStr
import Derived.Laws.Externs
import Derived.LoopTactic
import Derived.RegionTactic
namespace Go.Proofs.YtioplfbkfokkfaaGreatDoor
open Go.RowKit
open An

theorem pi_bound {T : Tb} (ok : TbOk T) {x n : Int} {k : Nat} (hk : k < (piL T x n).length) : 0 ≤ (piL T x n)[k].1 ∧ (piL T x n)[k].1 ≤ 1000000000 ∧ 1 ≤ (piL T x n)[k].2.1 ∧ (piL T x n)[k].2.1 ≤ 512 := by
  by_cases h : piE T x n = 0
  · obtain ⟨h1, h2⟩ := piE_zero h
    obtain ⟨a1, a2, a3, a4, a5⟩ := (pcs_ok (T := T) (a := x) (by have := h1.2.1; omega) n.toNat _ h2).all k hk
    have := ok.f_range (x / 512 + k)
    omega
  · have := (piE_not h).2
    rw [this] at hk
    simp at hk
/-- The box of a variable that is captured. -/
def abx (a : Nat) : Obj := .cells #[.pointer (some ⟨a, 0, none⟩)] 46 (0, 0)
theorem abxc {w : World} {B a : Nat} (h : w.heap[B]? = some (abx a)) : w.cell? ⟨B, 0, none⟩ = some (.pointer (some ⟨a, 0, none⟩)) := by unfold abx at h; simp [World.cell?, h]
section
variable {w : World} {a t : Nat} {Z Y : Nat → Prop} {bs : List UInt8} {ss : List Sp} {T : Tb}
set_option maxRecDepth 20000 in
set_option maxHeartbeats 1000000 in
theorem f_one (h : Am 104 a bs ss w Z) {B : Nat} (hB : w.heap[B]? = some (abx a)) {p m : Int} (b : Bool) (hp : 0 ≤ p ∧ p ≤ 1000000000 ∧ 1 ≤ m ∧ m ≤ 512) : Calls Tryz.prog 125 #[.agg #[.int .i64 p, .int .i64 m, .bool b], .pointer (some ⟨B, 0, none⟩)] w fun e w' => e = .returned (.int .i64 (if p + m ≤ bs.length then 0 else 4)) ∧ Fr (fun _ => False) w w' := by
  have hB0 := (Array.getElem?_eq_some_iff.1 hB).1
  have H1 : Hid (∀ w1, Fr (fun _ => False) w w1 → Calls Tryz.prog 126 #[.pointer (some ⟨a, 0, none⟩)] w1 fun e w' => e = .returned (.int .i64 bs.length) ∧ w' = w1) := fun w1 f => am_size (h.kept f)
  have hle := h.le
  have hF : Fr (fun _ => False) w (w.alloc (.cells #[.int .i64 p, .int .i64 m, .bool b] 150)) := (Fr.refl _ _).alloc _
  have c0 := abxc ((hF.block B hB0 id).trans hB)
  have c1 : (w.alloc (.cells #[.int .i64 p, .int .i64 m, .bool b] 150)).cell? ⟨w.heap.size, 0, none⟩ = some (.int .i64 p) := by simp
  have c2 : (w.alloc (.cells #[.int .i64 p, .int .i64 m, .bool b] 150)).cell? ⟨w.heap.size, 1, none⟩ = some (.int .i64 m) := by simp
  have HF := hid hF
  have hw : IntKind.i64.wrap ((bs.length : Int) - p) = bs.length - p := by rw [IntKind.wrap_i64]; omega
  have hgt : decide (m > (bs.length : Int) - p) = !decide (p + m ≤ (bs.length : Int)) := by
    by_cases e : p + m ≤ (bs.length : Int)
    · simp [e]; omega
    · simp [e]; omega
  clear h hB hF hB0
  generalize hwa : w.alloc (.cells #[.int .i64 p, .int .i64 m, .bool b] 150) = wa at *
  generalize (bs.length : Int) = n at *
  by_cases hn : p + m ≤ n
  · rw [if_pos hn]
    rw [decide_eq_true hn] at hgt
    clear hn
    go_enter Tryz.func125, Tryz.ntmps125
    go_wp2_with fail
    go_region_held3 (fun w' => w'.cell? ⟨w.heap.size, 0, none⟩ = some (.int .i64 p) ∧ w'.cell? ⟨w.heap.size, 1, none⟩ = some (.int .i64 m) ∧ w'.cell? ⟨B, 0, none⟩ = some (.pointer (some ⟨a, 0, none⟩))) (first | go_keep | exact ⟨by assumption, by assumption, by assumption⟩) (first | (go_at_call 126; refine (H1.out _ HF.out.drew).mono ?_; rintro e w1 ⟨rfl, rfl⟩))
    go_wp2
    go_ret
    exact ⟨by simp, HF.out.drew⟩
  · rw [if_neg hn]
    rw [decide_eq_false hn] at hgt
    clear hn
    go_enter Tryz.func125, Tryz.ntmps125
    go_wp2_with fail
    go_region_held3 (fun w' => w'.cell? ⟨w.heap.size, 0, none⟩ = some (.int .i64 p) ∧ w'.cell? ⟨w.heap.size, 1, none⟩ = some (.int .i64 m) ∧ w'.cell? ⟨B, 0, none⟩ = some (.pointer (some ⟨a, 0, none⟩))) (first | go_keep | exact ⟨by assumption, by assumption, by assumption⟩) (first | (go_at_call 126; refine (H1.out _ HF.out.drew).mono ?_; rintro e w1 ⟨rfl, rfl⟩))
    go_wp2
    go_ret
    exact ⟨by simp, HF.out.drew⟩
theorem vw_yes {N : Nat} {x n : Int} (h1 : piE T x n = 0) (h2 : InAr N (piL T x n)) : vwL T N x n = piL T x n ∧ vwE T N x n = 0 := ⟨if_pos ⟨h1, h2⟩, if_pos ⟨h1, h2⟩⟩
theorem vw_no {N : Nat} {x n : Int} (h : ¬ VwOk T N x n) : vwL T N x n = [] ∧ vwE T N x n = 4 := ⟨if_neg h, if_neg h⟩
/-- All pieces are held against the arena's size. -/
theorem f_all (h : Am 104 a bs ss w Z) {B : Nat} (hB : w.heap[B]? = some (abx a)) (ok : TbOk T) {x n : Int} {ad : Option Addr} {cap : Nat} (hs : SpAt w ad (piL T x n)) (hc : (piL T x n).length ≤ cap) : Calls Tryz.prog 88 #[.slice ad (piL T x n).length cap, .func (.func 125) #[] #[.pointer (some ⟨B, 0, none⟩)]] w fun e w' => e = .returned (.int .i64 (if InAr bs.length (piL T x n) then 0 else 4)) ∧ Fr (fun _ => False) w w' := by
  refine (over_any (F := 125) (fun k w' => Fr (fun _ => False) w w' ∧ ∀ j (hj : j < (piL T x n).length), j < k → (piL T x n)[j].1 + (piL T x n)[j].2.1 ≤ bs.length) (fun j w' => Fr (fun _ => False) w w' ∧ j = 4 ∧ ¬ InAr bs.length (piL T x n)) (fun k w' hi => hs.fr hi.1) hc (enters_of Tryz.func125 (by kernel_rfl) rfl) (fun k w' hk hi => ?_) ⟨Fr.refl _ _, fun j _ h => by omega⟩).mono ?_
  · have hB0 := (Array.getElem?_eq_some_iff.1 hB).1
    refine (f_one (h.kept hi.1) ((hi.1.block B hB0 id).trans hB) _ (pi_bound ok hk)).mono ?_
    rintro e w2 ⟨rfl, f⟩
    refine ⟨_, rfl, fun e => ⟨hi.1.trans f, fun j hj hlt => ?_⟩, fun e => ⟨hi.1.trans f, ?_, fun hin => ?_⟩⟩
    · by_cases ej : j = k
      · subst ej
        by_cases e2 : (piL T x n)[j].1 + (piL T x n)[j].2.1 ≤ bs.length
        · exact e2
        · rw [if_neg e2] at e; omega
      · exact hi.2 j hj (by omega)
    · by_cases e2 : (piL T x n)[k].1 + (piL T x n)[k].2.1 ≤ bs.length
      · rw [if_pos e2] at e; exact (e rfl).elim
      · exact if_neg e2
    · rw [if_pos (hin _ (List.getElem_mem hk))] at e
      exact e rfl
  · rintro e w' ⟨j, rfl, h1, h2⟩
    by_cases hj : j = 0
    · subst hj
      obtain ⟨f, hall⟩ := h1 rfl
      have : InAr bs.length (piL T x n) := fun s hs => by
        obtain ⟨j, hj, rfl⟩ := List.getElem_of_mem hs
        exact hall j hj hj
      exact ⟨by rw [if_pos this], f⟩
    · obtain ⟨f, rfl, hno⟩ := h2 hj
      exact ⟨by rw [if_neg hno], f⟩
set_option maxRecDepth 20000 in
set_option maxHeartbeats 1000000 in
theorem v_find (h : Am 104 a bs ss w Z) (k : Tm t T w Y) (ok : TbOk T) {x n : Int} (hx : I64 x) (hn : I64 n) : Calls Tryz.prog 87 #[.pointer (some ⟨a, 0, none⟩), .pointer (some ⟨t, 0, none⟩), .int .i64 x, .int .i64 n] w fun e w' => ∃ ad cap, e = .returned (.tuple #[.slice ad (vwL T bs.length x n).length cap, .int .i64 (vwE T bs.length x n)]) ∧ SpAt w' ad (vwL T bs.length x n) ∧ (∀ b off, ad = some ⟨b, off, none⟩ → 0 < (vwL T bs.length x n).length → w.heap.size ≤ b) ∧ Fr (fun _ => False) w w' ∧ (vwL T bs.length x n).length ≤ cap := by
  have hF : Fr (fun _ => False) w (w.alloc (abx a)) := (Fr.refl _ _).alloc _
  have H1 := hid (c_pieces_c (k.kept hF) ok hx hn)
  have HB : Hid ((w.alloc (abx a)).heap[w.heap.size]? = some (abx a)) := heap_alloc_new _ _
  have HA := hid h
  have HK := hid ok
  have HF := hid hF
  clear h k ok hx hn hF
  go_enter Tryz.func87, Tryz.ntmps87
  go_wp2_with fail
  refine H1.out.mono ?_
  rintro e w1 ⟨ad, cap, rfl, hs, hb, f1, hc⟩
  have f2 := HF.out.trans f1
  have HA1 := hid (f_all (HA.out.kept f2) (B := w.heap.size) ((f1.block w.heap.size (by simp) id).trans HB.out) HK.out hs hc)
  have HS : Hid (SpAt w1 ad (piL T x n) ∧ (∀ b off, ad = some ⟨b, off, none⟩ → 0 < (piL T x n).length → w.heap.size ≤ b) ∧ Fr (fun _ => False) w w1 ∧ (piL T x n).length ≤ cap) := ⟨hs, fun b off e h0 => Nat.le_trans (by simp) (hb b off e h0), f2, hc⟩
  clear hs hb f1 hc f2 H1 HA HF HB HK
  by_cases h0 : piE T x n = 0
  case neg =>
    obtain ⟨e1, e2⟩ := piE_not h0
    obtain ⟨e3, e4⟩ := vw_no (T := T) (N := bs.length) (x := x) (n := n) fun h => h0 h.1
    rw [e1]
    have HE := hid (And.intro e3 e4)
    clear h0 e1 e2 e3 e4
    go_wp2
    go_ret2
    exact ⟨none, 0, by rw [HE.out.1, HE.out.2]; simp, by rw [HE.out.1]; exact SpAt.nil _ _, (fun b off e => by cases e), HS.out.2.2.1, by rw [HE.out.1]; simp⟩
  rw [h0]
  by_cases h1 : InAr bs.length (piL T x n)
  · obtain ⟨e3, e4⟩ := vw_yes h0 h1
    have HV := hid (And.intro e3 e4)
    rw [if_pos h1] at HA1
    clear h0 h1 e3 e4
    generalize piL T x n = L at *
    go_wp2_with fail
    refine HA1.out.mono ?_
    rintro e w2 ⟨rfl, f3⟩
    have HE : Hid (SpAt w2 ad L ∧ Fr (fun _ => False) w w2) := ⟨HS.out.1.fr f3, HS.out.2.2.1.trans f3⟩
    clear HA1 f3
    go_wp2
    go_ret2
    exact ⟨ad, cap, by rw [HV.out.1, HV.out.2]; simp, by rw [HV.out.1]; exact HE.out.1, by rw [HV.out.1]; exact HS.out.2.1, HE.out.2, by rw [HV.out.1]; exact HS.out.2.2.2⟩
  · obtain ⟨e3, e4⟩ := vw_no (T := T) (N := bs.length) (x := x) (n := n) fun h => h1 h.2
    have HV := hid (And.intro e3 e4)
    rw [if_neg h1] at HA1
    clear h0 h1 e3 e4
    generalize piL T x n = L at *
    go_wp2_with fail
    refine HA1.out.mono ?_
    rintro e w2 ⟨rfl, f3⟩
    have HE : Hid (Fr (fun _ => False) w w2) := HS.out.2.2.1.trans f3
    clear HA1 f3 HS
    go_wp2
    go_ret2
    exact ⟨none, 0, by rw [HV.out.1, HV.out.2]; simp, by rw [HV.out.1]; exact SpAt.nil _ _, (fun b off e => by cases e), HE.out, by rw [HV.out.1]; simp⟩
end
end Go.Proofs.YtioplfbkfokkfaaGreatDoor

namespace Go.Proofs.YtioplfbkfokkfaaGreatDoor
open Go.RowKit
open An

theorem noted_one {ss : List Sp} {p m : Int} (hm : 1 ≤ m) (b : Bool) : noted ss p m b = ss ++ [(p, m, b)] := if_pos (by omega)
/-- What lies in the box of a piece. -/
theorem spbx (w : World) (p m : Int) (b : Bool) : (w.alloc (.cells #[.int .i64 p, .int .i64 m, .bool b] 150)).cell? ⟨w.heap.size, 0, none⟩ = some (.int .i64 p) ∧ (w.alloc (.cells #[.int .i64 p, .int .i64 m, .bool b] 150)).cell? ⟨w.heap.size, 1, none⟩ = some (.int .i64 m) := ⟨by simp, by simp⟩
section
variable {W w w0 : World} {a t B j : Nat} {Z Y : Nat → Prop} {bs : List UInt8} {ss : List Sp} {T : Tb} {ts : List (World → (Nat → Prop) → Prop)}
/-- Where nothing is done. -/
theorem am_nothing {w' : World} (h : Am 104 a bs ss w Z) (f : Fr (fun _ => False) w w') : ∃ Z', Am 104 a bs ss w' Z' ∧ Gw w w' Z Z' := ⟨Z, h.kept f, Gw.same h.lt (f.mono fun _ _ e => e.elim)⟩
/-- An arena, all else that was there, the box of the variable, and the pieces. -/
theorem v_begin (h : Am 104 a bs ss w Z) {w' : World} {ad : Option Addr} {L : List Sq} (hs : SpAt w' ad L) (hb : ∀ b off, ad = some ⟨b, off, none⟩ → 0 < L.length → (w.alloc (abx a)).heap.size ≤ b) (f : Fr (fun _ => False) (w.alloc (abx a)) w') : Things (Bare w) w' [Am 104 a bs ss, Old w Z, Blk w.heap.size (abx a), Sv ad L] :=
  ((Things.begin (Am.good _ _ _ _) h h.lt).blk (abx a)).moreSpans hs hb f
end
end Go.Proofs.YtioplfbkfokkfaaGreatDoor

namespace Go.Proofs.YtioplfbkfokkfaaGreatDoor
open Go.RowKit
open An

/-- The box of the data that is left. -/
def dbx (s : ByteArray) : Obj := .cells #[.string s] 9 (0, 0)
theorem dbxc {w : World} {B : Nat} {s : ByteArray} (h : w.heap[B]? = some (dbx s)) : w.cell? ⟨B, 0, none⟩ = some (.string s) ∧ w.frozen? ⟨B, 0, none⟩ = false := by unfold dbx at h; simp [World.cell?, World.frozen?, h]
section
variable {W w w0 : World} {a t B D : Nat} {Z Y : Nat → Prop} {bs : List UInt8} {ss : List Sp} {T : Tb} {O : World → (Nat → Prop) → Prop} {ts : List (World → (Nat → Prop) → Prop)}
set_option maxRecDepth 20000 in
set_option maxHeartbeats 1000000 in
theorem w_one {s : ByteArray} (h : Things W w (Am 104 a bs ss :: O :: Blk B (abx a) :: Blk D (dbx s) :: ts)) {p m : Nat} (b : Bool) (hp : 1 ≤ m ∧ p + m ≤ bs.length) (hm : m ≤ s.size) (hk : ss.length ≤ 1000000) : Calls Tryz.prog 89 #[.agg #[.int .i64 p, .int .i64 m, .bool b], .pointer (some ⟨D, 0, none⟩), .pointer (some ⟨B, 0, none⟩)] w fun e w' => e = .returned (.int .i64 0) ∧ Things W w' (Am 104 a (over bs p (s.data.toList.take m)) (ss ++ [((p : Int), (m : Int), true)]) :: O :: Blk B (abx a) :: Blk D (dbx (s.extract m s.size)) :: ts) := by
  have hF : Fr (fun _ => False) w (w.alloc (.cells #[.int .i64 p, .int .i64 m, .bool b] 150)) := (Fr.refl _ _).alloc _
  have T0 := hid (h.kept hF)
  have c0 := abxc (T0.out.cells 2 rfl)
  obtain ⟨d0, d1⟩ := dbxc (T0.out.cells 3 rfl)
  obtain ⟨c1, c2⟩ := spbx w p m b
  have hD : D ≠ w.heap.size := fun e => by have := (Array.getElem?_eq_some_iff.1 (h.cells 3 rfl)).1; omega
  have T1 : Hid (Things W ((w.alloc (.cells #[.int .i64 p, .int .i64 m, .bool b] 150)).setCell ⟨D, 0, none⟩ (.string (s.extract m s.size))) (Am 104 a bs ss :: O :: Blk B (abx a) :: Blk D (dbx (s.extract m s.size)) :: ts)) := T0.out.setAt 3 rfl 0 _
  have e0 := abxc (T1.out.cells 2 rfl)
  have e1 := (World.cell?_of_block (((Fr.refl (fun i => i = D) (w.alloc (.cells #[.int .i64 p, .int .i64 m, .bool b] 150))).setCell (p := ⟨D, 0, none⟩) rfl (.string (s.extract m s.size))).block w.heap.size (by simp) fun e => hD e.symm)).trans c1
  have HC : Hid (∀ w1, Things W w1 (Am 104 a bs ss :: O :: Blk B (abx a) :: Blk D (dbx (s.extract m s.size)) :: ts) → Calls Tryz.prog 90 #[.pointer (some ⟨a, 0, none⟩), .int .i64 p, .string (s.extract 0 m)] w1 fun e w' => e = .returned (.int .i64 0) ∧ Things W w' (Am 104 a (over bs p (s.data.toList.take m)) (ss ++ [((p : Int), (m : Int), true)]) :: O :: Blk B (abx a) :: Blk D (dbx (s.extract m s.size)) :: ts)) := fun w1 h1 => h1.lift 0 rfl (Am.good _ _ _ _) fun U hU => by
    have hsz : (s.extract 0 m).size = m := by simp; omega
    have := am_write hU p (s.extract 0 m) (by rw [hsz]; exact hp.2) hk
    rw [hsz, noted_one (by omega), show (s.extract 0 m).data.toList = s.data.toList.take m by simp] at this
    exact this
  clear h hF hD T0 hp hk
  generalize hwa : w.alloc (.cells #[.int .i64 p, .int .i64 m, .bool b] 150) = wa at *
  go_enter Tryz.func89, Tryz.ntmps89
  go_wp2_with fail
  refine (HC.out _ T1.out).mono ?_
  rintro e w2 ⟨rfl, h2⟩
  have T2 := hid h2
  clear h2 HC T1 c0 c1 c2 d0 d1 e0 e1
  go_wp2
  go_ret
  exact ⟨by simp, T2.out⟩
theorem lenL_take {L : List Sq} {k : Nat} (hk : k < L.length) : lenL (L.take (k + 1)) = lenL (L.take k) + L[k].2.1.toNat := by
  rw [List.take_succ_eq_append_getElem hk, lenL_append]
  simp [lenL]
theorem lenL_le (L : List Sq) (k : Nat) : lenL (L.take k) ≤ lenL L := by
  have := lenL_append (L.take k) (L.drop k)
  rw [List.take_append_drop] at this
  omega
theorem w_all {ad : Option Addr} {cap : Nat} {L : List Sq} {s : ByteArray} (h : Things W w [Am 104 a bs ss, O, Blk B (abx a), Blk D (dbx s), Sv ad L]) (hap : Apt bs.length L) (hs : lenL L = s.size) (hk : ss.length + L.length ≤ 1000000) (hc : L.length ≤ cap) : Calls Tryz.prog 88 #[.slice ad L.length cap, .func (.func 89) #[] #[.pointer (some ⟨D, 0, none⟩), .pointer (some ⟨B, 0, none⟩)]] w fun e w' => e = .returned (.int .i64 0) ∧ ∃ X, Things W w' (Am 104 a (wrB bs L s.data.toList) (ss ++ tch L true) :: O :: X) := by
  refine (over_any (F := 89) (fun k w' => ∃ s' : ByteArray, s'.data.toList = s.data.toList.drop (lenL (L.take k)) ∧ Things W w' [Am 104 a (wrB bs (L.take k) s.data.toList) (ss ++ tch (L.take k) true), O, Blk B (abx a), Blk D (dbx s'), Sv ad L]) (fun _ _ => False) (fun k w' ⟨s', _, hi⟩ => hi.sps 4 rfl) hc (enters_of Tryz.func89 (by kernel_rfl) rfl) (fun k w' hk2 ⟨s', e1, hi⟩ => ?_) ⟨s, by simp [lenL], by simpa [wrB, tch] using h⟩).mono ?_
  · have hl := wrB_length (ds := s.data.toList) (hap.take k)
    obtain ⟨p1, p2, p3, p4⟩ := hap.at hk2
    have hle := lenL_le L (k + 1)
    rw [lenL_take hk2] at hle
    have hs1 : s'.size = s.size - lenL (L.take k) := by
      have := congrArg List.length e1
      rw [List.length_drop] at this
      exact this
    have H := w_one (ts := [Sv ad L]) hi (p := L[k].1.toNat) (m := L[k].2.1.toNat) L[k].2.2 (by rw [hl]; omega) (by omega) (by simp only [List.length_append, tch_length, List.length_take]; omega)
    rw [p2, p3] at H
    refine H.mono ?_
    rintro e w2 ⟨rfl, h2⟩
    rw [e1, ← wrB_snoc hk2, List.append_assoc, ← tch_snoc hk2] at h2
    refine ⟨0, rfl, fun _ => ⟨_, ?_, h2⟩, fun e => (e rfl).elim⟩
    rw [lenL_take hk2, ← List.drop_drop, ← e1]
    simp only [ByteArray.data_extract, Array.toList_extract, List.extract_eq_take_drop]
    exact List.take_of_length_le (by rw [List.length_drop]; exact Nat.le_refl _)
  · rintro e w' ⟨j, rfl, h1, h2⟩
    by_cases hj : j = 0
    · subst hj
      obtain ⟨s', _, this⟩ := h1 rfl
      rw [List.take_length] at this
      exact ⟨rfl, _, this⟩
    · exact (h2 hj).elim
theorem w_begin (h : Am 104 a bs ss w Z) (s : ByteArray) {w' : World} {ad : Option Addr} {L : List Sq} (hs : SpAt w' ad L) (hb : ∀ b off, ad = some ⟨b, off, none⟩ → 0 < L.length → ((w.alloc (abx a)).alloc (dbx s)).heap.size ≤ b) (f : Fr (fun _ => False) ((w.alloc (abx a)).alloc (dbx s)) w') : Things (Bare w) w' [Am 104 a bs ss, Old w Z, Blk w.heap.size (abx a), Blk (w.heap.size + 1) (dbx s), Sv ad L] := by
  have H := (((Things.begin (Am.good _ _ _ _) h h.lt).blk (abx a)).blk (dbx s)).moreSpans hs hb f
  rw [World.size_alloc] at H
  exact H
set_option maxRecDepth 20000 in
set_option maxHeartbeats 1000000 in
theorem v_write_w (h : Am 104 a bs ss w Z) (k : Tm t T w Y) (_hd : ∀ i, Z i → ¬ Y i) (ok : TbOk T) {x : Int} (hx : I64 x) (s : ByteArray) (hb : s.size ≤ 16384) (hk : ss.length ≤ 990000) : Calls Tryz.prog 47 #[.pointer (some ⟨a, 0, none⟩), .pointer (some ⟨t, 0, none⟩), .int .i64 x, .string s] w fun e w' => e = .returned (.int .i64 (vwE T bs.length x s.size)) ∧ ∃ Z', Am 104 a (vwB T bs x s.data.toList) (vwT T bs.length ss x s.size) w' Z' ∧ Gw w w' Z Z' := by
  have hF : Fr (fun _ => False) w ((w.alloc (abx a)).alloc (dbx s)) := ((Fr.refl _ _).alloc _).alloc _
  have H1 := hid (v_find (h.kept hF) (k.kept hF) ok hx (n := s.size) (by constructor <;> omega))
  have HA := hid h
  have HF := hid hF
  obtain ⟨v1, v2, _⟩ := vwL_facts (N := bs.length) (x := x) (n := s.size) ok (by omega)
  have HV := hid (And.intro v1 v2)
  have TT := (((Things.begin (Am.good _ _ _ _) h h.lt).blk (abx a)).blk (dbx s))
  have c0 := abxc (TT.cells 2 rfl)
  have c1 := (dbxc (TT.cells 3 rfl)).1
  rw [World.size_alloc] at c1
  have hsz : s.data.toList.length = s.size := rfl
  have HOK := hid ok
  clear h k ok hx hF v1 v2 TT
  by_cases hv : VwOk T bs.length x s.size
  · obtain ⟨e1, e2⟩ := vw_yes hv.1 hv.2
    have HL : Hid (lenL (piL T x s.size) = s.size) := (hv.apt HOK.out).2.1
    have E : Hid (vwE T bs.length x s.size = 0 ∧ vwB T bs x s.data.toList = wrB bs (piL T x s.size) s.data.toList ∧ vwT T bs.length ss x s.size = ss ++ tch (piL T x s.size) true) := ⟨e2, if_pos hv, if_pos hv⟩
    rw [e1] at HV
    rw [e1, e2] at H1
    clear hv e1 e2 HOK hsz
    rw [E.out.1, E.out.2.1, E.out.2.2]
    clear E
    generalize piL T x s.size = L at *
    go_enter Tryz.func47, Tryz.ntmps47
    go_wp2_with fail
    refine H1.out.mono ?_
    rintro e w1 ⟨ad, cap, rfl, hs, hb, f1, hc⟩
    have H2 := hid (w_all (w_begin HA.out s hs hb f1) HV.out.1 HL.out (by have := HV.out.2; omega) hc)
    clear hs hb f1 hc H1
    go_wp2_with fail
    refine H2.out.mono ?_
    rintro e w2 ⟨rfl, X, h2⟩
    have T2 := hid (h2.finish HA.out.lt)
    clear h2 H2
    go_wp2
    go_ret
    exact ⟨by simp, T2.out⟩
  · obtain ⟨e1, e2⟩ := vw_no hv
    have E : Hid (vwE T bs.length x s.size = 4 ∧ vwB T bs x s.data.toList = bs ∧ vwT T bs.length ss x s.size = ss) := ⟨e2, if_neg hv, if_neg hv⟩
    rw [e1, e2] at H1
    clear hv e1 e2 HV HOK hsz
    rw [E.out.1, E.out.2.1, E.out.2.2]
    clear E
    go_enter Tryz.func47, Tryz.ntmps47
    go_wp2_with fail
    refine H1.out.mono ?_
    rintro e w1 ⟨ad, cap, rfl, hs, hb, f1, hc⟩
    have T2 := hid (am_nothing HA.out (HF.out.trans f1))
    clear hs hb f1 hc H1
    go_wp2
    go_ret
    exact ⟨by simp, T2.out⟩
theorem v_write (h : Am 104 a bs ss w Z) (k : Tm t T w Y) (hd : ∀ i, Z i → ¬ Y i) (ok : TbOk T) {x : Int} (hx : I64 x) (s : ByteArray) (hb : s.size ≤ 16384) (hk : ss.length ≤ 900000) : Calls Tryz.prog 47 #[.pointer (some ⟨a, 0, none⟩), .pointer (some ⟨t, 0, none⟩), .int .i64 x, .string s] w fun e w' => e = .returned (.int .i64 (vwE T bs.length x s.size)) ∧ ∃ Z', Am 104 a (vwB T bs x s.data.toList) (vwT T bs.length ss x s.size) w' Z' ∧ Gw w w' Z Z' := v_write_w h k hd ok hx s hb (by omega)
end
end Go.Proofs.YtioplfbkfokkfaaGreatDoor

namespace Go.Proofs.YtioplfbkfokkfaaGreatDoor
open Go.RowKit

theorem Tryz.infoU8 : (Tryz.prog.info? 5).map (fun i => (i.zero, i.size, i.bytes)) = some (some (.int .u8 0), 1, 1) := by kernel_rfl
/-- 'append(b, s...)', s a string that isn't empty: where the row lies then. -/
theorem run_app_str {w : World} {base n : Nat} {v : Value} {xs : List Value} (ty : TypeId) (hown : w.ownsRow base 5 1 v n xs) (s : ByteArray) (hs : 0 < s.size) (hn : n + s.size ≤ 1000000) (hb : base ≤ w.heap.size) :
    ∃ g cap w', (Builtin.append_ #[101, 9] ty #[v, .string s]).run Tryz.prog w = .ok (.slice (some ⟨g, 0, none⟩) (n + s.size) cap) w' ∧ w'.ownsRow base 5 1 (.slice (some ⟨g, 0, none⟩) (n + s.size) cap) (n + s.size) (xs ++ bc s.data.toList) ∧ w.grownBy w' v.ownBlock ∧ (v.ownBlock = some g ∨ g = w.heap.size) := by
  obtain ⟨i0, hi, hz0, hz1, hz2⟩ := info_parts Tryz.infoU8
  obtain ⟨v', w', hr, ho, hgr, hnil⟩ := Lib.run_append_own_string (P := Tryz.prog) w base 101 9 ty 5 i0 Tryz.underlying101 Tryz.underlying9 hi hz0 hz1 hz2 v n xs hown s (by unfold maxLen; omega) (by omega) hb
  obtain ⟨g, cap, rfl⟩ : ∃ g cap, v' = .slice (some ⟨g, 0, none⟩) (n + s.size) cap := by
    rcases ho.2 with ⟨h0, h2⟩ | ⟨g, cap, _, h2, _⟩
    · omega
    · exact ⟨g, cap, h2⟩
  refine ⟨g, cap, w', hr, ho, hgr, ?_⟩
  rcases hown.2 with ⟨rfl, rfl⟩ | ⟨g', cap', cur, rfl, hbg, hg, hnc, hcm, hcs, htake⟩
  · have hr2 := run_append_nil_string (P := Tryz.prog) w 101 9 ty 5 i0 (.int .u8 0) Tryz.underlying101 Tryz.underlying9 hi hz0 s hs (by omega) (by rw [hz2]; omega)
    rw [hr] at hr2
    simp only [Result.ok.injEq, Value.slice.injEq, Option.some.injEq, Addr.mk.injEq] at hr2
    exact .inr hr2.1.1.1
  · by_cases hroom : n + s.size ≤ cap'
    · have hr2 := Lib.run_append_room_string (P := Tryz.prog) w 101 9 ty 5 i0 Tryz.underlying101 Tryz.underlying9 hi hz1 g' n cap' cur hg s hroom (by omega)
      rw [hr] at hr2
      simp only [Result.ok.injEq, Value.slice.injEq, Option.some.injEq, Addr.mk.injEq] at hr2
      exact .inl (by rw [hr2.1.1.1]; rfl)
    · have hr2 := Lib.run_append_grow_string (P := Tryz.prog) w 101 9 ty 5 i0 (.int .u8 0) Tryz.underlying101 Tryz.underlying9 hi hz0 ⟨g', 0, none⟩ n cap' xs (by rw [hz1]; exact hown.1) (hown.cells (g := g') rfl) s (by omega) (by omega) (by rw [hz2]; exact growslice_fits (by omega) (by omega))
      rw [hr] at hr2
      simp only [Result.ok.injEq, Value.slice.injEq, Option.some.injEq, Addr.mk.injEq] at hr2
      exact .inr hr2.1.1.1
/-- An append whose run is known. -/
theorem wpList_app {P : Program} {w w' : World} {ops : Array Oper} {rest : List Oper} {o : Oper} {a : Act} {Q : Exit → Act → World → Prop} (hgd : o.guard = none) (s x : Operand) (t u : TypeId) (ho : o.op = .call { callee := .builtin .append, args := #[s, x], argTypes := #[t, u] }) {y z v : Value} (hs : a.eval s = y) (hx : a.eval x = z)
    (hrun : (Builtin.append_ #[t, u] o.type #[y, z]).run P w = .ok v w') (h : wpList P ops Q rest (a.put o.dst v) w') : wpList P ops Q (o :: rest) a w := by
  refine wpList_plain hgd fun K hK => ?_
  unfold Oper.wp
  simp [execOp, ho, resolve, invoke, builtin, hs, hx, hrun, Result.andThen]
  exact hK _ _ h
/-- A builder in block b that holds the bytes l, and was never read: its own block and its row's are of Z. -/
def Bd (b : Nat) (l : List UInt8) (w : World) (Z : Nat → Prop) : Prop :=
  ∃ p v, (p = .pointer none ∨ p = .pointer (some ⟨b, 0, none⟩)) ∧ w.heap[b]? = some (.cells #[p, v] 155 (0, 0)) ∧ w.ownsRow 0 5 1 v l.length (bc l) ∧ v.ownBlock ≠ some b ∧ (l = [] → v = .slice none 0 0) ∧ (Z b ∧ ∀ y, v.ownBlock = some y → Z y) ∧ ∀ i, Z i → i < w.heap.size
theorem Bd.good (b : Nat) (l : List UInt8) : Good (Bd b l) :=
  ⟨fun ⟨p, v, hp, hb, ho, hne, h0, ⟨z1, z2⟩, hl⟩ f hs => ⟨p, v, hp, (f.block b (hl b z1) (hs b z1)).trans hb, row_turn ho f fun y e => hs y (z2 y e), hne, h0, ⟨z1, z2⟩, fun i hi => Nat.lt_of_lt_of_le (hl i hi) f.size⟩,
   fun ⟨p, v, hp, hb, ho, hne, h0, ⟨z1, z2⟩, _⟩ k1 k2 => ⟨p, v, hp, hb, ho, hne, h0, ⟨k1 b z1, fun y e => k1 y (z2 y e)⟩, k2⟩⟩
/-- A new one. -/
theorem Bd.new (w : World) : Bd w.heap.size [] (w.alloc (.cells #[.pointer none, .slice none 0 0] 155)) (fun i => i = w.heap.size) :=
  ⟨.pointer none, .slice none 0 0, .inl rfl, heap_alloc_new _ _, ⟨rfl, .inl ⟨rfl, rfl⟩⟩, by simp [Value.ownBlock], fun _ => rfl, ⟨rfl, fun y e => by simp [Value.ownBlock] at e⟩, fun i hi => by simp only [World.size_alloc]; omega⟩
theorem Tryz.infoBd : (Tryz.prog.info? 155).map (·.size) = some 2 := by kernel_rfl
theorem Tryz.liesBd : liesAt Tryz.prog Tryz.prog.depth 155 (2 / Tryz.prog.cellsOf 155) 0 155 1 = true := by kernel_rfl
set_option maxRecDepth 20000 in
theorem bl_used {w : World} {b : Nat} (h0 : w.cell? ⟨b, 0, none⟩ = some (.pointer (some ⟨b, 0, none⟩))) : Calls Tryz.prog 129 #[.pointer (some ⟨b, 0, none⟩)] w fun e w' => e = .returned (.tuple #[]) ∧ w' = w := by
  obtain ⟨j, hj, _⟩ := Option.map_eq_some_iff.1 Tryz.infoBd
  have hN := hid (Lib.run_neq_ptr_same (P := Tryz.prog) w (tp := 153) ⟨b, 0, none⟩ Tryz.underlying153 hj)
  clear hj
  go_enter Tryz.func129, Tryz.ntmps129
  go_wp2
  rw [hN.out]
  go_wp2
  go_end0
  exact ⟨rfl, rfl⟩
set_option maxRecDepth 20000 in
theorem bl_fresh {w : World} {b : Nat} (h0 : w.cell? ⟨b, 0, none⟩ = some (.pointer none)) (hsh : w.shape? b = some (155, 2)) (hfz : w.frozen? ⟨b, 0, none⟩ = false) : Calls Tryz.prog 129 #[.pointer (some ⟨b, 0, none⟩)] w fun e w' => e = .returned (.tuple #[]) ∧ w' = w.setCell ⟨b, 0, none⟩ (.pointer (some ⟨b, 0, none⟩)) := by
  obtain ⟨j, hj, hjs⟩ := Option.map_eq_some_iff.1 Tryz.infoBd
  have h1 := hid (Lib.run_to_unsafe (P := Tryz.prog) w ⟨b, 0, none⟩ Tryz.underlying153 Tryz.underlying229 hj (by rw [hjs]; decide) hsh (Nat.zero_lt_succ 1))
  have h2 := hid (Lib.run_from_unsafe (P := Tryz.prog) w ⟨b, 0, none⟩ Tryz.underlying229 Tryz.underlying153 hj hsh Tryz.liesBd)
  clear hj hjs
  go_enter Tryz.func129, Tryz.ntmps129
  go_wp2
  rw [h1.out]
  simp only [Result.andThen]
  rw [Oper.upon_value]
  go_wp2
  rw [run_callFunc_extern Tryz.func181 (by kernel_rfl) (by kernel_rfl) (by kernel_rfl) (e := Extern.AbiNoEscape.same) (by kernel_rfl)]
  rw [Lib.run_noEscape]
  simp only [Result.andThen]
  rw [Oper.upon_value]
  go_wp2
  rw [h2.out]
  simp only [Result.andThen]
  rw [Oper.upon_value]
  go_wp2
  go_end0
  exact ⟨rfl, rfl⟩
/-- copyCheck, of a builder: behind it its first cell is its own address. -/
theorem bl_check {w : World} {b : Nat} {p v : Value} (hp : p = .pointer none ∨ p = .pointer (some ⟨b, 0, none⟩)) (hb : w.heap[b]? = some (.cells #[p, v] 155 (0, 0))) : Calls Tryz.prog 129 #[.pointer (some ⟨b, 0, none⟩)] w fun e w' => e = .returned (.tuple #[]) ∧ w'.heap[b]? = some (.cells #[.pointer (some ⟨b, 0, none⟩), v] 155 (0, 0)) ∧ Fr (fun i => i = b) w w' := by
  have c0 : w.cell? ⟨b, 0, none⟩ = some p := by rw [Lib.cell_of_heap hb]; rfl
  rcases hp with rfl | rfl
  · refine (bl_fresh c0 (by simp [World.shape?, hb]) (Lib.frozen_of_heap hb 0)).mono ?_
    rintro e w' ⟨rfl, rfl⟩
    exact ⟨rfl, by simp [World.setCell, Array.getElem?_modify, hb], (Fr.refl (fun i => i = b) w).setCell (p := ⟨b, 0, none⟩) rfl _⟩
  · refine (bl_used c0).mono ?_
    rintro e w' ⟨rfl, rfl⟩
    exact ⟨rfl, hb, Fr.refl _ _⟩
set_option maxRecDepth 20000 in
set_option maxHeartbeats 1000000 in
theorem bl_write {w : World} {b : Nat} {l : List UInt8} {Z : Nat → Prop} (h : Bd b l w Z) (s : ByteArray) (hs : 0 < s.size) (hn : l.length + s.size ≤ 1000000) : Calls Tryz.prog 93 #[.pointer (some ⟨b, 0, none⟩), .string s] w fun e w' => e = .returned (.tuple #[.int .i64 s.size, .nilIface]) ∧ ∃ Z', Bd b (l ++ s.data.toList) w' Z' ∧ Gw w w' Z Z' := by
  obtain ⟨p, v, hp, hb, ho, hne, h0, ⟨z1, z2⟩, hl⟩ := h
  have H1 := hid (bl_check hp hb)
  have HK : Hid (∀ (w1 w2 : World) (g cap : Nat), Fr (fun i => i = b) w w1 → w1.heap[b]? = some (.cells #[.pointer (some ⟨b, 0, none⟩), v] 155 (0, 0)) → w2.ownsRow 0 5 1 (.slice (some ⟨g, 0, none⟩) (l.length + s.size) cap) (l.length + s.size) (bc l ++ bc s.data.toList) → w1.grownBy w2 v.ownBlock → (v.ownBlock = some g ∨ g = w1.heap.size) → w2.heap[b]? = some (.cells #[.pointer (some ⟨b, 0, none⟩), v] 155 (0, 0)) ∧ ∃ Z', Bd b (l ++ s.data.toList) (w2.setCell ⟨b, 1, none⟩ (.slice (some ⟨g, 0, none⟩) (l.length + s.size) cap)) Z' ∧ Gw w (w2.setCell ⟨b, 1, none⟩ (.slice (some ⟨g, 0, none⟩) (l.length + s.size) cap)) Z Z') := fun w1 w2 g cap f1 hb1 ho2 hg hw => by
    have hlb := hl b z1
    have hs1 := f1.size
    have hb2 : w2.heap[b]? = some (.cells #[.pointer (some ⟨b, 0, none⟩), v] 155 (0, 0)) := by
      rw [hg.block b (by omega) (fun e => hne e.symm)]
      exact hb1
    have f2 : Fr Z w w2 := (f1.mono fun i _ e => by subst e; exact z1).grown hg fun k e => .inl (z2 k e)
    have f3 : Fr Z w (w2.setCell ⟨b, 1, none⟩ (.slice (some ⟨g, 0, none⟩) (l.length + s.size) cap)) := f2.setCell z1 _
    have hgb : g ≠ b := fun e => by
      subst e
      rcases hw with e | e
      · exact hne e
      · omega
    have hsz : s.size = s.data.toList.length := rfl
    have hlt : ∀ i, (Z i ∨ i = g) → i < (w2.setCell ⟨b, 1, none⟩ (.slice (some ⟨g, 0, none⟩) (l.length + s.size) cap)).heap.size := fun i hi => by
      rcases hi with hi | rfl
      · exact Nat.lt_of_lt_of_le (hl i hi) f3.size
      · have := (ho2.lt i rfl).2
        simpa [World.setCell] using this
    refine ⟨hb2, fun i => Z i ∨ i = g, ⟨.pointer (some ⟨b, 0, none⟩), .slice (some ⟨g, 0, none⟩) (l.length + s.size) cap, .inr rfl, by simp [World.setCell, Array.getElem?_modify, hb2], ?_, by simp [Value.ownBlock, hgb], fun e => ?_, ⟨.inl z1, fun y e => .inr (by simpa [Value.ownBlock] using e.symm)⟩, hlt⟩, ⟨fun _ => .inl, fun i hi => ?_, hlt, f3⟩⟩
    · rw [bc_append, List.length_append, ← hsz]
      exact row_turn ho2 ((Fr.refl (fun i => i = b) w2).setCell (p := ⟨b, 1, none⟩) rfl _) fun y e => by simp [Value.ownBlock] at e; omega
    · have := congrArg List.length e
      simp only [List.length_append, List.length_nil] at this
      omega
    · rcases hi with hi | rfl
      · exact .inl hi
      · rcases hw with e | e
        · exact .inl (z2 _ e)
        · exact .inr (by omega)
  have HO := hid (And.intro ho (And.intro hne (hl b z1)))
  clear hp hb ho hne h0 z1 z2 hl
  go_enter Tryz.func93, Tryz.ntmps93
  go_wp2_with fail
  refine H1.out.mono ?_
  rintro e w1 ⟨rfl, hb1, f1⟩
  have c1 : w1.cell? ⟨b, 1, none⟩ = some v := by rw [Lib.cell_of_heap hb1]; rfl
  obtain ⟨g, cap, w2, hrun, ho2, hg2, hw2⟩ := run_app_str 101 (row_turn HO.out.1 f1 fun x e e2 => HO.out.2.1 (by rw [e, e2])) s hs hn (Nat.zero_le _)
  obtain ⟨hb2, HZ⟩ := HK.out w1 w2 g cap f1 hb1 ho2 hg2 hw2
  have HZZ := hid HZ
  have d1 : w2.cell? ⟨b, 1, none⟩ = some v := by rw [Lib.cell_of_heap hb2]; rfl
  have fz : w2.frozen? ⟨b, 1, none⟩ = false := Lib.frozen_of_heap hb2 1
  clear HK HO H1 hb1 f1 ho2 hg2 hw2 hb2 HZ
  go_wp2_with (at_builtin; refine wpList_app rfl (.tmp 12) (.tmp 13) _ _ rfl rfl rfl hrun ?_)
  clear hrun
  go_wp2
  go_ret2
  exact ⟨by simp, HZZ.out⟩
theorem Tryz.cellsU8 : Tryz.prog.cellsOf 5 = 1 := by kernel_rfl
theorem fr_freeze {S : Nat → Prop} {a w : World} (h : Fr S a w) (p : Addr) (hp : S p.block) (n : Nat) : Fr S a (w.freeze p n) := by
  unfold World.freeze
  split
  · exact h
  · refine ⟨h.os, h.tape, h.output, by have := h.size; simpa using this, fun i hi hn => ?_⟩
    rw [← h.block i hi hn]
    simp only [Array.getElem?_modify]
    have : ¬ p.block = i := fun e => hn (e ▸ hp)
    simp [this]
set_option maxRecDepth 20000 in
set_option maxHeartbeats 1000000 in
theorem bl_string {w : World} {b : Nat} {l : List UInt8} {Z : Nat → Prop} (h : Bd b l w Z) : Calls Tryz.prog 94 #[.pointer (some ⟨b, 0, none⟩)] w fun e w' => e = .returned (.string ⟨l.toArray⟩) ∧ Fr Z w w' := by
  obtain ⟨p, v, hp, hb, ho, hne, h0, ⟨z1, z2⟩, hl⟩ := h
  have c1 : w.drew.cell? ⟨b, 1, none⟩ = some v := by
    have : w.drew.heap[b]? = some (.cells #[p, v] 155 (0, 0)) := hb
    rw [Lib.cell_of_heap this]; rfl
  by_cases hl0 : l = []
  · obtain rfl := h0 hl0
    subst hl0
    have hUS : ∀ W : World, (Builtin.unsafeString_ #[196, 3] 9 #[.pointer none, .int .i64 0]).run Tryz.prog W = .ok (.string .empty) W := fun W => Lib.run_unsafeString_none W _ _ _ _
    have hSD : ∀ W : World, (Builtin.unsafeSliceData_ #[101] 196 #[.slice none 0 0]).run Tryz.prog W = .ok (.pointer none) W := fun W => rfl
    have HF : Hid (Fr Z w w.drew) := (Fr.refl _ _).drew
    clear hp hb ho hne h0 z1 z2 hl
    go_enter Tryz.func94, Tryz.ntmps94
    go_wp2
    go_region
    all_goals (go_wp2; go_ret; exact ⟨rfl, HF.out⟩)
  · obtain ⟨g, cap, cur, rfl, hbg, hg, hnc, hcm, hcs, htake⟩ : ∃ g cap cur, v = .slice (some ⟨g, 0, none⟩) l.length cap ∧ 0 ≤ g ∧ w.heap[g]? = some (.cells cur 5 (0, 0)) ∧ l.length ≤ cap ∧ cap ≤ maxLen ∧ cur.size = cap * 1 ∧ cur.toList.take (l.length * 1) = bc l := by
      rcases ho.2 with ⟨_, hz⟩ | ⟨g, cap, cur, hv, r⟩
      · exact absurd (List.eq_nil_of_length_eq_zero hz) hl0
      · exact ⟨g, cap, cur, hv, r⟩
    have hlen : l.length ≠ 0 := fun e => hl0 (List.eq_nil_of_length_eq_zero e)
    have hSD : ∀ W : World, (Builtin.unsafeSliceData_ #[101] 196 #[.slice (some ⟨g, 0, none⟩) l.length cap]).run Tryz.prog W = .ok (.pointer (some ⟨g, 0, none⟩)) W := fun W => Lib.run_unsafeSliceData_row _ _ _ _ _ _ (by omega)
    have hUS : (Builtin.unsafeString_ #[196, 3] 9 #[.pointer (some ⟨g, 0, none⟩), .int .i64 l.length]).run Tryz.prog w.drew = .ok (.string ⟨l.toArray⟩) (w.drew.freeze ⟨g, 0, none⟩ l.length) := by
      refine Lib.run_unsafeString_row w.drew 196 3 9 5 Tryz.underlying196 Tryz.cellsU8 g cur.size (by have hg' : w.drew.heap[g]? = some (.cells cur 5 (0, 0)) := hg; simp [World.shape?, hg']) l hl0 (by omega) (by unfold maxLen at hcm; omega) ?_
      intro j x hx
      exact ho.cells (g := g) rfl j (.int .u8 x.toNat) (by simp [bc, hx])
    have HF : Hid (Fr Z w (w.drew.freeze ⟨g, 0, none⟩ l.length)) := fr_freeze (Fr.refl _ _).drew ⟨g, 0, none⟩ (z2 g rfl) _
    clear hp hb ho hne h0 z1 z2 hl hbg hg hnc hcm hcs htake hl0 hlen
    go_enter Tryz.func94, Tryz.ntmps94
    go_wp2
    go_region
    all_goals (go_wp2; go_ret; exact ⟨rfl, HF.out⟩)
end Go.Proofs.YtioplfbkfokkfaaGreatDoor
