/-
  What the calls of the first of two heaps leave of things side by side.
  Local bytes, read and written page by page: mathematics. What each call of a view answers, and what it leaves.
  What the view's 'over' does: it goes from piece to piece, till one is refused.
  What the view's 'find' does: the pieces, all of them within the arena, or an error.
  What the view's Zero and Write do, piece by piece.
-/
import Derived.Test.YtihaifnenjngpaaGreatDoorHpMade2
import Derived.Test.YtihaifnenjngpaaGreatDoorTaPrg
import Derived.Test.YtihaifnenjngpaaGreatDoorChBase
import Derived.Test.YtihaifnenjngpaaGreatDoorSpRow
import Derived.Test.YtihaifnenjngpaaGreatDoorTaCalls
import Derived.Test.YtihaifnenjngpaaGreatDoorPaRefD
import Derived.Test.YtihaifnenjngpaaGreatDoorViIn
import Derived.Deep.RegionHeld3
namespace Go.Proofs.YtihaifnenjngpaaGreatDoor
open Go.RowKit
open An

section
variable {W w : World} {ts : List (World → (Nat → Prop) → Prop)} {a m k h t h' t' b : Nat} {M : Ms} {H H' : Hp}
theorem t_malloc (q : Things W w ts) (gr : G17 W) (j : Nat) (hj : ts[j]? = some (S2 a m k M h t H h' t' H')) (tw : Two k b M H H') (hb : b ≤ 890000) {n : Int} (hn : I64 n) : Calls Tryz.prog 26 #[.pointer (some ⟨h, 0, none⟩), .int .i64 n] w fun e w' => e = .returned (.tuple #[.int .i64 (hM k M H n).2.2.1, .int .i64 (hM k M H n).2.2.2]) ∧ Things W w' (ts.set j (S2 a m k (hM k M H n).1 h t (hM k M H n).2.1 h' t' H')) :=
  q.one gr j hj fun _ p u => y_malloc p (gr.fr q.nw.fr) u (tw.hc hb) hn
theorem t_free (q : Things W w ts) (gr : G17 W) (j : Nat) (hj : ts[j]? = some (S2 a m k M h t H h' t' H')) (tw : Two k b M H H') (hb : b ≤ 890000) {x kd s i E : Int} (hf : FindR x kd s i E) (hx : I64 x) : Calls Tryz.prog 35 #[.pointer (some ⟨h, 0, none⟩), .int .i64 x] w fun e w' => e = .returned (.int .i64 (hFr M H kd s i E).2.2) ∧ Things W w' (ts.set j (S2 a m k (hFr M H kd s i E).1 h t (hFr M H kd s i E).2.1 h' t' H')) :=
  q.one gr j hj fun _ p u => y_free p (gr.fr q.nw.fr) u (tw.hc hb) hf hx
theorem t_drop (q : Things W w ts) (gr : G17 W) (j : Nat) (hj : ts[j]? = some (S2 a m k M h t H h' t' H')) (tw : Two k b M H H') (hb : b ≤ 890000) : Calls Tryz.prog 40 #[.pointer (some ⟨h, 0, none⟩)] w fun e w' => e = .returned (.tuple #[]) ∧ Things W w' (ts.set j (S2 a m k (hDr M H).1 h t (hDr M H).2 h' t' H')) :=
  q.one gr j hj fun _ p u => y_drop p (gr.fr q.nw.fr) u (tw.hc hb)
theorem t_usable (q : Things W w ts) (gr : G17 W) (j : Nat) (hj : ts[j]? = some (S2 a m k M h t H h' t' H')) (tw : Two k b M H H') (hb : b ≤ 890000) {x kd s i E : Int} (hf : FindR x kd s i E) (hx : I64 x) : Calls Tryz.prog 27 #[.pointer (some ⟨h, 0, none⟩), .int .i64 x] w fun e w' => e = .returned (.tuple #[.int .i64 (hUs H kd s i E).1, .int .i64 (hUs H kd s i E).2]) ∧ Things W w' ts :=
  (q.asked j hj (R := fun _ e _ => e = .returned (.tuple #[.int .i64 (hUs H kd s i E).1, .int .i64 (hUs H kd s i E).2])) fun _ p => y_usable p (gr.fr q.nw.fr) (tw.hc hb) hf hx).mono fun _ _ ⟨h1, _, h3⟩ => ⟨h1, h3⟩
theorem t_pages (q : Things W w ts) (j : Nat) (hj : ts[j]? = some (S2 a m k M h t H h' t' H')) (tw : Two k b M H H') (hb : b ≤ 890000) : Calls Tryz.prog 14 #[.pointer (some ⟨h, 0, none⟩)] w fun e w' => e = .returned (.int .i64 H.T.length) ∧ Things W w' ts :=
  (q.asked j hj (R := fun _ e _ => e = .returned (.int .i64 H.T.length)) fun _ p => y_pages p (tw.hc hb)).mono fun _ _ ⟨h1, _, h3⟩ => ⟨h1, h3⟩
theorem t_table (q : Things W w ts) (j : Nat) (hj : ts[j]? = some (S2 a m k M h t H h' t' H')) : Calls Tryz.prog 17 #[.pointer (some ⟨h, 0, none⟩)] w fun e w' => e = .returned (.pointer (some ⟨t, 0, none⟩)) ∧ Things W w' ts :=
  (q.asked j hj (R := fun _ e _ => e = .returned (.pointer (some ⟨t, 0, none⟩))) fun _ p => y_table p).mono fun _ _ ⟨h1, _, h3⟩ => ⟨h1, h3⟩
theorem t_blocks (q : Things W w ts) (gr : G17 W) (j : Nat) (hj : ts[j]? = some (S2 a m k M h t H h' t' H')) (tw : Two k b M H H') (hb : b ≤ 890000) : Calls Tryz.prog 22 #[.pointer (some ⟨h, 0, none⟩)] w fun e w' => ∃ ad cap, e = .returned (.slice ad (hBl H.L).length cap) ∧ Things W w' (ts ++ [Lv ad (hBl H.L)]) := by
  refine (q.asked j hj (R := fun w e w' => ∃ ad cap, e = .returned (.slice ad (hBl H.L).length cap) ∧ NumsAt w' ad (hBl H.L) ∧ ∀ b off, ad = some ⟨b, off, none⟩ → 0 < (hBl H.L).length → w.heap.size ≤ b) fun _ p => (y_blocks p (gr.fr q.nw.fr) (tw.hc hb)).mono fun e w' ⟨ad, cap, a1, a2, a3, a4⟩ => ⟨⟨ad, cap, a1, a2, a3⟩, a4⟩).mono ?_
  rintro e w' ⟨⟨ad, cap, he, hn, hw⟩, hf, _⟩
  exact ⟨ad, cap, he, q.more (Lv.good _ _) (Lv.new hn) hf fun i ⟨⟨off, e⟩, h0⟩ => ⟨hw i off e h0, (Lv.new hn).2.2 i ⟨⟨off, e⟩, h0⟩⟩⟩
end
/-- What was made is right. -/
theorem two_new {n k : Nat} (hc : Cq.Cfg n k) {A B : List Int} (ha : A.length ≤ 17592186044416) (hb : B.length ≤ 17592186044416) : Two k 0 (mN n) (hN A) (hN B) := by
  have c1 := hc_new hc ha
  have c2 := hc_new hc hb
  exact ⟨c1.ok, c2.ok, c1.ms, c1.k1, c1.k2, by simp [mN], ha, hb, fun q ⟨v, hv⟩ => by cases hv⟩
end Go.Proofs.YtihaifnenjngpaaGreatDoor

namespace Go.Proofs.YtihaifnenjngpaaGreatDoor
open Go.RowKit
open An

/-- Does each piece lie within an arena of so many bytes? -/
abbrev InAr (N : Nat) (L : List Sq) : Prop := ∀ s ∈ L, s.1 + s.2.1 ≤ N
abbrev VwOk (T : Tb) (N : Nat) (a n : Int) : Prop := piE T a n = 0 ∧ InAr N (piL T a n)
def vwE (T : Tb) (N : Nat) (a n : Int) : Int := if VwOk T N a n then 0 else 4
/-- The bytes of pieces; bytes laid into pieces; noughts. -/
def rdB (bs : List UInt8) : List Sq → List UInt8
  | [] => []
  | s :: r => (bs.drop s.1.toNat).take s.2.1.toNat ++ rdB bs r
def wrB (bs : List UInt8) : List Sq → List UInt8 → List UInt8
  | [], _ => bs
  | s :: r, ds => wrB (over bs s.1.toNat (ds.take s.2.1.toNat)) r (ds.drop s.2.1.toNat)
def zrB (bs : List UInt8) : List Sq → List UInt8
  | [] => bs
  | s :: r => zrB (over bs s.1.toNat (List.replicate s.2.1.toNat 0)) r
def tch (L : List Sq) (wr : Bool) : List Sp := L.map fun s => (s.1, s.2.1, wr)
/-- Read. -/
def vrV (T : Tb) (bs : List UInt8) (a n : Int) : List UInt8 := if VwOk T bs.length a n then rdB bs (piL T a n) else []
def vrT (T : Tb) (N : Nat) (ss : List Sp) (a n : Int) : List Sp := if VwOk T N a n then ss ++ tch (piL T a n) false else ss
/-- Write. -/
def vwB (T : Tb) (bs : List UInt8) (a : Int) (ds : List UInt8) : List UInt8 := if VwOk T bs.length a ds.length then wrB bs (piL T a ds.length) ds else bs
def vwT (T : Tb) (N : Nat) (ss : List Sp) (a n : Int) : List Sp := if VwOk T N a n then ss ++ tch (piL T a n) true else ss
/-- Zero. -/
def vzB (T : Tb) (bs : List UInt8) (a n : Int) : List UInt8 := if VwOk T bs.length a n then zrB bs (piL T a n) else bs
/-- Copy. -/
abbrev VcOk (T : Tb) (N : Nat) (to fm n : Int) : Prop := VwOk T N to n ∧ VwOk T N fm n
def vcE (T : Tb) (N : Nat) (to fm n : Int) : Int := if VcOk T N to fm n then 0 else 4
def vcB (T : Tb) (bs : List UInt8) (to fm n : Int) : List UInt8 := if VcOk T bs.length to fm n then wrB bs (piL T to n) (rdB bs (piL T fm n)) else bs
def vcT (T : Tb) (N : Nat) (ss : List Sp) (to fm n : Int) : List Sp := if VcOk T N to fm n then ss ++ tch (piL T fm n) false ++ tch (piL T to n) true else ss
/-- Pieces that lie apart, within so many bytes. -/
structure Apt (N : Nat) (L : List Sq) : Prop where
  at_ : ∀ s ∈ L, 0 ≤ s.1 ∧ 1 ≤ s.2.1 ∧ s.1 + s.2.1 ≤ N
  apart : L.Pairwise fun s t => s.1 + s.2.1 ≤ t.1 ∨ t.1 + t.2.1 ≤ s.1
theorem Apt.tail {N : Nat} {s : Sq} {L : List Sq} (h : Apt N (s :: L)) : Apt N L := ⟨fun x hx => h.at_ x (List.mem_cons_of_mem _ hx), (List.pairwise_cons.1 h.apart).2⟩
theorem Apt.head {N : Nat} {s : Sq} {L : List Sq} (h : Apt N (s :: L)) : s.1.toNat + s.2.1.toNat ≤ N ∧ (s.1.toNat : Int) = s.1 ∧ (s.2.1.toNat : Int) = s.2.1 := by
  have := h.at_ s (List.mem_cons_self ..)
  omega
def lenL : List Sq → Nat
  | [] => 0
  | s :: r => s.2.1.toNat + lenL r
theorem rdB_length {bs : List UInt8} : ∀ {L : List Sq}, Apt bs.length L → (rdB bs L).length = lenL L
  | [], _ => rfl
  | s :: r, h => by
    have h1 := h.head
    simp only [rdB, lenL, List.length_append, List.length_take, List.length_drop, rdB_length h.tail]
    omega
theorem take_len {ds : List UInt8} {k : Nat} (h : k ≤ ds.length) : (ds.take k).length = k := by rw [List.length_take]; omega
theorem over1_length {bs ds : List UInt8} {s : Sq} {r : List Sq} (h : Apt bs.length (s :: r)) : (over bs s.1.toNat (ds.take s.2.1.toNat)).length = bs.length := over_length _ _ _ (by have := h.head; rw [List.length_take]; omega)
theorem wrB_length : ∀ {L : List Sq} {bs ds : List UInt8}, Apt bs.length L → (wrB bs L ds).length = bs.length
  | [], bs, ds, _ => rfl
  | s :: r, bs, ds, h => by
    have e := over1_length (ds := ds) h
    unfold wrB
    rw [wrB_length (by rw [e]; exact h.tail), e]
theorem zrB_length : ∀ {L : List Sq} {bs : List UInt8}, Apt bs.length L → (zrB bs L).length = bs.length
  | [], bs, _ => rfl
  | s :: r, bs, h => by
    have e : (over bs s.1.toNat (List.replicate s.2.1.toNat 0)).length = bs.length := over_length _ _ _ (by have := h.head; rw [List.length_replicate]; omega)
    unfold zrB
    rw [zrB_length (by rw [e]; exact h.tail), e]
/-- A byte that is in no piece stays. -/
theorem wrB_far : ∀ {L : List Sq} {bs ds : List UInt8}, Apt bs.length L → ∀ i : Nat, (∀ s ∈ L, (i : Int) < s.1 ∨ s.1 + s.2.1 ≤ i) → (wrB bs L ds)[i]? = bs[i]?
  | [], bs, ds, _, i, _ => rfl
  | s :: r, bs, ds, h, i, hi => by
    have e := over1_length (ds := ds) h
    have h1 := h.head
    have h2 := hi s (List.mem_cons_self ..)
    unfold wrB
    rw [wrB_far (by rw [e]; exact h.tail) i fun t ht => hi t (List.mem_cons_of_mem _ ht), over_get? _ _ _ (by rw [List.length_take]; omega)]
    by_cases h3 : i < s.1.toNat
    · rw [if_pos h3]
    · rw [if_neg h3, if_neg (by rw [List.length_take]; omega)]
theorem rd1_ext {bs cs : List UInt8} {p m : Nat} (h : ∀ i, p ≤ i → i < p + m → bs[i]? = cs[i]?) : (bs.drop p).take m = (cs.drop p).take m := by
  apply List.ext_getElem?
  intro i
  by_cases hi : i < m
  · rw [List.getElem?_take_of_lt hi, List.getElem?_take_of_lt hi, List.getElem?_drop, List.getElem?_drop]
    exact h _ (by omega) (by omega)
  · rw [List.getElem?_eq_none (by simp; omega), List.getElem?_eq_none (by simp; omega)]
theorem rd1_same {bs ds : List UInt8} {p : Nat} (h : p + ds.length ≤ bs.length) : ((over bs p ds).drop p).take ds.length = ds := by
  apply List.ext_getElem?
  intro i
  by_cases hi : i < ds.length
  · rw [List.getElem?_take_of_lt hi, List.getElem?_drop, over_get? _ _ _ h, if_neg (by omega), if_pos (by omega), show p + i - p = i by omega]
  · rw [List.getElem?_eq_none (by simp; omega), List.getElem?_eq_none (by omega)]
/-- What is laid into pieces is read there. -/
theorem rd_wr : ∀ {L : List Sq} {bs ds : List UInt8}, Apt bs.length L → ds.length = lenL L → rdB (wrB bs L ds) L = ds
  | [], bs, ds, _, hl => by
    have : ds = [] := List.eq_nil_of_length_eq_zero hl
    rw [this]; rfl
  | s :: r, bs, ds, h, hl => by
    have e := over1_length (ds := ds) h
    have h1 := h.head
    have hl' : ds.length = s.2.1.toNat + lenL r := hl
    have ht : (ds.take s.2.1.toNat).length = s.2.1.toNat := take_len (by omega)
    have ih := rd_wr (L := r) (bs := over bs s.1.toNat (ds.take s.2.1.toNat)) (ds := ds.drop s.2.1.toNat) (by rw [e]; exact h.tail) (by rw [List.length_drop]; omega)
    show ((wrB bs (s :: r) ds).drop s.1.toNat).take s.2.1.toNat ++ rdB (wrB bs (s :: r) ds) r = ds
    have hw : wrB bs (s :: r) ds = wrB (over bs s.1.toNat (ds.take s.2.1.toNat)) r (ds.drop s.2.1.toNat) := rfl
    rw [hw, ih, rd1_ext (cs := over bs s.1.toNat (ds.take s.2.1.toNat)) fun i i1 i2 => wrB_far (by rw [e]; exact h.tail) i fun t ht => ?_]
    · have := rd1_same (bs := bs) (ds := ds.take s.2.1.toNat) (p := s.1.toNat) (by omega)
      rw [ht] at this
      rw [this, List.take_append_drop]
    · have h3 := (List.pairwise_cons.1 h.apart).1 t ht
      omega
/-- A view's pieces. -/
theorem VwOk.apt {T : Tb} {N : Nat} {a n : Int} (ok : TbOk T) (h : VwOk T N a n) : Apt N (piL T a n) ∧ lenL (piL T a n) = n.toNat ∧ (piL T a n).length ≤ n.toNat / 512 + 2 ∧ ∀ s ∈ piL T a n, ¬ tbH T (s.1 / 512) < 0 ∧ s.1 % 512 + s.2.1 ≤ 512 := by
  obtain ⟨h1, h2⟩ := piE_zero h.1
  have pk := pcs_ok (T := T) (a := a) (by have := h1.2.1; omega) n.toNat _ h2
  have har := h.2
  generalize piL T a n = L at *
  refine ⟨⟨fun s hs => ?_, ?_⟩, ?_, ?_, fun s hs => ?_⟩
  · obtain ⟨j, hj, rfl⟩ := List.getElem_of_mem hs
    obtain ⟨a1, a2, _⟩ := pk.all j hj
    exact ⟨a1, a2, har _ hs⟩
  · rw [List.pairwise_iff_getElem]
    intro i j hi hj hij
    obtain ⟨a1, a2, a3, _⟩ := pk.all i hi
    obtain ⟨b1, b2, b3, _⟩ := pk.all j hj
    have hne : L[i].1 / 512 ≠ L[j].1 / 512 := fun e => by have := pk.apart ok hi hj e; omega
    omega
  · have hs := pk.sum
    have hall : ∀ s ∈ L, 0 ≤ s.2.1 := fun s hs => by
      obtain ⟨j, hj, rfl⟩ := List.getElem_of_mem hs
      have := (pk.all j hj).2.1
      omega
    have key : ∀ M : List Sq, (∀ s ∈ M, 0 ≤ s.2.1) → (M.map fun s => s.2.1).sum = (lenL M : Int) := by
      intro M
      induction M with
      | nil => intro _; rfl
      | cons s r ih =>
        intro hM
        have h0 := hM s (List.mem_cons_self ..)
        simp only [List.map_cons, List.sum_cons, lenL, ih fun t ht => hM t (List.mem_cons_of_mem _ ht)]
        omega
    rw [key L hall] at hs
    omega
  · rcases pk.last with ⟨_, rfl⟩ | ⟨L0, s, rfl, h3, h4⟩
    · simp
    · have hb := (pk.all L0.length (by simp)).2.1
      have hc := (pk.all L0.length (by simp)).1
      simp only [List.getElem_concat_length] at hb hc
      rw [List.length_append, List.length_singleton]
      omega
  · obtain ⟨j, hj, rfl⟩ := List.getElem_of_mem hs
    exact ⟨pk.held ok hj, (pk.all j hj).2.2.1⟩
theorem VwOk.len {T : Tb} {N : Nat} {a n : Int} (h : VwOk T N a n) : 0 ≤ n := (piE_zero h.1).1.1
theorem vwB_length {T : Tb} (ok : TbOk T) (bs : List UInt8) (a : Int) (ds : List UInt8) : (vwB T bs a ds).length = bs.length := by
  unfold vwB
  split
  · rename_i h; exact wrB_length (h.apt ok).1
  · rfl
theorem vzB_length {T : Tb} (ok : TbOk T) (bs : List UInt8) (a n : Int) : (vzB T bs a n).length = bs.length := by
  unfold vzB
  split
  · rename_i h; exact zrB_length (h.apt ok).1
  · rfl
theorem vcB_length {T : Tb} (ok : TbOk T) (bs : List UInt8) (to fm n : Int) : (vcB T bs to fm n).length = bs.length := by
  unfold vcB
  split
  · rename_i h; exact wrB_length (h.1.apt ok).1
  · rfl
theorem tch_length (L : List Sq) (b : Bool) : (tch L b).length = L.length := by simp [tch]
/-- The pieces of a view. -/
def vwL (T : Tb) (N : Nat) (x n : Int) : List Sq := if VwOk T N x n then piL T x n else []
/-- Pieces of a view. -/
theorem vwL_facts {T : Tb} (ok : TbOk T) {N : Nat} {x n : Int} (hn : n ≤ 16384) : Apt N (vwL T N x n) ∧ (vwL T N x n).length ≤ 34 ∧ lenL (vwL T N x n) ≤ 16384 := by
  unfold vwL
  split
  · rename_i h
    obtain ⟨a1, a2, a3, _⟩ := h.apt ok
    exact ⟨a1, by omega, by omega⟩
  · exact ⟨⟨fun s hs => by simp at hs, .nil⟩, by simp, by simp [lenL]⟩
theorem lenL_append : ∀ L M : List Sq, lenL (L ++ M) = lenL L + lenL M
  | [], M => by simp [lenL]
  | s :: r, M => by simp only [List.cons_append, lenL, lenL_append r M]; omega
theorem tch_snoc {L : List Sq} {k : Nat} (hk : k < L.length) (b : Bool) : tch (L.take (k + 1)) b = tch (L.take k) b ++ [(L[k].1, L[k].2.1, b)] := by
  unfold tch
  rw [List.take_succ_eq_append_getElem hk, List.map_append]
  rfl
theorem rdB_snoc (bs : List UInt8) {L : List Sq} {k : Nat} (hk : k < L.length) : rdB bs (L.take (k + 1)) = rdB bs (L.take k) ++ (bs.drop L[k].1.toNat).take L[k].2.1.toNat := by
  rw [List.take_succ_eq_append_getElem hk]
  generalize L.take k = M
  induction M with
  | nil => simp [rdB]
  | cons s r ih => simp only [List.cons_append, rdB, ih, List.append_assoc]
theorem Apt.at {N : Nat} {L : List Sq} (h : Apt N L) {k : Nat} (hk : k < L.length) : L[k].1.toNat + L[k].2.1.toNat ≤ N ∧ (L[k].1.toNat : Int) = L[k].1 ∧ (L[k].2.1.toNat : Int) = L[k].2.1 ∧ 0 < L[k].2.1.toNat := by
  have := h.at_ L[k] (List.getElem_mem hk)
  omega
theorem zrB_snoc {L : List Sq} {k : Nat} (hk : k < L.length) (bs : List UInt8) : zrB bs (L.take (k + 1)) = over (zrB bs (L.take k)) L[k].1.toNat (List.replicate L[k].2.1.toNat 0) := by
  rw [List.take_succ_eq_append_getElem hk]
  generalize L.take k = M
  induction M generalizing bs with
  | nil => simp [zrB]
  | cons s r ih => simp only [List.cons_append, zrB, ih]
theorem wrB_snoc {L : List Sq} {k : Nat} (hk : k < L.length) (bs ds : List UInt8) : wrB bs (L.take (k + 1)) ds = over (wrB bs (L.take k) ds) L[k].1.toNat ((ds.drop (lenL (L.take k))).take L[k].2.1.toNat) := by
  rw [List.take_succ_eq_append_getElem hk]
  generalize L.take k = M
  induction M generalizing bs ds with
  | nil => simp [wrB, lenL]
  | cons s r ih => simp only [List.cons_append, wrB, ih, lenL, List.drop_drop]
theorem Apt.take {N : Nat} {L : List Sq} (h : Apt N L) (k : Nat) : Apt N (L.take k) := ⟨fun s hs => h.at_ s (List.mem_of_mem_take hs), h.apart.sublist (List.take_sublist _ _)⟩
end Go.Proofs.YtihaifnenjngpaaGreatDoor

namespace Go.Proofs.YtihaifnenjngpaaGreatDoor
open Go.RowKit

/-- Where the pieces from the k-th on lie. -/
def adv (ad : Option Addr) (k : Nat) : Option Addr := ad.map fun p => ⟨p.block, p.off + k * 3, p.spot⟩
theorem adv_zero (ad : Option Addr) : adv ad 0 = ad := by cases ad <;> simp [adv]
def vi_lenV : Value → Nat
  | .slice _ n _ => n
  | _ => 0
/-- What a label at the scope's beginning asks. -/
theorem vi_scope_back {P : Program} {Q : Exit → Act → World → Prop} {a : Act} {w : World} {c rest : Code} (l : Nat) (J : Act → World → Prop) (μ : Act → World → Nat) (hf : findLabel c l = some (Code.skip.seq rest))
    (pre : ∀ R : Exit → Act → World → Prop, (∀ a w, J a w → rest.wp P R a w) → c.wp P R a w)
    (pass : ∀ a w, J a w → rest.wp P (Exit.jump l (fun a' w' => J a' w' ∧ μ a' w' < μ a w) Q) a w) : (Code.scope c).wp P Q a w :=
  wp_scope_jumps l J μ hf (pre _ fun a w h => Code.wp_mono (fun e a w he => by
    cases e with
    | goto l' => exact ⟨he.1, he.2.1⟩
    | _ => exact he) (pass a w h)) fun a w h => wp_seq (wp_skip (pass a w h))
set_option maxRecDepth 20000 in
set_option maxHeartbeats 1000000 in
theorem over_any {F : FuncId} {cv : Array Value} {ad : Option Addr} {cap : Nat} {L : List Sq} (I : Nat → World → Prop) (Q : Int → World → Prop) (hsp : ∀ k w, I k w → SpAt w ad L) (hcap : L.length ≤ cap) (hF : ∀ args w, (callFunc F args).run Tryz.prog w = .ok (.enter F args) w)
    (hst : ∀ k w (hk : k < L.length), I k w → Calls Tryz.prog F (#[.agg #[.int .i64 L[k].1, .int .i64 L[k].2.1, .bool L[k].2.2]] ++ cv) w fun e w' => ∃ j, e = .returned (.int .i64 j) ∧ (j = 0 → I (k + 1) w') ∧ (j ≠ 0 → Q j w')) {w : World} (h0 : I 0 w) :
    Calls Tryz.prog 78 #[.slice ad L.length cap, .func (.func F) #[] cv] w fun e w' => ∃ j, e = .returned (.int .i64 j) ∧ (j = 0 → I L.length w') ∧ (j ≠ 0 → Q j w') := by
  have H0 := hid h0
  have HS : Hid (∀ k w, I k w → SpAt w ad L) := hsp
  have HT := hid hst
  clear h0 hsp hst
  go_enter Tryz.func78, Tryz.ntmps78
  go_wp2
  refine vi_scope_back 0 (fun a' w' => ∃ (k c : Nat) (ax : Option Addr) (u2 u3 u4 u5 u6 u7 u8 u9 u10 u11 u12 u13 u14 u15 u16 u17 u18 : Value), Hid (I k w') ∧ k ≤ L.length ∧ (L.length ≤ k + c ∧ (k < L.length → ax = adv ad k)) ∧ a' = { tmps := #[.slice ax (L.length - k) c, .func (.func F) #[] cv, u2, u3, u4, u5, u6, u7, u8, u9, u10, u11, u12, u13, u14, u15, u16, u17, u18], defers := [] }) (fun a' _ => vi_lenV (a'.tmps.getD 0 undef)) rfl ?pre ?pass
  case pre =>
    intro R hK
    go_wp2
    go_step3
    rename_i K hKK
    exact hKK _ _ (hK _ _ ⟨0, cap, ad, _, _, _, _, _, _, _, _, _, _, _, _, _, _, _, _, _, H0, Nat.zero_le _, ⟨by omega, fun _ => (adv_zero ad).symm⟩, rfl⟩)
  case pass =>
    rintro a' wr ⟨k, c, ax, u2, u3, u4, u5, u6, u7, u8, u9, u10, u11, u12, u13, u14, u15, u16, u17, u18, HI, hk, ⟨hc, hax⟩, rfl⟩
    clear H0
    by_cases hlt : k < L.length
    · obtain ⟨b, off, rfl, _, p1, p2, p3⟩ := HS.out k wr HI.out k hlt
      have H1 := hid (HT.out k wr hlt HI.out)
      obtain ⟨m, hm⟩ : ∃ m, L.length - k = m + 1 := ⟨L.length - k - 1, by omega⟩
      have HM := hid hm
      rw [hm]
      obtain rfl := hax hlt
      have HC : Hid (L.length ≤ k + c) := hc
      simp only [adv, Option.map_some]
      clear hm HI hax hc hcap
      generalize L[k] = s at *
      obtain ⟨s1, s2, s3⟩ := s
      simp only at p1 p2 p3
      go_wp2_with fail
      refine H1.out.mono ?_
      rintro e w2 ⟨j, rfl, h1, h2⟩
      clear H1 HT p1 p2 p3
      by_cases hj : j = 0
      · subst hj
        have HN := hid (h1 rfl)
        clear h1 h2
        have HE : Hid (L.length - (k + 1) = m ∧ off + (k + 1) * 3 = off + k * 3 + 3 ∧ k + 1 ≤ L.length) := ⟨by have := HM.out; omega, by omega, by omega⟩
        by_cases hc1 : c = 1
        · subst hc1
          go_wp2
          go_step3
          exact ⟨rfl, ⟨k + 1, 0, _, _, _, _, _, _, _, _, _, _, _, _, _, _, _, _, _, _, HN, HE.out.2.2, ⟨by have := HC.out; omega, fun h => by have := HC.out; omega⟩, by rw [HE.out.1]⟩, by simp [vi_lenV]⟩
        · have hc2 : (c == 1) = false := by simp [hc1]
          go_wp2
          go_step3
          exact ⟨rfl, ⟨k + 1, c - 1, _, _, _, _, _, _, _, _, _, _, _, _, _, _, _, _, _, _, HN, HE.out.2.2, ⟨by have := HC.out; omega, fun _ => by rw [HE.out.2.1]⟩, by rw [HE.out.1]⟩, by simp [vi_lenV]⟩
      · have HN := hid (h2 hj)
        have HJ := hid hj
        clear h1 h2
        go_wp2
        rw [jump_ret]
        go_ret
        exact ⟨j, by simp, fun e => (HJ.out e).elim, fun _ => HN.out⟩
    · obtain rfl : k = L.length := by omega
      rw [Nat.sub_self]
      go_wp2
      rw [jump_ret]
      go_ret
      exact ⟨0, by simp, fun _ => HI.out, fun e => (e rfl).elim⟩
end Go.Proofs.YtihaifnenjngpaaGreatDoor

namespace Go.Proofs.YtihaifnenjngpaaGreatDoor
open Go.RowKit
open An

theorem pi_bound {T : Tb} (ok : TbOk T) {x n : Int} {k : Nat} (hk : k < (piL T x n).length) : 0 ≤ (piL T x n)[k].1 ∧ (piL T x n)[k].1 ≤ 1000000000 ∧ 1 ≤ (piL T x n)[k].2.1 ∧ (piL T x n)[k].2.1 ≤ 512 := by
  by_cases h : piE T x n = 0
  · obtain ⟨h1, h2⟩ := piE_zero h
    obtain ⟨a1, a2, a3, a4, a5⟩ := (pcs_ok (T := T) (a := x) (by have := h1.2.1; omega) n.toNat _ h2).all k hk
    have := ok.f_range (x / 512 + k)
    omega
  · have := (piE_not h).2
    rw [this] at hk
    simp at hk
/-- The box of a variable that is captured. -/
def abx (a : Nat) : Obj := .cells #[.pointer (some ⟨a, 0, none⟩)] 37 (0, 0)
theorem abxc {w : World} {B a : Nat} (h : w.heap[B]? = some (abx a)) : w.cell? ⟨B, 0, none⟩ = some (.pointer (some ⟨a, 0, none⟩)) := by unfold abx at h; simp [World.cell?, h]
section
variable {w : World} {a t : Nat} {Z Y : Nat → Prop} {bs : List UInt8} {ss : List Sp} {T : Tb}
set_option maxRecDepth 20000 in
set_option maxHeartbeats 1000000 in
theorem f_one (h : Am 128 a bs ss w Z) {B : Nat} (hB : w.heap[B]? = some (abx a)) {p m : Int} (b : Bool) (hp : 0 ≤ p ∧ p ≤ 1000000000 ∧ 1 ≤ m ∧ m ≤ 512) : Calls Tryz.prog 142 #[.agg #[.int .i64 p, .int .i64 m, .bool b], .pointer (some ⟨B, 0, none⟩)] w fun e w' => e = .returned (.int .i64 (if p + m ≤ bs.length then 0 else 4)) ∧ Fr (fun _ => False) w w' := by
  have hB0 := (Array.getElem?_eq_some_iff.1 hB).1
  have H1 : Hid (∀ w1, Fr (fun _ => False) w w1 → Calls Tryz.prog 25 #[.pointer (some ⟨a, 0, none⟩)] w1 fun e w' => e = .returned (.int .i64 bs.length) ∧ w' = w1) := fun w1 f => am_size (h.kept f)
  have hle := h.le
  have hF : Fr (fun _ => False) w (w.alloc (.cells #[.int .i64 p, .int .i64 m, .bool b] 83)) := (Fr.refl _ _).alloc _
  have c0 := abxc ((hF.block B hB0 id).trans hB)
  have c1 : (w.alloc (.cells #[.int .i64 p, .int .i64 m, .bool b] 83)).cell? ⟨w.heap.size, 0, none⟩ = some (.int .i64 p) := by simp
  have c2 : (w.alloc (.cells #[.int .i64 p, .int .i64 m, .bool b] 83)).cell? ⟨w.heap.size, 1, none⟩ = some (.int .i64 m) := by simp
  have HF := hid hF
  have hw : IntKind.i64.wrap ((bs.length : Int) - p) = bs.length - p := by rw [IntKind.wrap_i64]; omega
  have hgt : decide (m > (bs.length : Int) - p) = !decide (p + m ≤ (bs.length : Int)) := by
    by_cases e : p + m ≤ (bs.length : Int)
    · simp [e]; omega
    · simp [e]; omega
  clear h hB hF hB0
  generalize hwa : w.alloc (.cells #[.int .i64 p, .int .i64 m, .bool b] 83) = wa at *
  generalize (bs.length : Int) = n at *
  by_cases hn : p + m ≤ n
  · rw [if_pos hn]
    rw [decide_eq_true hn] at hgt
    clear hn
    go_enter Tryz.func142, Tryz.ntmps142
    go_wp2_with fail
    go_region_held3 (fun w' => w'.cell? ⟨w.heap.size, 0, none⟩ = some (.int .i64 p) ∧ w'.cell? ⟨w.heap.size, 1, none⟩ = some (.int .i64 m) ∧ w'.cell? ⟨B, 0, none⟩ = some (.pointer (some ⟨a, 0, none⟩))) (first | go_keep | exact ⟨by assumption, by assumption, by assumption⟩) (first | (go_at_call 25; refine (H1.out _ HF.out.drew).mono ?_; rintro e w1 ⟨rfl, rfl⟩))
    go_wp2
    go_ret
    exact ⟨by simp, HF.out.drew⟩
  · rw [if_neg hn]
    rw [decide_eq_false hn] at hgt
    clear hn
    go_enter Tryz.func142, Tryz.ntmps142
    go_wp2_with fail
    go_region_held3 (fun w' => w'.cell? ⟨w.heap.size, 0, none⟩ = some (.int .i64 p) ∧ w'.cell? ⟨w.heap.size, 1, none⟩ = some (.int .i64 m) ∧ w'.cell? ⟨B, 0, none⟩ = some (.pointer (some ⟨a, 0, none⟩))) (first | go_keep | exact ⟨by assumption, by assumption, by assumption⟩) (first | (go_at_call 25; refine (H1.out _ HF.out.drew).mono ?_; rintro e w1 ⟨rfl, rfl⟩))
    go_wp2
    go_ret
    exact ⟨by simp, HF.out.drew⟩
theorem vw_yes {N : Nat} {x n : Int} (h1 : piE T x n = 0) (h2 : InAr N (piL T x n)) : vwL T N x n = piL T x n ∧ vwE T N x n = 0 := ⟨if_pos ⟨h1, h2⟩, if_pos ⟨h1, h2⟩⟩
theorem vw_no {N : Nat} {x n : Int} (h : ¬ VwOk T N x n) : vwL T N x n = [] ∧ vwE T N x n = 4 := ⟨if_neg h, if_neg h⟩
/-- All pieces are held against the arena's size. -/
theorem f_all (h : Am 128 a bs ss w Z) {B : Nat} (hB : w.heap[B]? = some (abx a)) (ok : TbOk T) {x n : Int} {ad : Option Addr} {cap : Nat} (hs : SpAt w ad (piL T x n)) (hc : (piL T x n).length ≤ cap) : Calls Tryz.prog 78 #[.slice ad (piL T x n).length cap, .func (.func 142) #[] #[.pointer (some ⟨B, 0, none⟩)]] w fun e w' => e = .returned (.int .i64 (if InAr bs.length (piL T x n) then 0 else 4)) ∧ Fr (fun _ => False) w w' := by
  refine (over_any (F := 142) (fun k w' => Fr (fun _ => False) w w' ∧ ∀ j (hj : j < (piL T x n).length), j < k → (piL T x n)[j].1 + (piL T x n)[j].2.1 ≤ bs.length) (fun j w' => Fr (fun _ => False) w w' ∧ j = 4 ∧ ¬ InAr bs.length (piL T x n)) (fun k w' hi => hs.fr hi.1) hc (enters_of Tryz.func142 (by kernel_rfl) rfl) (fun k w' hk hi => ?_) ⟨Fr.refl _ _, fun j _ h => by omega⟩).mono ?_
  · have hB0 := (Array.getElem?_eq_some_iff.1 hB).1
    refine (f_one (h.kept hi.1) ((hi.1.block B hB0 id).trans hB) _ (pi_bound ok hk)).mono ?_
    rintro e w2 ⟨rfl, f⟩
    refine ⟨_, rfl, fun e => ⟨hi.1.trans f, fun j hj hlt => ?_⟩, fun e => ⟨hi.1.trans f, ?_, fun hin => ?_⟩⟩
    · by_cases ej : j = k
      · subst ej
        by_cases e2 : (piL T x n)[j].1 + (piL T x n)[j].2.1 ≤ bs.length
        · exact e2
        · rw [if_neg e2] at e; omega
      · exact hi.2 j hj (by omega)
    · by_cases e2 : (piL T x n)[k].1 + (piL T x n)[k].2.1 ≤ bs.length
      · rw [if_pos e2] at e; exact (e rfl).elim
      · exact if_neg e2
    · rw [if_pos (hin _ (List.getElem_mem hk))] at e
      exact e rfl
  · rintro e w' ⟨j, rfl, h1, h2⟩
    by_cases hj : j = 0
    · subst hj
      obtain ⟨f, hall⟩ := h1 rfl
      have : InAr bs.length (piL T x n) := fun s hs => by
        obtain ⟨j, hj, rfl⟩ := List.getElem_of_mem hs
        exact hall j hj hj
      exact ⟨by rw [if_pos this], f⟩
    · obtain ⟨f, rfl, hno⟩ := h2 hj
      exact ⟨by rw [if_neg hno], f⟩
set_option maxRecDepth 20000 in
set_option maxHeartbeats 1000000 in
theorem v_find (h : Am 128 a bs ss w Z) (k : Tm t T w Y) (ok : TbOk T) {x n : Int} (hx : I64 x) (hn : I64 n) : Calls Tryz.prog 77 #[.pointer (some ⟨a, 0, none⟩), .pointer (some ⟨t, 0, none⟩), .int .i64 x, .int .i64 n] w fun e w' => ∃ ad cap, e = .returned (.tuple #[.slice ad (vwL T bs.length x n).length cap, .int .i64 (vwE T bs.length x n)]) ∧ SpAt w' ad (vwL T bs.length x n) ∧ (∀ b off, ad = some ⟨b, off, none⟩ → 0 < (vwL T bs.length x n).length → w.heap.size ≤ b) ∧ Fr (fun _ => False) w w' ∧ (vwL T bs.length x n).length ≤ cap := by
  have hF : Fr (fun _ => False) w (w.alloc (abx a)) := (Fr.refl _ _).alloc _
  have H1 := hid (c_pieces_c (k.kept hF) ok hx hn)
  have HB : Hid ((w.alloc (abx a)).heap[w.heap.size]? = some (abx a)) := heap_alloc_new _ _
  have HA := hid h
  have HK := hid ok
  have HF := hid hF
  clear h k ok hx hn hF
  go_enter Tryz.func77, Tryz.ntmps77
  go_wp2_with fail
  refine H1.out.mono ?_
  rintro e w1 ⟨ad, cap, rfl, hs, hb, f1, hc⟩
  have f2 := HF.out.trans f1
  have HA1 := hid (f_all (HA.out.kept f2) (B := w.heap.size) ((f1.block w.heap.size (by simp) id).trans HB.out) HK.out hs hc)
  have HS : Hid (SpAt w1 ad (piL T x n) ∧ (∀ b off, ad = some ⟨b, off, none⟩ → 0 < (piL T x n).length → w.heap.size ≤ b) ∧ Fr (fun _ => False) w w1 ∧ (piL T x n).length ≤ cap) := ⟨hs, fun b off e h0 => Nat.le_trans (by simp) (hb b off e h0), f2, hc⟩
  clear hs hb f1 hc f2 H1 HA HF HB HK
  by_cases h0 : piE T x n = 0
  case neg =>
    obtain ⟨e1, e2⟩ := piE_not h0
    obtain ⟨e3, e4⟩ := vw_no (T := T) (N := bs.length) (x := x) (n := n) fun h => h0 h.1
    rw [e1]
    have HE := hid (And.intro e3 e4)
    clear h0 e1 e2 e3 e4
    go_wp2
    go_ret2
    exact ⟨none, 0, by rw [HE.out.1, HE.out.2]; simp, by rw [HE.out.1]; exact SpAt.nil _ _, (fun b off e => by cases e), HS.out.2.2.1, by rw [HE.out.1]; simp⟩
  rw [h0]
  by_cases h1 : InAr bs.length (piL T x n)
  · obtain ⟨e3, e4⟩ := vw_yes h0 h1
    have HV := hid (And.intro e3 e4)
    rw [if_pos h1] at HA1
    clear h0 h1 e3 e4
    generalize piL T x n = L at *
    go_wp2_with fail
    refine HA1.out.mono ?_
    rintro e w2 ⟨rfl, f3⟩
    have HE : Hid (SpAt w2 ad L ∧ Fr (fun _ => False) w w2) := ⟨HS.out.1.fr f3, HS.out.2.2.1.trans f3⟩
    clear HA1 f3
    go_wp2
    go_ret2
    exact ⟨ad, cap, by rw [HV.out.1, HV.out.2]; simp, by rw [HV.out.1]; exact HE.out.1, by rw [HV.out.1]; exact HS.out.2.1, HE.out.2, by rw [HV.out.1]; exact HS.out.2.2.2⟩
  · obtain ⟨e3, e4⟩ := vw_no (T := T) (N := bs.length) (x := x) (n := n) fun h => h1 h.2
    have HV := hid (And.intro e3 e4)
    rw [if_neg h1] at HA1
    clear h0 h1 e3 e4
    generalize piL T x n = L at *
    go_wp2_with fail
    refine HA1.out.mono ?_
    rintro e w2 ⟨rfl, f3⟩
    have HE : Hid (Fr (fun _ => False) w w2) := HS.out.2.2.1.trans f3
    clear HA1 f3 HS
    go_wp2
    go_ret2
    exact ⟨none, 0, by rw [HV.out.1, HV.out.2]; simp, by rw [HV.out.1]; exact SpAt.nil _ _, (fun b off e => by cases e), HE.out, by rw [HV.out.1]; simp⟩
end
end Go.Proofs.YtihaifnenjngpaaGreatDoor

namespace Go.Proofs.YtihaifnenjngpaaGreatDoor
open Go.RowKit
open An

theorem noted_one {ss : List Sp} {p m : Int} (hm : 1 ≤ m) (b : Bool) : noted ss p m b = ss ++ [(p, m, b)] := if_pos (by omega)
/-- What lies in the box of a piece. -/
theorem spbx (w : World) (p m : Int) (b : Bool) : (w.alloc (.cells #[.int .i64 p, .int .i64 m, .bool b] 83)).cell? ⟨w.heap.size, 0, none⟩ = some (.int .i64 p) ∧ (w.alloc (.cells #[.int .i64 p, .int .i64 m, .bool b] 83)).cell? ⟨w.heap.size, 1, none⟩ = some (.int .i64 m) := ⟨by simp, by simp⟩
section
variable {W w w0 : World} {a t B j : Nat} {Z Y : Nat → Prop} {bs : List UInt8} {ss : List Sp} {T : Tb} {ts : List (World → (Nat → Prop) → Prop)}
/-- Where nothing is done. -/
theorem am_nothing {w' : World} (h : Am 128 a bs ss w Z) (f : Fr (fun _ => False) w w') : ∃ Z', Am 128 a bs ss w' Z' ∧ Gw w w' Z Z' := ⟨Z, h.kept f, Gw.same h.lt (f.mono fun _ _ e => e.elim)⟩
/-- An arena, all else that was there, the box of the variable, and the pieces. -/
theorem v_begin (h : Am 128 a bs ss w Z) {w' : World} {ad : Option Addr} {L : List Sq} (hs : SpAt w' ad L) (hb : ∀ b off, ad = some ⟨b, off, none⟩ → 0 < L.length → (w.alloc (abx a)).heap.size ≤ b) (f : Fr (fun _ => False) (w.alloc (abx a)) w') : Things (Bare w) w' [Am 128 a bs ss, Old w Z, Blk w.heap.size (abx a), Sv ad L] :=
  ((Things.begin (Am.good _ _ _ _) h h.lt).blk (abx a)).moreSpans hs hb f
end
end Go.Proofs.YtihaifnenjngpaaGreatDoor
