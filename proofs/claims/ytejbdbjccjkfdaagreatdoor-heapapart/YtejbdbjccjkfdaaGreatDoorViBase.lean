/-
  What the calls of the first of two heaps leave of things side by side.
  Local bytes, read and written page by page: mathematics. What each call of a view answers, and what it leaves.
-/
import Derived.Test.YtejbdbjccjkfdaaGreatDoorHpMade2
import Derived.Test.YtejbdbjccjkfdaaGreatDoorTaPrg
import Derived.Test.YtejbdbjccjkfdaaGreatDoorClBase
namespace Go.Proofs.YtejbdbjccjkfdaaGreatDoor
open Go.RowKit
open An

section
variable {W w : World} {ts : List (World → (Nat → Prop) → Prop)} {a m k h t h' t' b : Nat} {M : Ms} {H H' : Hp}
theorem t_malloc (q : Things W w ts) (gr : G17 W) (j : Nat) (hj : ts[j]? = some (S2 a m k M h t H h' t' H')) (tw : Two k b M H H') (hb : b ≤ 890000) {n : Int} (hn : I64 n) : Calls Tryz.prog 8 #[.pointer (some ⟨h, 0, none⟩), .int .i64 n] w fun e w' => e = .returned (.tuple #[.int .i64 (hM k M H n).2.2.1, .int .i64 (hM k M H n).2.2.2]) ∧ Things W w' (ts.set j (S2 a m k (hM k M H n).1 h t (hM k M H n).2.1 h' t' H')) :=
  q.one gr j hj fun _ p u => y_malloc p (gr.fr q.nw.fr) u (tw.hc hb) hn
theorem t_free (q : Things W w ts) (gr : G17 W) (j : Nat) (hj : ts[j]? = some (S2 a m k M h t H h' t' H')) (tw : Two k b M H H') (hb : b ≤ 890000) {x kd s i E : Int} (hf : FindR x kd s i E) (hx : I64 x) : Calls Tryz.prog 19 #[.pointer (some ⟨h, 0, none⟩), .int .i64 x] w fun e w' => e = .returned (.int .i64 (hFr M H kd s i E).2.2) ∧ Things W w' (ts.set j (S2 a m k (hFr M H kd s i E).1 h t (hFr M H kd s i E).2.1 h' t' H')) :=
  q.one gr j hj fun _ p u => y_free p (gr.fr q.nw.fr) u (tw.hc hb) hf hx
theorem t_usable (q : Things W w ts) (gr : G17 W) (j : Nat) (hj : ts[j]? = some (S2 a m k M h t H h' t' H')) (tw : Two k b M H H') (hb : b ≤ 890000) {x kd s i E : Int} (hf : FindR x kd s i E) (hx : I64 x) : Calls Tryz.prog 9 #[.pointer (some ⟨h, 0, none⟩), .int .i64 x] w fun e w' => e = .returned (.tuple #[.int .i64 (hUs H kd s i E).1, .int .i64 (hUs H kd s i E).2]) ∧ Things W w' ts :=
  (q.asked j hj (R := fun _ e _ => e = .returned (.tuple #[.int .i64 (hUs H kd s i E).1, .int .i64 (hUs H kd s i E).2])) fun _ p => y_usable p (gr.fr q.nw.fr) (tw.hc hb) hf hx).mono fun _ _ ⟨h1, _, h3⟩ => ⟨h1, h3⟩
theorem t_table (q : Things W w ts) (j : Nat) (hj : ts[j]? = some (S2 a m k M h t H h' t' H')) : Calls Tryz.prog 11 #[.pointer (some ⟨h, 0, none⟩)] w fun e w' => e = .returned (.pointer (some ⟨t, 0, none⟩)) ∧ Things W w' ts :=
  (q.asked j hj (R := fun _ e _ => e = .returned (.pointer (some ⟨t, 0, none⟩))) fun _ p => y_table p).mono fun _ _ ⟨h1, _, h3⟩ => ⟨h1, h3⟩
theorem t_blocks (q : Things W w ts) (gr : G17 W) (j : Nat) (hj : ts[j]? = some (S2 a m k M h t H h' t' H')) (tw : Two k b M H H') (hb : b ≤ 890000) : Calls Tryz.prog 18 #[.pointer (some ⟨h, 0, none⟩)] w fun e w' => ∃ ad cap, e = .returned (.slice ad (hBl H.L).length cap) ∧ Things W w' (ts ++ [Lv ad (hBl H.L)]) := by
  refine (q.asked j hj (R := fun w e w' => ∃ ad cap, e = .returned (.slice ad (hBl H.L).length cap) ∧ NumsAt w' ad (hBl H.L) ∧ ∀ b off, ad = some ⟨b, off, none⟩ → 0 < (hBl H.L).length → w.heap.size ≤ b) fun _ p => (y_blocks p (gr.fr q.nw.fr) (tw.hc hb)).mono fun e w' ⟨ad, cap, a1, a2, a3, a4⟩ => ⟨⟨ad, cap, a1, a2, a3⟩, a4⟩).mono ?_
  rintro e w' ⟨⟨ad, cap, he, hn, hw⟩, hf, _⟩
  exact ⟨ad, cap, he, q.more (Lv.good _ _) (Lv.new hn) hf fun i ⟨⟨off, e⟩, h0⟩ => ⟨hw i off e h0, (Lv.new hn).2.2 i ⟨⟨off, e⟩, h0⟩⟩⟩
end
/-- What was made is right. -/
theorem two_new {n k : Nat} (hc : Cq.Cfg n k) {A B : List Int} (ha : A.length ≤ 17592186044416) (hb : B.length ≤ 17592186044416) : Two k 0 (mN n) (hN A) (hN B) := by
  have c1 := hc_new hc ha
  have c2 := hc_new hc hb
  exact ⟨c1.ok, c2.ok, c1.ms, c1.k1, c1.k2, by simp [mN], ha, hb, fun q ⟨v, hv⟩ => by cases hv⟩
end Go.Proofs.YtejbdbjccjkfdaaGreatDoor

namespace Go.Proofs.YtejbdbjccjkfdaaGreatDoor
open Go.RowKit
open An

/-- Does each piece lie within an arena of so many bytes? -/
abbrev InAr (N : Nat) (L : List Sq) : Prop := ∀ s ∈ L, s.1 + s.2.1 ≤ N
abbrev VwOk (T : Tb) (N : Nat) (a n : Int) : Prop := piE T a n = 0 ∧ InAr N (piL T a n)
def vwE (T : Tb) (N : Nat) (a n : Int) : Int := if VwOk T N a n then 0 else 4
/-- The bytes of pieces; bytes laid into pieces; noughts. -/
def rdB (bs : List UInt8) : List Sq → List UInt8
  | [] => []
  | s :: r => (bs.drop s.1.toNat).take s.2.1.toNat ++ rdB bs r
def wrB (bs : List UInt8) : List Sq → List UInt8 → List UInt8
  | [], _ => bs
  | s :: r, ds => wrB (over bs s.1.toNat (ds.take s.2.1.toNat)) r (ds.drop s.2.1.toNat)
def tch (L : List Sq) (wr : Bool) : List Sp := L.map fun s => (s.1, s.2.1, wr)
/-- Read. -/
def vrV (T : Tb) (bs : List UInt8) (a n : Int) : List UInt8 := if VwOk T bs.length a n then rdB bs (piL T a n) else []
def vrT (T : Tb) (N : Nat) (ss : List Sp) (a n : Int) : List Sp := if VwOk T N a n then ss ++ tch (piL T a n) false else ss
/-- Write. -/
def vwB (T : Tb) (bs : List UInt8) (a : Int) (ds : List UInt8) : List UInt8 := if VwOk T bs.length a ds.length then wrB bs (piL T a ds.length) ds else bs
def vwT (T : Tb) (N : Nat) (ss : List Sp) (a n : Int) : List Sp := if VwOk T N a n then ss ++ tch (piL T a n) true else ss
/-- Pieces that lie apart, within so many bytes. -/
structure Apt (N : Nat) (L : List Sq) : Prop where
  at_ : ∀ s ∈ L, 0 ≤ s.1 ∧ 1 ≤ s.2.1 ∧ s.1 + s.2.1 ≤ N
  apart : L.Pairwise fun s t => s.1 + s.2.1 ≤ t.1 ∨ t.1 + t.2.1 ≤ s.1
theorem Apt.tail {N : Nat} {s : Sq} {L : List Sq} (h : Apt N (s :: L)) : Apt N L := ⟨fun x hx => h.at_ x (List.mem_cons_of_mem _ hx), (List.pairwise_cons.1 h.apart).2⟩
theorem Apt.head {N : Nat} {s : Sq} {L : List Sq} (h : Apt N (s :: L)) : s.1.toNat + s.2.1.toNat ≤ N ∧ (s.1.toNat : Int) = s.1 ∧ (s.2.1.toNat : Int) = s.2.1 := by
  have := h.at_ s (List.mem_cons_self ..)
  omega
def lenL : List Sq → Nat
  | [] => 0
  | s :: r => s.2.1.toNat + lenL r
theorem rdB_length {bs : List UInt8} : ∀ {L : List Sq}, Apt bs.length L → (rdB bs L).length = lenL L
  | [], _ => rfl
  | s :: r, h => by
    have h1 := h.head
    simp only [rdB, lenL, List.length_append, List.length_take, List.length_drop, rdB_length h.tail]
    omega
theorem take_len {ds : List UInt8} {k : Nat} (h : k ≤ ds.length) : (ds.take k).length = k := by rw [List.length_take]; omega
theorem over1_length {bs ds : List UInt8} {s : Sq} {r : List Sq} (h : Apt bs.length (s :: r)) : (over bs s.1.toNat (ds.take s.2.1.toNat)).length = bs.length := over_length _ _ _ (by have := h.head; rw [List.length_take]; omega)
theorem wrB_length : ∀ {L : List Sq} {bs ds : List UInt8}, Apt bs.length L → (wrB bs L ds).length = bs.length
  | [], bs, ds, _ => rfl
  | s :: r, bs, ds, h => by
    have e := over1_length (ds := ds) h
    unfold wrB
    rw [wrB_length (by rw [e]; exact h.tail), e]
/-- A byte that is in no piece stays. -/
theorem wrB_far : ∀ {L : List Sq} {bs ds : List UInt8}, Apt bs.length L → ∀ i : Nat, (∀ s ∈ L, (i : Int) < s.1 ∨ s.1 + s.2.1 ≤ i) → (wrB bs L ds)[i]? = bs[i]?
  | [], bs, ds, _, i, _ => rfl
  | s :: r, bs, ds, h, i, hi => by
    have e := over1_length (ds := ds) h
    have h1 := h.head
    have h2 := hi s (List.mem_cons_self ..)
    unfold wrB
    rw [wrB_far (by rw [e]; exact h.tail) i fun t ht => hi t (List.mem_cons_of_mem _ ht), over_get? _ _ _ (by rw [List.length_take]; omega)]
    by_cases h3 : i < s.1.toNat
    · rw [if_pos h3]
    · rw [if_neg h3, if_neg (by rw [List.length_take]; omega)]
theorem rd1_ext {bs cs : List UInt8} {p m : Nat} (h : ∀ i, p ≤ i → i < p + m → bs[i]? = cs[i]?) : (bs.drop p).take m = (cs.drop p).take m := by
  apply List.ext_getElem?
  intro i
  by_cases hi : i < m
  · rw [List.getElem?_take_of_lt hi, List.getElem?_take_of_lt hi, List.getElem?_drop, List.getElem?_drop]
    exact h _ (by omega) (by omega)
  · rw [List.getElem?_eq_none (by simp; omega), List.getElem?_eq_none (by simp; omega)]
theorem rd1_same {bs ds : List UInt8} {p : Nat} (h : p + ds.length ≤ bs.length) : ((over bs p ds).drop p).take ds.length = ds := by
  apply List.ext_getElem?
  intro i
  by_cases hi : i < ds.length
  · rw [List.getElem?_take_of_lt hi, List.getElem?_drop, over_get? _ _ _ h, if_neg (by omega), if_pos (by omega), show p + i - p = i by omega]
  · rw [List.getElem?_eq_none (by simp; omega), List.getElem?_eq_none (by omega)]
/-- What is laid into pieces is read there. -/
theorem rd_wr : ∀ {L : List Sq} {bs ds : List UInt8}, Apt bs.length L → ds.length = lenL L → rdB (wrB bs L ds) L = ds
  | [], bs, ds, _, hl => by
    have : ds = [] := List.eq_nil_of_length_eq_zero hl
    rw [this]; rfl
  | s :: r, bs, ds, h, hl => by
    have e := over1_length (ds := ds) h
    have h1 := h.head
    have hl' : ds.length = s.2.1.toNat + lenL r := hl
    have ht : (ds.take s.2.1.toNat).length = s.2.1.toNat := take_len (by omega)
    have ih := rd_wr (L := r) (bs := over bs s.1.toNat (ds.take s.2.1.toNat)) (ds := ds.drop s.2.1.toNat) (by rw [e]; exact h.tail) (by rw [List.length_drop]; omega)
    show ((wrB bs (s :: r) ds).drop s.1.toNat).take s.2.1.toNat ++ rdB (wrB bs (s :: r) ds) r = ds
    have hw : wrB bs (s :: r) ds = wrB (over bs s.1.toNat (ds.take s.2.1.toNat)) r (ds.drop s.2.1.toNat) := rfl
    rw [hw, ih, rd1_ext (cs := over bs s.1.toNat (ds.take s.2.1.toNat)) fun i i1 i2 => wrB_far (by rw [e]; exact h.tail) i fun t ht => ?_]
    · have := rd1_same (bs := bs) (ds := ds.take s.2.1.toNat) (p := s.1.toNat) (by omega)
      rw [ht] at this
      rw [this, List.take_append_drop]
    · have h3 := (List.pairwise_cons.1 h.apart).1 t ht
      omega
/-- A view's pieces. -/
theorem VwOk.apt {T : Tb} {N : Nat} {a n : Int} (ok : TbOk T) (h : VwOk T N a n) : Apt N (piL T a n) ∧ lenL (piL T a n) = n.toNat ∧ (piL T a n).length ≤ n.toNat / 512 + 2 ∧ ∀ s ∈ piL T a n, ¬ tbH T (s.1 / 512) < 0 ∧ s.1 % 512 + s.2.1 ≤ 512 := by
  obtain ⟨h1, h2⟩ := piE_zero h.1
  have pk := pcs_ok (T := T) (a := a) (by have := h1.2.1; omega) n.toNat _ h2
  have har := h.2
  generalize piL T a n = L at *
  refine ⟨⟨fun s hs => ?_, ?_⟩, ?_, ?_, fun s hs => ?_⟩
  · obtain ⟨j, hj, rfl⟩ := List.getElem_of_mem hs
    obtain ⟨a1, a2, _⟩ := pk.all j hj
    exact ⟨a1, a2, har _ hs⟩
  · rw [List.pairwise_iff_getElem]
    intro i j hi hj hij
    obtain ⟨a1, a2, a3, _⟩ := pk.all i hi
    obtain ⟨b1, b2, b3, _⟩ := pk.all j hj
    have hne : L[i].1 / 512 ≠ L[j].1 / 512 := fun e => by have := pk.apart ok hi hj e; omega
    omega
  · have hs := pk.sum
    have hall : ∀ s ∈ L, 0 ≤ s.2.1 := fun s hs => by
      obtain ⟨j, hj, rfl⟩ := List.getElem_of_mem hs
      have := (pk.all j hj).2.1
      omega
    have key : ∀ M : List Sq, (∀ s ∈ M, 0 ≤ s.2.1) → (M.map fun s => s.2.1).sum = (lenL M : Int) := by
      intro M
      induction M with
      | nil => intro _; rfl
      | cons s r ih =>
        intro hM
        have h0 := hM s (List.mem_cons_self ..)
        simp only [List.map_cons, List.sum_cons, lenL, ih fun t ht => hM t (List.mem_cons_of_mem _ ht)]
        omega
    rw [key L hall] at hs
    omega
  · rcases pk.last with ⟨_, rfl⟩ | ⟨L0, s, rfl, h3, h4⟩
    · simp
    · have hb := (pk.all L0.length (by simp)).2.1
      have hc := (pk.all L0.length (by simp)).1
      simp only [List.getElem_concat_length] at hb hc
      rw [List.length_append, List.length_singleton]
      omega
  · obtain ⟨j, hj, rfl⟩ := List.getElem_of_mem hs
    exact ⟨pk.held ok hj, (pk.all j hj).2.2.1⟩
theorem VwOk.len {T : Tb} {N : Nat} {a n : Int} (h : VwOk T N a n) : 0 ≤ n := (piE_zero h.1).1.1
theorem tch_length (L : List Sq) (b : Bool) : (tch L b).length = L.length := by simp [tch]
/-- The pieces of a view. -/
def vwL (T : Tb) (N : Nat) (x n : Int) : List Sq := if VwOk T N x n then piL T x n else []
/-- Pieces of a view. -/
theorem vwL_facts {T : Tb} (ok : TbOk T) {N : Nat} {x n : Int} (hn : n ≤ 16384) : Apt N (vwL T N x n) ∧ (vwL T N x n).length ≤ 34 ∧ lenL (vwL T N x n) ≤ 16384 := by
  unfold vwL
  split
  · rename_i h
    obtain ⟨a1, a2, a3, _⟩ := h.apt ok
    exact ⟨a1, by omega, by omega⟩
  · exact ⟨⟨fun s hs => by simp at hs, .nil⟩, by simp, by simp [lenL]⟩
theorem lenL_append : ∀ L M : List Sq, lenL (L ++ M) = lenL L + lenL M
  | [], M => by simp [lenL]
  | s :: r, M => by simp only [List.cons_append, lenL, lenL_append r M]; omega
theorem tch_snoc {L : List Sq} {k : Nat} (hk : k < L.length) (b : Bool) : tch (L.take (k + 1)) b = tch (L.take k) b ++ [(L[k].1, L[k].2.1, b)] := by
  unfold tch
  rw [List.take_succ_eq_append_getElem hk, List.map_append]
  rfl
theorem rdB_snoc (bs : List UInt8) {L : List Sq} {k : Nat} (hk : k < L.length) : rdB bs (L.take (k + 1)) = rdB bs (L.take k) ++ (bs.drop L[k].1.toNat).take L[k].2.1.toNat := by
  rw [List.take_succ_eq_append_getElem hk]
  generalize L.take k = M
  induction M with
  | nil => simp [rdB]
  | cons s r ih => simp only [List.cons_append, rdB, ih, List.append_assoc]
theorem Apt.at {N : Nat} {L : List Sq} (h : Apt N L) {k : Nat} (hk : k < L.length) : L[k].1.toNat + L[k].2.1.toNat ≤ N ∧ (L[k].1.toNat : Int) = L[k].1 ∧ (L[k].2.1.toNat : Int) = L[k].2.1 ∧ 0 < L[k].2.1.toNat := by
  have := h.at_ L[k] (List.getElem_mem hk)
  omega
theorem wrB_snoc {L : List Sq} {k : Nat} (hk : k < L.length) (bs ds : List UInt8) : wrB bs (L.take (k + 1)) ds = over (wrB bs (L.take k) ds) L[k].1.toNat ((ds.drop (lenL (L.take k))).take L[k].2.1.toNat) := by
  rw [List.take_succ_eq_append_getElem hk]
  generalize L.take k = M
  induction M generalizing bs ds with
  | nil => simp [wrB, lenL]
  | cons s r ih => simp only [List.cons_append, wrB, ih, lenL, List.drop_drop]
theorem Apt.take {N : Nat} {L : List Sq} (h : Apt N L) (k : Nat) : Apt N (L.take k) := ⟨fun s hs => h.at_ s (List.mem_of_mem_take hs), h.apart.sublist (List.take_sublist _ _)⟩
end Go.Proofs.YtejbdbjccjkfdaaGreatDoor
