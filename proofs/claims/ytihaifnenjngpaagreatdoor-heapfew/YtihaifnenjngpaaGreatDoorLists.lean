/-
  Touched: the spans, in memory of the caller's own.
  Same: two lists of spans that are alike.
  Each call of either arena told without cases, and for two arenas side by side.
  Lists of numbers in memory: those that come in, and rows of the call's own. New blocks may turn.
-/
import Derived.Test.YtihaifnenjngpaaGreatDoorAnArena
import Derived.Test.YtihaifnenjngpaaGreatDoorAnRefB
import Derived.Test.YtihaifnenjngpaaGreatDoorRows
import Derived.Test.YtihaifnenjngpaaGreatDoorBase
import Derived.Deep.RegionHeld
import Derived.Deep.QuietTactic
import Derived.BigQuiet
import Derived.BigRegion
import Derived.BigFrame
import Derived.Laws.OwnMore
namespace Go.Proofs.YtihaifnenjngpaaGreatDoor.An
open Go.RowKit

set_option maxRecDepth 20000 in
set_option maxHeartbeats 400000 in
theorem clone_any {w : World} {B : Nat} {v : Value} {k : Nat} {ts : List Value} (h : w.ownsRow B 83 3 v k ts) (hnz : k = 0 → v = .slice none 0 0) (hone : ∀ u ∈ ts, u.oneCell' = true) (hk : k ≤ 1000002) :
    Calls Tryz.prog 91 #[v] w fun e w' => ∃ r, e = .returned r ∧ w'.ownsRow w.heap.size 83 3 r k ts ∧ Fr (fun _ => False) w w' := by
  rcases h.2 with ⟨rfl, rfl⟩ | ⟨g, cap, cur, rfl, hb, hgg, rest⟩
  · have hts : ts = [] := List.eq_nil_of_length_eq_zero (by simpa using h.1)
    subst hts
    clear h hnz hone
    have heq := Lib.run_eql_slice_nil (P := Tryz.prog) w 66 83 none 0 0 0 0 Tryz.underlying66
    go_enter Tryz.func91, Tryz.ntmps91
    go_wp2
    go_ret
    exact ⟨_, rfl, World.ownsRow_nil _ _ _ _, Fr.refl _ _⟩
  · have hk0 : 0 < k := by
      rcases Nat.eq_zero_or_pos k with h0 | h0
      · cases hnz h0
      · exact h0
    obtain ⟨i0, hi, hz0, hz1, hz2⟩ := info_parts Tryz.info58
    have heq := Lib.run_eql_slice_nil (P := Tryz.prog) w 66 83 (some ⟨g, 0, none⟩) k cap 0 0 Tryz.underlying66
    have hg2 : g < w.heap.size := (Array.getElem?_eq_some_iff.1 hgg).1
    have hsrc : ∀ j u, ts[j]? = some u → w.cell? ((⟨g, 0, none⟩ : Addr).add j) = some u := h.cells rfl
    have hlen := h.1
    clear hgg rest hnz
    go_enter Tryz.func91, Tryz.ntmps91
    go_wp2_with (at_builtin; refine wpList_append_sep rfl (.tmp 5) (.tmp 6) 66 rfl w.heap.size 83 i0 (.agg #[.int .i64 0, .int .i64 0, .bool false]) 3 24 Tryz.underlying66 hi hz0 hz1 hz2 rfl (by decide) _ 0 [] rfl ?c0 ⟨g, 0, none⟩ k cap hk0 ts rfl hlen ?c1 hone ?c3 ?c4 ?c5 ?_)
    case c0 => exact ⟨rfl, .inr ⟨w.heap.size, 0, #[], rfl, Nat.le_refl _, heap_alloc_new w _, Nat.le_refl _, by simp [maxLen], rfl, rfl⟩⟩
    case c1 =>
      intro j u hj
      have hadd : (⟨g, 0, none⟩ : Addr).add j = ⟨g, j, none⟩ := by unfold Addr.add; split <;> simp_all
      have := hsrc j u hj
      rw [hadd] at this ⊢
      rw [World.cell?_alloc_past _ _ _ hg2]
      exact this
    case c3 => unfold maxLen; omega
    case c4 => omega
    case c5 => simp
    · intro g' cap' w1 hown hgrow _
      have hfr : Fr (fun _ => False) w w1 := ((Fr.refl _ w).alloc _).grown hgrow (fun y hy => .inr (by simp [Value.ownBlock] at hy; omega))
      have HO : Hid (w1.ownsRow w.heap.size 83 3 (.slice (some ⟨g', 0, none⟩) k cap') k ts) := hown
      have HF : Hid (Fr (fun _ => False) w w1) := hfr
      clear hown hgrow hfr heq hsrc hone h hi hz0 hz1 hz2
      go_wp2
      go_ret
      exact ⟨_, rfl, HO.out, HF.out⟩

theorem owned_shape {w : World} {B : Nat} {e : TypeId} {size : Nat} {v : Value} {n : Nat} {xs : List Value} (h : w.ownsRow B e size v n xs) : ∃ ad cap, v = .slice ad n cap := by
  rcases h.2 with ⟨rfl, rfl⟩ | ⟨g, cap, _, rfl, _⟩
  · exact ⟨_, _, rfl⟩
  · exact ⟨_, _, rfl⟩

set_option maxRecDepth 20000 in
set_option maxHeartbeats 400000 in
theorem touched_any {w : World} {B a b : Nat} {bs : List UInt8} {v : Value} {ss : List Sp} (h : Ar w 128 B a b bs v ss) (hk : ss.length ≤ 1000002) :
    Calls Tryz.prog 38 #[.pointer (some ⟨a, 0, none⟩)] w fun e w' => ∃ ad cap, e = .returned (.slice ad ss.length cap) ∧ w'.ownsRow w.heap.size 83 3 (.slice ad ss.length cap) ss.length (spcs ss) ∧ Fr (fun _ => False) w w' := by
  have c1 := h.c1
  have HC : Hid (Calls Tryz.prog 91 #[v] w fun e w' => ∃ r, e = .returned r ∧ w'.ownsRow w.heap.size 83 3 r ss.length (spcs ss) ∧ Fr (fun _ => False) w w') :=
    clone_any h.tr (fun e => h.nz (List.eq_nil_of_length_eq_zero e)) (spcs_one ss) hk
  clear h
  go_enter Tryz.func38, Tryz.ntmps38
  go_wp2_with fail
  refine HC.out.mono ?_
  rintro e w1 ⟨r, rfl, hown, hfr⟩
  have HF : Hid (Fr (fun _ => False) w w1) := hfr
  have HO : Hid (w1.ownsRow w.heap.size 83 3 r ss.length (spcs ss)) := hown
  clear hown hfr HC c1
  go_wp2
  go_ret
  obtain ⟨ad, cap, rfl⟩ := owned_shape HO.out
  exact ⟨ad, cap, rfl, HO.out, HF.out⟩
end Go.Proofs.YtihaifnenjngpaaGreatDoor.An

namespace Go.Proofs.YtihaifnenjngpaaGreatDoor.An
open Go.RowKit

theorem spcs_at : ∀ (ss : List Sp) (k : Nat) (hk : k < ss.length), (spcs ss)[k * 3]? = some (.int .i64 (ss[k]).1) ∧ (spcs ss)[k * 3 + 1]? = some (.int .i64 (ss[k]).2.1) ∧ (spcs ss)[k * 3 + 2]? = some (.bool (ss[k]).2.2)
  | s :: r, 0, _ => by simp [spcs]
  | s :: r, k + 1, hk => by
    have := spcs_at r k (by simpa using hk)
    simpa [spcs, Nat.add_mul] using this

theorem row_spans {w : World} {B g cap : Nat} {ss : List Sp} {T : TypeId} (h : w.ownsRow B T 3 (.slice (some ⟨g, 0, none⟩) ss.length cap) ss.length (spcs ss)) (k : Nat) (hk : k < ss.length) :
    w.cell? ⟨g, k * 3, none⟩ = some (.int .i64 (ss[k]).1) ∧ w.cell? ⟨g, k * 3 + 1, none⟩ = some (.int .i64 (ss[k]).2.1) ∧ w.cell? ⟨g, k * 3 + 2, none⟩ = some (.bool (ss[k]).2.2) := by
  have h1 := spcs_at ss k hk
  exact ⟨(h.cellAt (k * 3) (by omega)).trans h1.1, (h.cellAt (k * 3 + 1) (by omega)).trans h1.2.1, (h.cellAt (k * 3 + 2) (by omega)).trans h1.2.2⟩

theorem owned_fr {S : Nat → Prop} {w w' : World} {B : Nat} {e : TypeId} {size : Nat} {v : Value} {n : Nat} {xs : List Value} (h : w.ownsRow B e size v n xs) (hf : Fr S w w') (h3 : ∀ x, v.ownBlock = some x → ¬ S x) : w'.ownsRow B e size v n xs := by
  refine ⟨h.1, ?_⟩
  rcases h.2 with hn | ⟨g, cap, cur, rfl, hb, hgg, rest⟩
  · exact .inl hn
  · refine .inr ⟨g, cap, cur, rfl, hb, ?_, rest⟩
    rw [hf.block g (Array.getElem?_eq_some_iff.1 hgg).1 (h3 g rfl)]
    exact hgg



end Go.Proofs.YtihaifnenjngpaaGreatDoor.An

namespace Go.Proofs.YtihaifnenjngpaaGreatDoor.An
open Go.RowKit

/-- The Errno of a call whose bytes are there, or aren't. -/
def errE (c : Bool) : Int := if c then 0 else 4
def ldV (c : Bool) (bs : List UInt8) (x : Int) : Int := if c then (word ((bs.drop x.toNat).take 8) : Int) else 0
def rdV (c : Bool) (bs : List UInt8) (x n : Int) : ByteArray := if c then ⟨((bs.drop x.toNat).take n.toNat).toArray⟩ else ⟨#[]⟩
def layB (c : Bool) (bs : List UInt8) (x : Int) (ds : List UInt8) : List UInt8 := if c then over bs x.toNat ds else bs
def notS (c : Bool) (ss : List Sp) (x n : Int) (wr : Bool) : List Sp := if c then noted ss x n wr else ss
def notC (c : Bool) (ss : List Sp) (x y n : Int) : List Sp := if c then noted (noted ss y n false) x n true else ss
theorem layB_length (c : Bool) (bs : List UInt8) (x : Int) (ds : List UInt8) (h : c = true → 0 ≤ x ∧ x + ds.length ≤ bs.length) : (layB c bs x ds).length = bs.length := by
  unfold layB
  split
  · rename_i hc
    have := h hc
    exact over_length _ _ _ (by omega)
  · rfl
theorem notS_le (c : Bool) (ss : List Sp) (x n : Int) (wr : Bool) : (notS c ss x n wr).length ≤ ss.length + 1 := by
  unfold notS; split
  · exact noted_le _ _ _ _
  · omega
theorem notC_le (c : Bool) (ss : List Sp) (x y n : Int) : (notC c ss x y n).length ≤ ss.length + 2 := by
  unfold notC; split
  · have h1 := noted_le ss y n false
    have h2 := noted_le (noted ss y n false) x n true
    omega
  · omega
theorem noted8 (ss : List Sp) (p : Nat) (wr : Bool) : noted ss p 8 wr = ss ++ [((p : Int), (8 : Int), wr)] := by
  unfold noted; rw [if_pos (by omega)]

theorem u_load {w : World} {B a b : Nat} {bs : List UInt8} {v : Value} {ss : List Sp} (h : Ar w 128 B a b bs v ss) (x : Int) (hx : x ≤ 9223372036854775807) (hk : ss.length ≤ 1000000) :
    Calls Tryz.prog 236 #[.pointer (some ⟨a, 0, none⟩), .int .i64 x] w fun e w' => e = .returned (.tuple #[.int .u64 (ldV (inB x 8 bs.length) bs x), .int .i64 (errE (inB x 8 bs.length))]) ∧ Noted w w' 128 B a b bs v (notS (inB x 8 bs.length) ss x 8 false) := by
  cases hc : inB x 8 bs.length with
  | true =>
    have hin := hc
    rw [inB_true] at hin
    obtain ⟨h0, h1, h2⟩ := hin
    clear hc
    obtain ⟨p, rfl⟩ := Int.eq_ofNat_of_zero_le h0
    have := load_ok h p (by omega) hk
    rw [← noted8] at this
    exact this
  | false =>
    exact (load_no h x hx hc).mono fun e w' ⟨he, hw⟩ => ⟨he, by subst hw; exact Noted.same h⟩

theorem u_store {w : World} {B a b : Nat} {bs : List UInt8} {v : Value} {ss : List Sp} (h : Ar w 128 B a b bs v ss) (x u : Int) (hx : x ≤ 9223372036854775807) (hu0 : 0 ≤ u) (hu1 : u ≤ 18446744073709551615) (hk : ss.length ≤ 1000000) :
    Calls Tryz.prog 225 #[.pointer (some ⟨a, 0, none⟩), .int .i64 x, .int .u64 u] w fun e w' => e = .returned (.int .i64 (errE (inB x 8 bs.length))) ∧ Noted w w' 128 B a b (layB (inB x 8 bs.length) bs x (leb u.toNat 8)) v (notS (inB x 8 bs.length) ss x 8 true) := by
  cases hc : inB x 8 bs.length with
  | true =>
    have hin := hc
    rw [inB_true] at hin
    obtain ⟨h0, h1, h2⟩ := hin
    clear hc
    obtain ⟨p, rfl⟩ := Int.eq_ofNat_of_zero_le h0
    obtain ⟨un, rfl⟩ := Int.eq_ofNat_of_zero_le hu0
    have := store_ok h p un (by omega) (by omega) hk
    rw [← noted8] at this
    exact this
  | false =>
    exact (store_no h x u hx hc).mono fun e w' ⟨he, hw⟩ => ⟨he, by subst hw; exact Noted.same h⟩

theorem u_read {w : World} {B a b : Nat} {bs : List UInt8} {v : Value} {ss : List Sp} (h : Ar w 128 B a b bs v ss) (x n : Int) (hx : x ≤ 9223372036854775807) (hk : ss.length ≤ 1000000) :
    Calls Tryz.prog 24 #[.pointer (some ⟨a, 0, none⟩), .int .i64 x, .int .i64 n] w fun e w' => e = .returned (.tuple #[.string (rdV (inB x n bs.length) bs x n), .int .i64 (errE (inB x n bs.length))]) ∧ Noted w w' 128 B a b bs v (notS (inB x n bs.length) ss x n false) := by
  cases hc : inB x n bs.length with
  | true =>
    have hin := hc
    rw [inB_true] at hin
    obtain ⟨h0, h1, h2⟩ := hin
    clear hc
    obtain ⟨p, rfl⟩ := Int.eq_ofNat_of_zero_le h0
    obtain ⟨m, rfl⟩ := Int.eq_ofNat_of_zero_le h1
    exact read_ok h p m (by omega) hk
  | false =>
    exact (read_no h x n hx hc).mono fun e w' ⟨he, hw⟩ => ⟨he, by subst hw; exact Noted.same h⟩

theorem u_write {w : World} {B a b : Nat} {bs : List UInt8} {v : Value} {ss : List Sp} (h : Ar w 128 B a b bs v ss) (x : Int) (s : ByteArray) (hx : x ≤ 9223372036854775807) (hk : ss.length ≤ 1000000) :
    Calls Tryz.prog 85 #[.pointer (some ⟨a, 0, none⟩), .int .i64 x, .string s] w fun e w' => e = .returned (.int .i64 (errE (inB x s.size bs.length))) ∧ Noted w w' 128 B a b (layB (inB x s.size bs.length) bs x s.data.toList) v (notS (inB x s.size bs.length) ss x s.size true) := by
  cases hc : inB x s.size bs.length with
  | true =>
    have hin := hc
    rw [inB_true] at hin
    obtain ⟨h0, h1, h2⟩ := hin
    clear hc
    obtain ⟨p, rfl⟩ := Int.eq_ofNat_of_zero_le h0
    exact write_ok h p s (by omega) hk
  | false =>
    exact (write_no h x s hx hc).mono fun e w' ⟨he, hw⟩ => ⟨he, by subst hw; exact Noted.same h⟩

theorem u_zero {w : World} {B a b : Nat} {bs : List UInt8} {v : Value} {ss : List Sp} (h : Ar w 128 B a b bs v ss) (x n : Int) (hx : x ≤ 9223372036854775807) (hk : ss.length ≤ 1000000) :
    Calls Tryz.prog 204 #[.pointer (some ⟨a, 0, none⟩), .int .i64 x, .int .i64 n] w fun e w' => e = .returned (.int .i64 (errE (inB x n bs.length))) ∧ Noted w w' 128 B a b (layB (inB x n bs.length) bs x (List.replicate n.toNat 0)) v (notS (inB x n bs.length) ss x n true) := by
  cases hc : inB x n bs.length with
  | true =>
    have hin := hc
    rw [inB_true] at hin
    obtain ⟨h0, h1, h2⟩ := hin
    clear hc
    obtain ⟨p, rfl⟩ := Int.eq_ofNat_of_zero_le h0
    obtain ⟨m, rfl⟩ := Int.eq_ofNat_of_zero_le h1
    exact zero_ok h p m (by omega) hk
  | false =>
    exact (zero_no h x n hx hc).mono fun e w' ⟨he, hw⟩ => ⟨he, by subst hw; exact Noted.same h⟩

theorem u_copy {w : World} {B a b : Nat} {bs : List UInt8} {v : Value} {ss : List Sp} (h : Ar w 128 B a b bs v ss) (x y n : Int) (hx : x ≤ 9223372036854775807) (hy : y ≤ 9223372036854775807) (hk : ss.length < 1000000) :
    Calls Tryz.prog 149 #[.pointer (some ⟨a, 0, none⟩), .int .i64 x, .int .i64 y, .int .i64 n] w fun e w' => e = .returned (.int .i64 (errE ((inB x n bs.length && inB y n bs.length)))) ∧ Noted w w' 128 B a b (layB (inB x n bs.length && inB y n bs.length) bs x ((bs.drop y.toNat).take n.toNat)) v (notC (inB x n bs.length && inB y n bs.length) ss x y n) := by
  cases hc : inB x n bs.length && inB y n bs.length with
  | true =>
    have hin := hc
    rw [Bool.and_eq_true, inB_true, inB_true] at hin
    obtain ⟨⟨h0, h1, h2⟩, h3, _, h4⟩ := hin
    obtain ⟨p, rfl⟩ := Int.eq_ofNat_of_zero_le h0
    obtain ⟨q, rfl⟩ := Int.eq_ofNat_of_zero_le h3
    obtain ⟨m, rfl⟩ := Int.eq_ofNat_of_zero_le h1
    exact copy_ok h p q m (by omega) (by omega) hk
  | false =>
    by_cases h0 : inB x n bs.length = true
    · exact (copy_no2 h x y n hx hy h0 (by rw [h0] at hc; simpa using hc)).mono fun e w' ⟨he, hw⟩ => ⟨he, by subst hw; exact Noted.same h⟩
    · exact (copy_no1 h x y n hx (by simpa using h0)).mono fun e w' ⟨he, hw⟩ => ⟨he, by subst hw; exact Noted.same h⟩

theorem ru_load {w : World} {B a b : Nat} {bs : List UInt8} {v : Value} {ss : List Sp} (h : Ar w 68 B a b bs v ss) (x : Int) (hx : x ≤ 9223372036854775807) (hk : ss.length ≤ 1000000) :
    Calls Tryz.prog 208 #[.pointer (some ⟨a, 0, none⟩), .int .i64 x] w fun e w' => e = .returned (.tuple #[.int .u64 (ldV (inB x 8 bs.length) bs x), .int .i64 (errE (inB x 8 bs.length))]) ∧ Noted w w' 68 B a b bs v (notS (inB x 8 bs.length) ss x 8 false) := by
  cases hc : inB x 8 bs.length with
  | true =>
    have hin := hc
    rw [inB_true] at hin
    obtain ⟨h0, h1, h2⟩ := hin
    clear hc
    obtain ⟨p, rfl⟩ := Int.eq_ofNat_of_zero_le h0
    have := rload_ok h p (by omega) hk
    rw [← noted8] at this
    exact this
  | false =>
    exact (rload_no h x hx hc).mono fun e w' ⟨he, hw⟩ => ⟨he, by subst hw; exact Noted.same h⟩

theorem ru_store {w : World} {B a b : Nat} {bs : List UInt8} {v : Value} {ss : List Sp} (h : Ar w 68 B a b bs v ss) (x u : Int) (hx : x ≤ 9223372036854775807) (hu0 : 0 ≤ u) (hu1 : u ≤ 18446744073709551615) (hk : ss.length ≤ 1000000) :
    Calls Tryz.prog 209 #[.pointer (some ⟨a, 0, none⟩), .int .i64 x, .int .u64 u] w fun e w' => e = .returned (.int .i64 (errE (inB x 8 bs.length))) ∧ Noted w w' 68 B a b (layB (inB x 8 bs.length) bs x (leb u.toNat 8)) v (notS (inB x 8 bs.length) ss x 8 true) := by
  cases hc : inB x 8 bs.length with
  | true =>
    have hin := hc
    rw [inB_true] at hin
    obtain ⟨h0, h1, h2⟩ := hin
    clear hc
    obtain ⟨p, rfl⟩ := Int.eq_ofNat_of_zero_le h0
    obtain ⟨un, rfl⟩ := Int.eq_ofNat_of_zero_le hu0
    have := rstore_ok h p un (by omega) (by omega) hk
    rw [← noted8] at this
    exact this
  | false =>
    exact (rstore_no h x u hx hc).mono fun e w' ⟨he, hw⟩ => ⟨he, by subst hw; exact Noted.same h⟩



theorem ru_zero {w : World} {B a b : Nat} {bs : List UInt8} {v : Value} {ss : List Sp} (h : Ar w 68 B a b bs v ss) (x n : Int) (hx : x ≤ 9223372036854775807) (hk : ss.length ≤ 1000000) :
    Calls Tryz.prog 115 #[.pointer (some ⟨a, 0, none⟩), .int .i64 x, .int .i64 n] w fun e w' => e = .returned (.int .i64 (errE (inB x n bs.length))) ∧ Noted w w' 68 B a b (layB (inB x n bs.length) bs x (List.replicate n.toNat 0)) v (notS (inB x n bs.length) ss x n true) := by
  cases hc : inB x n bs.length with
  | true =>
    have hin := hc
    rw [inB_true] at hin
    obtain ⟨h0, h1, h2⟩ := hin
    clear hc
    obtain ⟨p, rfl⟩ := Int.eq_ofNat_of_zero_le h0
    obtain ⟨m, rfl⟩ := Int.eq_ofNat_of_zero_le h1
    exact rzero_ok h p m (by omega) hk
  | false =>
    exact (rzero_no h x n hx hc).mono fun e w' ⟨he, hw⟩ => ⟨he, by subst hw; exact Noted.same h⟩

theorem ru_copy {w : World} {B a b : Nat} {bs : List UInt8} {v : Value} {ss : List Sp} (h : Ar w 68 B a b bs v ss) (x y n : Int) (hx : x ≤ 9223372036854775807) (hy : y ≤ 9223372036854775807) (hk : ss.length < 1000000) :
    Calls Tryz.prog 114 #[.pointer (some ⟨a, 0, none⟩), .int .i64 x, .int .i64 y, .int .i64 n] w fun e w' => e = .returned (.int .i64 (errE ((inB x n bs.length && inB y n bs.length)))) ∧ Noted w w' 68 B a b (layB (inB x n bs.length && inB y n bs.length) bs x ((bs.drop y.toNat).take n.toNat)) v (notC (inB x n bs.length && inB y n bs.length) ss x y n) := by
  cases hc : inB x n bs.length && inB y n bs.length with
  | true =>
    have hin := hc
    rw [Bool.and_eq_true, inB_true, inB_true] at hin
    obtain ⟨⟨h0, h1, h2⟩, h3, _, h4⟩ := hin
    obtain ⟨p, rfl⟩ := Int.eq_ofNat_of_zero_le h0
    obtain ⟨q, rfl⟩ := Int.eq_ofNat_of_zero_le h3
    obtain ⟨m, rfl⟩ := Int.eq_ofNat_of_zero_le h1
    exact rcopy_ok h p q m (by omega) (by omega) hk
  | false =>
    by_cases h0 : inB x n bs.length = true
    · exact (rcopy_no2 h x y n hx hy h0 (by rw [h0] at hc; simpa using hc)).mono fun e w' ⟨he, hw⟩ => ⟨he, by subst hw; exact Noted.same h⟩
    · exact (rcopy_no1 h x y n hx (by simpa using h0)).mono fun e w' ⟨he, hw⟩ => ⟨he, by subst hw; exact Noted.same h⟩
end Go.Proofs.YtihaifnenjngpaaGreatDoor.An

namespace Go.Proofs.YtihaifnenjngpaaGreatDoor
open Go.RowKit

theorem frOf {w w' : World} (f : ∃ m, w' = w.drewN m) : Fr (fun _ => False) w w' := by obtain ⟨m, rfl⟩ := f; exact (Fr.refl _ w).drewN m
/-- Numbers that lie where a slice says. -/
def NumsAt (w : World) (ad : Option Addr) (l : List Int) : Prop := ∀ i (h : i < l.length), ∃ b off, ad = some ⟨b, off, none⟩ ∧ b < w.heap.size ∧ w.cell? ⟨b, off + i, none⟩ = some (.int .i64 l[i])
/-- The numbers lie in no block of Z. -/
def Off (Z : Nat → Prop) (ad : Option Addr) (l : List Int) : Prop := ∀ b off, ad = some ⟨b, off, none⟩ → 0 < l.length → ¬ Z b
theorem NumsAt.carry {S : Nat → Prop} {w w' : World} {ad : Option Addr} {l : List Int} (h : NumsAt w ad l) (hf : Fr S w w') (ho : Off S ad l) : NumsAt w' ad l := fun i hi => by
  obtain ⟨b, off, h1, h2, h3⟩ := h i hi
  exact ⟨b, off, h1, by have := hf.size; omega, (World.cell?_of_block (hf.block b h2 (ho b off h1 (by omega)))).trans h3⟩
theorem NumsAt.fr {w w' : World} {ad : Option Addr} {l : List Int} (h : NumsAt w ad l) (hf : Fr (fun _ => False) w w') : NumsAt w' ad l := h.carry hf fun _ _ _ _ e => e
theorem NumsAt.alloc {w : World} {ad : Option Addr} {l : List Int} (h : NumsAt w ad l) (o : Obj) : NumsAt (w.alloc o) ad l := h.fr ((Fr.refl _ _).alloc o)
theorem nums_none (w : World) (ad : Option Addr) : NumsAt w ad [] := fun i hi => by simp at hi
/-- A piece of a list. -/
theorem NumsAt.drop {w : World} {b off : Nat} {l : List Int} (h : NumsAt w (some ⟨b, off, none⟩) l) (k : Nat) : NumsAt w (some ⟨b, off + k, none⟩) (l.drop k) := fun i hi => by
  rw [List.length_drop] at hi
  obtain ⟨b', off', h1, h2, h3⟩ := h (k + i) (by omega)
  simp only [Option.some.injEq, Addr.mk.injEq, and_true] at h1
  obtain ⟨rfl, rfl⟩ := h1
  refine ⟨b, off + k, rfl, h2, ?_⟩
  rw [List.getElem_drop, Nat.add_assoc]
  exact h3
theorem NumsAt.take {w : World} {ad : Option Addr} {l : List Int} (h : NumsAt w ad l) (k : Nat) : NumsAt w ad (l.take k) := fun i hi => by
  rw [List.length_take] at hi
  obtain ⟨b, off, h1, h2, h3⟩ := h i (by omega)
  exact ⟨b, off, h1, h2, by rw [List.getElem_take]; exact h3⟩
/-- Each number of a list lies somewhere that was there ahead. -/
theorem NumsAt.off {w : World} {Z : Nat → Prop} {ad : Option Addr} {l : List Int} (h : NumsAt w ad l) (hz : ∀ i, Z i → w.heap.size ≤ i) : Off Z ad l := fun b off e h0 hb => by
  obtain ⟨b', off', h1, h2, _⟩ := h 0 h0
  rw [e] at h1
  simp only [Option.some.injEq, Addr.mk.injEq, and_true] at h1
  have := hz b hb
  omega
/-- The answer is a list that lies somewhere new; with an error's number beside it. -/
def Ls (W w : World) (l : List Int) (e : Ending) : Prop := ∃ ad cap, e = .returned (.slice ad l.length cap) ∧ NumsAt w ad l ∧ ∀ b off, ad = some ⟨b, off, none⟩ → W.heap.size ≤ b
def LsE (W w : World) (l : List Int) (E : Int) (e : Ending) : Prop := ∃ ad cap, e = .returned (.tuple #[.slice ad l.length cap, .int .i64 E]) ∧ NumsAt w ad l ∧ ∀ b off, ad = some ⟨b, off, none⟩ → W.heap.size ≤ b
/-- New blocks may turn. -/
def Nw (w0 w : World) : Prop := Fr (fun k => w0.heap.size ≤ k) w0 w
theorem Nw.start (w : World) : Nw w w := Fr.refl _ _
theorem Nw.on {S : Nat → Prop} {w0 w w' : World} (h : Nw w0 w) (f : Fr S w w') (hs : ∀ i, S i → w0.heap.size ≤ i) : Nw w0 w' := Fr.trans' h f fun i _ e => hs i e
theorem Nw.kept {w0 w w' : World} (h : Nw w0 w) (f : Fr (fun _ => False) w w') : Nw w0 w' := h.on f fun _ e => e.elim
theorem Nw.alloc {w0 w : World} (h : Nw w0 w) (o : Obj) : Nw w0 (w.alloc o) := Fr.alloc h o
theorem Nw.fr {w0 w : World} (h : Nw w0 w) : Fr (fun _ => False) w0 w := Fr.new h
theorem Nw.le {w0 w : World} (h : Nw w0 w) : w0.heap.size ≤ w.heap.size := h.size
theorem Tryz.infoInt : (Tryz.prog.info? 3).map (fun i => (i.zero, i.size, i.bytes)) = some (some (.int .i64 0), 1, 8) := by kernel_rfl
def ic (l : List Int) : List Value := l.map fun x => Value.int .i64 x
theorem ic_length (l : List Int) : (ic l).length = l.length := by simp [ic]
theorem ic_one (l : List Int) : ∀ u ∈ ic l, u.oneCell' = true := by
  intro v hv; simp only [ic, List.mem_map] at hv; obtain ⟨x, _, rfl⟩ := hv; rfl
theorem ic_snoc (l : List Int) (x : Int) : ic (l ++ [x]) = ic l ++ [.int .i64 x] := by simp [ic]
theorem nums_row {w : World} {base g cap : Nat} {l : List Int} (h : w.ownsRow base 3 1 (.slice (some ⟨g, 0, none⟩) l.length cap) l.length (ic l)) : NumsAt w (some ⟨g, 0, none⟩) l := fun i hi => by
  refine ⟨g, 0, rfl, (h.lt g rfl).2, ?_⟩
  have := h.cells (g := g) rfl i (.int .i64 l[i]) (by simp [ic, hi])
  rw [add_plain] at this
  exact this
/-- A row of the call's own, as a list that lies somewhere new. -/
theorem row_list {w : World} {base : Nat} {y : Value} {ys : List Int} (h : w.ownsRow base 3 1 y ys.length (ic ys)) : ∃ yad ycap, y = .slice yad ys.length ycap ∧ NumsAt w yad ys ∧ ∀ b off, yad = some ⟨b, off, none⟩ → base ≤ b := by
  rcases h.2 with ⟨e1, e2⟩ | ⟨g, cap, cur, e1, hb, _⟩
  · have e3 : ys = [] := List.eq_nil_of_length_eq_zero e2
    subst e3
    exact ⟨none, 0, e1, fun i hi => by simp at hi, fun b off e => by cases e⟩
  · subst e1
    exact ⟨_, _, rfl, nums_row h, fun b off e => by simp only [Option.some.injEq, Addr.mk.injEq] at e; omega⟩
theorem row_carry {S : Nat → Prop} {w w' : World} {base : Nat} {e : TypeId} {size : Nat} {v : Value} {n : Nat} {xs : List Value} (h : w.ownsRow base e size v n xs) (f : Fr S w w') (hs : ∀ k, base ≤ k → ¬ S k) : w'.ownsRow base e size v n xs := by
  obtain ⟨h1, h2⟩ := h
  refine ⟨h1, ?_⟩
  rcases h2 with h2 | ⟨g, cap, cur, e1, hb, hc, rest⟩
  · exact .inl h2
  · exact .inr ⟨g, cap, cur, e1, hb, by rw [f.block g (Array.getElem?_eq_some_iff.1 hc).1 (hs g hb)]; exact hc, rest⟩
/-- A list that lies in a new block. -/
theorem nums_new {w w' : World} {B : Nat} {l : List Int} {T : TypeId} (h : w.heap[B]? = some (.cells (ic l).toArray T (0, 0))) (f : Fr (fun _ => False) w w') : NumsAt w' (some ⟨B, 0, none⟩) l := fun i hi => by
  have hb := (Array.getElem?_eq_some_iff.1 h).1
  refine ⟨B, 0, rfl, by have := f.size; omega, ?_⟩
  rw [World.cell?_of_block (f.block B hb id)]
  simp [World.cell?, h, hi, ic]
/-- 'l[:k]' and 'l[k:]' of a list of numbers. -/
theorem run_head (ad : Option Addr) (n cap k : Nat) (hk : k ≤ cap) : ∃ ad' : Option Addr, (∀ w, (Instr.slice 24 (.slice ad n cap) none (some (.int .i64 (k : Int))) none).run Tryz.prog w = .ok (.slice ad' k cap) w) ∧ ∀ (w : World) (l : List Int), NumsAt w ad l → NumsAt w ad' (l.take k) := by
  obtain ⟨i0, hi, hz0, hz1, hz2⟩ := info_parts Tryz.infoInt
  have hb : (0 : Int) ≤ (k : Int) ∧ (k : Int) ≤ (cap : Int) := by omega
  refine ⟨if cap = 0 then ad else ad.map (·.add (0 * 1)), fun w => ?_, fun w l h => ?_⟩
  · simp [Instr.slice, Instr.sliceBounds, Instr.sliceBound, asIntOf, run_underlying Tryz.underlying24, sizeOf, typeInfo, hi, hb, hk]
  · intro i hi2
    obtain ⟨b, off, rfl, h2, h3⟩ := h.take k i hi2
    refine ⟨b, off, ?_, h2, h3⟩
    split
    · rfl
    · simp [add_plain]
theorem run_tail (ad : Option Addr) (n cap k : Nat) (hk : k ≤ n) (hc : n ≤ cap) : ∃ (ad' : Option Addr) (cap' : Nat), (∀ w, (Instr.slice 24 (.slice ad n cap) (some (.int .i64 (k : Int))) none none).run Tryz.prog w = .ok (.slice ad' (n - k) cap') w) ∧ ∀ (w : World) (l : List Int), l.length = n → NumsAt w ad l → NumsAt w ad' (l.drop k) := by
  obtain ⟨i0, hi, hz0, hz1, hz2⟩ := info_parts Tryz.infoInt
  have hb : (0 : Int) ≤ (k : Int) ∧ (k : Int) ≤ (n : Int) := by omega
  refine ⟨if cap = k then ad else ad.map (·.add (k * 1)), cap - k, fun w => ?_, fun w l hl h => ?_⟩
  · simp [Instr.slice, Instr.sliceBounds, Instr.sliceBound, asIntOf, run_underlying Tryz.underlying24, sizeOf, typeInfo, hi, hz1, hb]
    intro h; omega
  · intro i hi2
    have hi3 := hi2
    rw [List.length_drop] at hi3
    obtain ⟨b, off, rfl, _, _⟩ := h (k + i) (by omega)
    obtain ⟨b', off', e, h2, h3⟩ := h.drop k i hi2
    refine ⟨b', off', ?_, h2, h3⟩
    rw [if_neg (by omega), ← e]
    simp [add_plain]
theorem made_ints (n : Nat) : madeCells #[Value.int .i64 0] n = (ic (List.replicate n 0)).toArray := by
  apply Array.ext'
  rw [toList_madeCells_one]
  simp [ic]
/-- One number is put behind a row of the call's own. -/
theorem push1 {w : World} {ops : Array Oper} {rest : List Oper} {o : Oper} {a : Act} {Q : Exit → Act → World → Prop} (hgd : o.guard = none) (s x : Operand)
    (ho : o.op = .call { callee := .builtin .append, args := #[s, x], argTypes := #[24, 24] })
    (base : Nat) (y : Value) (ys : List Int) (z : Int) (hs : a.eval s = y) (hown : w.ownsRow base 3 1 y ys.length (ic ys))
    (B : Nat) (hx : a.eval x = .slice (some ⟨B, 0, none⟩) 1 1) (hz : w.cell? ⟨B, 0, none⟩ = some (.int .i64 z)) (hl : ys.length < 100000) (hbase : base ≤ w.heap.size)
    (h : ∀ g cap w', w'.ownsRow base 3 1 (.slice (some ⟨g, 0, none⟩) (ys.length + 1) cap) (ys.length + 1) (ic (ys ++ [z])) → w.grownBy w' y.ownBlock → wpList Tryz.prog ops Q rest (a.put o.dst (.slice (some ⟨g, 0, none⟩) (ys.length + 1) cap)) w') : wpList Tryz.prog ops Q (o :: rest) a w := by
  obtain ⟨i0, hi, hz0, hz1, hz2⟩ := info_parts Tryz.infoInt
  refine wpList_append_sep hgd s x 24 ho base 3 i0 (.int .i64 0) 1 8 Tryz.underlying24 hi hz0 hz1 hz2 rfl (by decide) y ys.length (ic ys) hs hown ⟨B, 0, none⟩ 1 1 (by decide) [.int .i64 z] hx rfl ?_ ?_ (by unfold maxLen; omega) (by omega) hbase ?_
  · intro j u hj
    match j, hj with
    | 0, hj => simp at hj; subst hj; simpa [Addr.add] using hz
  · intro u hu; simp at hu; subst hu; rfl
  · intro g cap w' hown' hg _
    refine h g cap w' ?_ hg
    rw [ic_snoc]
    exact hown'
end Go.Proofs.YtihaifnenjngpaaGreatDoor
