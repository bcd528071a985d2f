/-
  Each call of either arena told without cases, and for two arenas side by side.
-/
import Derived.Test.YthndakhnhnipnaaDoorAnRefB
import Derived.Test.YthndakhnhnipnaaDoorAnSame
namespace Go.Proofs.YthndakhnhnipnaaDoor.An
open Go.RowKit

/-- The Errno of a call whose bytes are there, or aren't. -/
def errE (c : Bool) : Int := if c then 0 else 4
def ldV (c : Bool) (bs : List UInt8) (x : Int) : Int := if c then (word ((bs.drop x.toNat).take 8) : Int) else 0
def rdV (c : Bool) (bs : List UInt8) (x n : Int) : ByteArray := if c then ⟨((bs.drop x.toNat).take n.toNat).toArray⟩ else ⟨#[]⟩
def layB (c : Bool) (bs : List UInt8) (x : Int) (ds : List UInt8) : List UInt8 := if c then over bs x.toNat ds else bs
def notS (c : Bool) (ss : List Sp) (x n : Int) (wr : Bool) : List Sp := if c then noted ss x n wr else ss
def notC (c : Bool) (ss : List Sp) (x y n : Int) : List Sp := if c then noted (noted ss y n false) x n true else ss
theorem layB_length (c : Bool) (bs : List UInt8) (x : Int) (ds : List UInt8) (h : c = true → 0 ≤ x ∧ x + ds.length ≤ bs.length) : (layB c bs x ds).length = bs.length := by
  unfold layB
  split
  · rename_i hc
    have := h hc
    exact over_length _ _ _ (by omega)
  · rfl
theorem notS_le (c : Bool) (ss : List Sp) (x n : Int) (wr : Bool) : (notS c ss x n wr).length ≤ ss.length + 1 := by
  unfold notS; split
  · exact noted_le _ _ _ _
  · omega
theorem notC_le (c : Bool) (ss : List Sp) (x y n : Int) : (notC c ss x y n).length ≤ ss.length + 2 := by
  unfold notC; split
  · have h1 := noted_le ss y n false
    have h2 := noted_le (noted ss y n false) x n true
    omega
  · omega
theorem noted8 (ss : List Sp) (p : Nat) (wr : Bool) : noted ss p 8 wr = ss ++ [((p : Int), (8 : Int), wr)] := by
  unfold noted; rw [if_pos (by omega)]

theorem u_load {w : World} {B a b : Nat} {bs : List UInt8} {v : Value} {ss : List Sp} (h : Ar w 70 B a b bs v ss) (x : Int) (hx : x ≤ 9223372036854775807) (hk : ss.length ≤ 1000000) :
    Calls Tryd.prog 84 #[.pointer (some ⟨a, 0, none⟩), .int .i64 x] w fun e w' => e = .returned (.tuple #[.int .u64 (ldV (inB x 8 bs.length) bs x), .int .i64 (errE (inB x 8 bs.length))]) ∧ Noted w w' 70 B a b bs v (notS (inB x 8 bs.length) ss x 8 false) := by
  cases hc : inB x 8 bs.length with
  | true =>
    have hin := hc
    rw [inB_true] at hin
    obtain ⟨h0, h1, h2⟩ := hin
    clear hc
    obtain ⟨p, rfl⟩ := Int.eq_ofNat_of_zero_le h0
    have := load_ok h p (by omega) hk
    rw [← noted8] at this
    exact this
  | false =>
    exact (load_no h x hx hc).mono fun e w' ⟨he, hw⟩ => ⟨he, by subst hw; exact Noted.same h⟩

theorem u_store {w : World} {B a b : Nat} {bs : List UInt8} {v : Value} {ss : List Sp} (h : Ar w 70 B a b bs v ss) (x u : Int) (hx : x ≤ 9223372036854775807) (hu0 : 0 ≤ u) (hu1 : u ≤ 18446744073709551615) (hk : ss.length ≤ 1000000) :
    Calls Tryd.prog 76 #[.pointer (some ⟨a, 0, none⟩), .int .i64 x, .int .u64 u] w fun e w' => e = .returned (.int .i64 (errE (inB x 8 bs.length))) ∧ Noted w w' 70 B a b (layB (inB x 8 bs.length) bs x (leb u.toNat 8)) v (notS (inB x 8 bs.length) ss x 8 true) := by
  cases hc : inB x 8 bs.length with
  | true =>
    have hin := hc
    rw [inB_true] at hin
    obtain ⟨h0, h1, h2⟩ := hin
    clear hc
    obtain ⟨p, rfl⟩ := Int.eq_ofNat_of_zero_le h0
    obtain ⟨un, rfl⟩ := Int.eq_ofNat_of_zero_le hu0
    have := store_ok h p un (by omega) (by omega) hk
    rw [← noted8] at this
    exact this
  | false =>
    exact (store_no h x u hx hc).mono fun e w' ⟨he, hw⟩ => ⟨he, by subst hw; exact Noted.same h⟩

theorem u_read {w : World} {B a b : Nat} {bs : List UInt8} {v : Value} {ss : List Sp} (h : Ar w 70 B a b bs v ss) (x n : Int) (hx : x ≤ 9223372036854775807) (hk : ss.length ≤ 1000000) :
    Calls Tryd.prog 26 #[.pointer (some ⟨a, 0, none⟩), .int .i64 x, .int .i64 n] w fun e w' => e = .returned (.tuple #[.string (rdV (inB x n bs.length) bs x n), .int .i64 (errE (inB x n bs.length))]) ∧ Noted w w' 70 B a b bs v (notS (inB x n bs.length) ss x n false) := by
  cases hc : inB x n bs.length with
  | true =>
    have hin := hc
    rw [inB_true] at hin
    obtain ⟨h0, h1, h2⟩ := hin
    clear hc
    obtain ⟨p, rfl⟩ := Int.eq_ofNat_of_zero_le h0
    obtain ⟨m, rfl⟩ := Int.eq_ofNat_of_zero_le h1
    exact read_ok h p m (by omega) hk
  | false =>
    exact (read_no h x n hx hc).mono fun e w' ⟨he, hw⟩ => ⟨he, by subst hw; exact Noted.same h⟩

theorem u_write {w : World} {B a b : Nat} {bs : List UInt8} {v : Value} {ss : List Sp} (h : Ar w 70 B a b bs v ss) (x : Int) (s : ByteArray) (hx : x ≤ 9223372036854775807) (hk : ss.length ≤ 1000000) :
    Calls Tryd.prog 32 #[.pointer (some ⟨a, 0, none⟩), .int .i64 x, .string s] w fun e w' => e = .returned (.int .i64 (errE (inB x s.size bs.length))) ∧ Noted w w' 70 B a b (layB (inB x s.size bs.length) bs x s.data.toList) v (notS (inB x s.size bs.length) ss x s.size true) := by
  cases hc : inB x s.size bs.length with
  | true =>
    have hin := hc
    rw [inB_true] at hin
    obtain ⟨h0, h1, h2⟩ := hin
    clear hc
    obtain ⟨p, rfl⟩ := Int.eq_ofNat_of_zero_le h0
    exact write_ok h p s (by omega) hk
  | false =>
    exact (write_no h x s hx hc).mono fun e w' ⟨he, hw⟩ => ⟨he, by subst hw; exact Noted.same h⟩

theorem u_zero {w : World} {B a b : Nat} {bs : List UInt8} {v : Value} {ss : List Sp} (h : Ar w 70 B a b bs v ss) (x n : Int) (hx : x ≤ 9223372036854775807) (hk : ss.length ≤ 1000000) :
    Calls Tryd.prog 35 #[.pointer (some ⟨a, 0, none⟩), .int .i64 x, .int .i64 n] w fun e w' => e = .returned (.int .i64 (errE (inB x n bs.length))) ∧ Noted w w' 70 B a b (layB (inB x n bs.length) bs x (List.replicate n.toNat 0)) v (notS (inB x n bs.length) ss x n true) := by
  cases hc : inB x n bs.length with
  | true =>
    have hin := hc
    rw [inB_true] at hin
    obtain ⟨h0, h1, h2⟩ := hin
    clear hc
    obtain ⟨p, rfl⟩ := Int.eq_ofNat_of_zero_le h0
    obtain ⟨m, rfl⟩ := Int.eq_ofNat_of_zero_le h1
    exact zero_ok h p m (by omega) hk
  | false =>
    exact (zero_no h x n hx hc).mono fun e w' ⟨he, hw⟩ => ⟨he, by subst hw; exact Noted.same h⟩

theorem u_copy {w : World} {B a b : Nat} {bs : List UInt8} {v : Value} {ss : List Sp} (h : Ar w 70 B a b bs v ss) (x y n : Int) (hx : x ≤ 9223372036854775807) (hy : y ≤ 9223372036854775807) (hk : ss.length < 1000000) :
    Calls Tryd.prog 34 #[.pointer (some ⟨a, 0, none⟩), .int .i64 x, .int .i64 y, .int .i64 n] w fun e w' => e = .returned (.int .i64 (errE ((inB x n bs.length && inB y n bs.length)))) ∧ Noted w w' 70 B a b (layB (inB x n bs.length && inB y n bs.length) bs x ((bs.drop y.toNat).take n.toNat)) v (notC (inB x n bs.length && inB y n bs.length) ss x y n) := by
  cases hc : inB x n bs.length && inB y n bs.length with
  | true =>
    have hin := hc
    rw [Bool.and_eq_true, inB_true, inB_true] at hin
    obtain ⟨⟨h0, h1, h2⟩, h3, _, h4⟩ := hin
    obtain ⟨p, rfl⟩ := Int.eq_ofNat_of_zero_le h0
    obtain ⟨q, rfl⟩ := Int.eq_ofNat_of_zero_le h3
    obtain ⟨m, rfl⟩ := Int.eq_ofNat_of_zero_le h1
    exact copy_ok h p q m (by omega) (by omega) hk
  | false =>
    by_cases h0 : inB x n bs.length = true
    · exact (copy_no2 h x y n hx hy h0 (by rw [h0] at hc; simpa using hc)).mono fun e w' ⟨he, hw⟩ => ⟨he, by subst hw; exact Noted.same h⟩
    · exact (copy_no1 h x y n hx (by simpa using h0)).mono fun e w' ⟨he, hw⟩ => ⟨he, by subst hw; exact Noted.same h⟩

theorem ru_load {w : World} {B a b : Nat} {bs : List UInt8} {v : Value} {ss : List Sp} (h : Ar w 56 B a b bs v ss) (x : Int) (hx : x ≤ 9223372036854775807) (hk : ss.length ≤ 1000000) :
    Calls Tryd.prog 71 #[.pointer (some ⟨a, 0, none⟩), .int .i64 x] w fun e w' => e = .returned (.tuple #[.int .u64 (ldV (inB x 8 bs.length) bs x), .int .i64 (errE (inB x 8 bs.length))]) ∧ Noted w w' 56 B a b bs v (notS (inB x 8 bs.length) ss x 8 false) := by
  cases hc : inB x 8 bs.length with
  | true =>
    have hin := hc
    rw [inB_true] at hin
    obtain ⟨h0, h1, h2⟩ := hin
    clear hc
    obtain ⟨p, rfl⟩ := Int.eq_ofNat_of_zero_le h0
    have := rload_ok h p (by omega) hk
    rw [← noted8] at this
    exact this
  | false =>
    exact (rload_no h x hx hc).mono fun e w' ⟨he, hw⟩ => ⟨he, by subst hw; exact Noted.same h⟩

theorem ru_store {w : World} {B a b : Nat} {bs : List UInt8} {v : Value} {ss : List Sp} (h : Ar w 56 B a b bs v ss) (x u : Int) (hx : x ≤ 9223372036854775807) (hu0 : 0 ≤ u) (hu1 : u ≤ 18446744073709551615) (hk : ss.length ≤ 1000000) :
    Calls Tryd.prog 72 #[.pointer (some ⟨a, 0, none⟩), .int .i64 x, .int .u64 u] w fun e w' => e = .returned (.int .i64 (errE (inB x 8 bs.length))) ∧ Noted w w' 56 B a b (layB (inB x 8 bs.length) bs x (leb u.toNat 8)) v (notS (inB x 8 bs.length) ss x 8 true) := by
  cases hc : inB x 8 bs.length with
  | true =>
    have hin := hc
    rw [inB_true] at hin
    obtain ⟨h0, h1, h2⟩ := hin
    clear hc
    obtain ⟨p, rfl⟩ := Int.eq_ofNat_of_zero_le h0
    obtain ⟨un, rfl⟩ := Int.eq_ofNat_of_zero_le hu0
    have := rstore_ok h p un (by omega) (by omega) hk
    rw [← noted8] at this
    exact this
  | false =>
    exact (rstore_no h x u hx hc).mono fun e w' ⟨he, hw⟩ => ⟨he, by subst hw; exact Noted.same h⟩



theorem ru_zero {w : World} {B a b : Nat} {bs : List UInt8} {v : Value} {ss : List Sp} (h : Ar w 56 B a b bs v ss) (x n : Int) (hx : x ≤ 9223372036854775807) (hk : ss.length ≤ 1000000) :
    Calls Tryd.prog 54 #[.pointer (some ⟨a, 0, none⟩), .int .i64 x, .int .i64 n] w fun e w' => e = .returned (.int .i64 (errE (inB x n bs.length))) ∧ Noted w w' 56 B a b (layB (inB x n bs.length) bs x (List.replicate n.toNat 0)) v (notS (inB x n bs.length) ss x n true) := by
  cases hc : inB x n bs.length with
  | true =>
    have hin := hc
    rw [inB_true] at hin
    obtain ⟨h0, h1, h2⟩ := hin
    clear hc
    obtain ⟨p, rfl⟩ := Int.eq_ofNat_of_zero_le h0
    obtain ⟨m, rfl⟩ := Int.eq_ofNat_of_zero_le h1
    exact rzero_ok h p m (by omega) hk
  | false =>
    exact (rzero_no h x n hx hc).mono fun e w' ⟨he, hw⟩ => ⟨he, by subst hw; exact Noted.same h⟩

end Go.Proofs.YthndakhnhnipnaaDoor.An
