/-
  Each call of either arena told without cases, and for two arenas side by side.
-/
import Derived.Test.YtcajdbklchjkkaaAnRefB
import Derived.Test.YtcajdbklchjkkaaAnSame
namespace Go.Proofs.Ytcajdbklchjkkaa.An
open Go.RowKit

/-- The Errno of a call whose bytes are there, or aren't. -/
def errE (c : Bool) : Int := if c then 0 else 4
def ldV (c : Bool) (bs : List UInt8) (x : Int) : Int := if c then (word ((bs.drop x.toNat).take 8) : Int) else 0
def rdV (c : Bool) (bs : List UInt8) (x n : Int) : ByteArray := if c then ⟨((bs.drop x.toNat).take n.toNat).toArray⟩ else ⟨#[]⟩
def layB (c : Bool) (bs : List UInt8) (x : Int) (ds : List UInt8) : List UInt8 := if c then over bs x.toNat ds else bs
def notS (c : Bool) (ss : List Sp) (x n : Int) (wr : Bool) : List Sp := if c then noted ss x n wr else ss
def notC (c : Bool) (ss : List Sp) (x y n : Int) : List Sp := if c then noted (noted ss y n false) x n true else ss
theorem layB_length (c : Bool) (bs : List UInt8) (x : Int) (ds : List UInt8) (h : c = true → 0 ≤ x ∧ x + ds.length ≤ bs.length) : (layB c bs x ds).length = bs.length := by
  unfold layB
  split
  · rename_i hc
    have := h hc
    exact over_length _ _ _ (by omega)
  · rfl
theorem notS_le (c : Bool) (ss : List Sp) (x n : Int) (wr : Bool) : (notS c ss x n wr).length ≤ ss.length + 1 := by
  unfold notS; split
  · exact noted_le _ _ _ _
  · omega
theorem notC_le (c : Bool) (ss : List Sp) (x y n : Int) : (notC c ss x y n).length ≤ ss.length + 2 := by
  unfold notC; split
  · have h1 := noted_le ss y n false
    have h2 := noted_le (noted ss y n false) x n true
    omega
  · omega
theorem noted8 (ss : List Sp) (p : Nat) (wr : Bool) : noted ss p 8 wr = ss ++ [((p : Int), (8 : Int), wr)] := by
  unfold noted; rw [if_pos (by omega)]



theorem u_read {w : World} {B a b : Nat} {bs : List UInt8} {v : Value} {ss : List Sp} (h : Ar w 77 B a b bs v ss) (x n : Int) (hx : x ≤ 9223372036854775807) (hk : ss.length ≤ 1000000) :
    Calls Try.prog 15 #[.pointer (some ⟨a, 0, none⟩), .int .i64 x, .int .i64 n] w fun e w' => e = .returned (.tuple #[.string (rdV (inB x n bs.length) bs x n), .int .i64 (errE (inB x n bs.length))]) ∧ Noted w w' 77 B a b bs v (notS (inB x n bs.length) ss x n false) := by
  cases hc : inB x n bs.length with
  | true =>
    have hin := hc
    rw [inB_true] at hin
    obtain ⟨h0, h1, h2⟩ := hin
    clear hc
    obtain ⟨p, rfl⟩ := Int.eq_ofNat_of_zero_le h0
    obtain ⟨m, rfl⟩ := Int.eq_ofNat_of_zero_le h1
    exact read_ok h p m (by omega) hk
  | false =>
    exact (read_no h x n hx hc).mono fun e w' ⟨he, hw⟩ => ⟨he, by subst hw; exact Noted.same h⟩

theorem u_write {w : World} {B a b : Nat} {bs : List UInt8} {v : Value} {ss : List Sp} (h : Ar w 77 B a b bs v ss) (x : Int) (s : ByteArray) (hx : x ≤ 9223372036854775807) (hk : ss.length ≤ 1000000) :
    Calls Try.prog 18 #[.pointer (some ⟨a, 0, none⟩), .int .i64 x, .string s] w fun e w' => e = .returned (.int .i64 (errE (inB x s.size bs.length))) ∧ Noted w w' 77 B a b (layB (inB x s.size bs.length) bs x s.data.toList) v (notS (inB x s.size bs.length) ss x s.size true) := by
  cases hc : inB x s.size bs.length with
  | true =>
    have hin := hc
    rw [inB_true] at hin
    obtain ⟨h0, h1, h2⟩ := hin
    clear hc
    obtain ⟨p, rfl⟩ := Int.eq_ofNat_of_zero_le h0
    exact write_ok h p s (by omega) hk
  | false =>
    exact (write_no h x s hx hc).mono fun e w' ⟨he, hw⟩ => ⟨he, by subst hw; exact Noted.same h⟩

theorem u_zero {w : World} {B a b : Nat} {bs : List UInt8} {v : Value} {ss : List Sp} (h : Ar w 77 B a b bs v ss) (x n : Int) (hx : x ≤ 9223372036854775807) (hk : ss.length ≤ 1000000) :
    Calls Try.prog 47 #[.pointer (some ⟨a, 0, none⟩), .int .i64 x, .int .i64 n] w fun e w' => e = .returned (.int .i64 (errE (inB x n bs.length))) ∧ Noted w w' 77 B a b (layB (inB x n bs.length) bs x (List.replicate n.toNat 0)) v (notS (inB x n bs.length) ss x n true) := by
  cases hc : inB x n bs.length with
  | true =>
    have hin := hc
    rw [inB_true] at hin
    obtain ⟨h0, h1, h2⟩ := hin
    clear hc
    obtain ⟨p, rfl⟩ := Int.eq_ofNat_of_zero_le h0
    obtain ⟨m, rfl⟩ := Int.eq_ofNat_of_zero_le h1
    exact zero_ok h p m (by omega) hk
  | false =>
    exact (zero_no h x n hx hc).mono fun e w' ⟨he, hw⟩ => ⟨he, by subst hw; exact Noted.same h⟩




theorem ru_read {w : World} {B a b : Nat} {bs : List UInt8} {v : Value} {ss : List Sp} (h : Ar w 51 B a b bs v ss) (x n : Int) (hx : x ≤ 9223372036854775807) (hk : ss.length ≤ 1000000) :
    Calls Try.prog 50 #[.pointer (some ⟨a, 0, none⟩), .int .i64 x, .int .i64 n] w fun e w' => e = .returned (.tuple #[.string (rdV (inB x n bs.length) bs x n), .int .i64 (errE (inB x n bs.length))]) ∧ Noted w w' 51 B a b bs v (notS (inB x n bs.length) ss x n false) := by
  cases hc : inB x n bs.length with
  | true =>
    have hin := hc
    rw [inB_true] at hin
    obtain ⟨h0, h1, h2⟩ := hin
    clear hc
    obtain ⟨p, rfl⟩ := Int.eq_ofNat_of_zero_le h0
    obtain ⟨m, rfl⟩ := Int.eq_ofNat_of_zero_le h1
    exact rread_ok h p m (by omega) hk
  | false =>
    exact (rread_no h x n hx hc).mono fun e w' ⟨he, hw⟩ => ⟨he, by subst hw; exact Noted.same h⟩

theorem ru_write {w : World} {B a b : Nat} {bs : List UInt8} {v : Value} {ss : List Sp} (h : Ar w 51 B a b bs v ss) (x : Int) (s : ByteArray) (hx : x ≤ 9223372036854775807) (hk : ss.length ≤ 1000000) :
    Calls Try.prog 51 #[.pointer (some ⟨a, 0, none⟩), .int .i64 x, .string s] w fun e w' => e = .returned (.int .i64 (errE (inB x s.size bs.length))) ∧ Noted w w' 51 B a b (layB (inB x s.size bs.length) bs x s.data.toList) v (notS (inB x s.size bs.length) ss x s.size true) := by
  cases hc : inB x s.size bs.length with
  | true =>
    have hin := hc
    rw [inB_true] at hin
    obtain ⟨h0, h1, h2⟩ := hin
    clear hc
    obtain ⟨p, rfl⟩ := Int.eq_ofNat_of_zero_le h0
    exact rwrite_ok h p s (by omega) hk
  | false =>
    exact (rwrite_no h x s hx hc).mono fun e w' ⟨he, hw⟩ => ⟨he, by subst hw; exact Noted.same h⟩

theorem ru_zero {w : World} {B a b : Nat} {bs : List UInt8} {v : Value} {ss : List Sp} (h : Ar w 51 B a b bs v ss) (x n : Int) (hx : x ≤ 9223372036854775807) (hk : ss.length ≤ 1000000) :
    Calls Try.prog 52 #[.pointer (some ⟨a, 0, none⟩), .int .i64 x, .int .i64 n] w fun e w' => e = .returned (.int .i64 (errE (inB x n bs.length))) ∧ Noted w w' 51 B a b (layB (inB x n bs.length) bs x (List.replicate n.toNat 0)) v (notS (inB x n bs.length) ss x n true) := by
  cases hc : inB x n bs.length with
  | true =>
    have hin := hc
    rw [inB_true] at hin
    obtain ⟨h0, h1, h2⟩ := hin
    clear hc
    obtain ⟨p, rfl⟩ := Int.eq_ofNat_of_zero_le h0
    obtain ⟨m, rfl⟩ := Int.eq_ofNat_of_zero_le h1
    exact rzero_ok h p m (by omega) hk
  | false =>
    exact (rzero_no h x n hx hc).mono fun e w' ⟨he, hw⟩ => ⟨he, by subst hw; exact Noted.same h⟩

end Go.Proofs.Ytcajdbklchjkkaa.An
