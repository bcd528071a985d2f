/-
  Load and Store: words of eight bytes.
-/
import Derived.Test.YtcajdbklchjkkaaAnArena
namespace Go.Proofs.Ytcajdbklchjkkaa.An
open Go.RowKit



/-- The number that bytes are, the lowest ones first. -/
def word : List UInt8 → Nat
  | [] => 0
  | x :: r => x.toNat + 256 * word r
theorem word_snoc : ∀ (l : List UInt8) (x : UInt8), word (l ++ [x]) = word l + x.toNat * 256 ^ l.length
  | [], x => by simp [word]
  | y :: l, x => by
    simp only [List.cons_append, word, word_snoc l x, List.length_cons, Nat.pow_succ, Nat.mul_add]
    rw [← Nat.add_assoc]
    congr 1
    rw [← Nat.mul_assoc, Nat.mul_comm 256, Nat.mul_assoc, Nat.mul_comm 256]
theorem word_lt : ∀ l : List UInt8, word l < 256 ^ l.length
  | [] => by simp [word]
  | x :: l => by
    have h := word_lt l
    have hx : x.toNat < 256 := x.toNat_lt
    simp only [word, List.length_cons, Nat.pow_succ]
    omega
/-- The n lowest bytes of a number. -/
def leb (u n : Nat) : List UInt8 := (List.range n).map fun i => UInt8.ofNat (u / 256 ^ i % 256)
theorem leb_length (u n : Nat) : (leb u n).length = n := by simp [leb]
theorem leb_succ (u n : Nat) : leb u (n + 1) = leb u n ++ [UInt8.ofNat (u / 256 ^ n % 256)] := by
  simp [leb, List.range_succ]
theorem word_leb (u : Nat) : ∀ n, word (leb u n) = u % 256 ^ n
  | 0 => by simp [leb, word, Nat.mod_one]
  | n + 1 => by
    rw [leb_succ, word_snoc, word_leb u n, leb_length, Nat.pow_succ, Nat.mod_mul]
    have h : (UInt8.ofNat (u / 256 ^ n % 256)).toNat = u / 256 ^ n % 256 := by
      simp
    rw [h, Nat.mul_comm]
theorem or_step (l : List UInt8) (x : UInt8) (h : l.length < 8) : bits BinOp.or IntKind.u64 (word l : Int) (IntKind.u64.wrap (IntKind.u64.wrap (x.toNat : Int) * 2 ^ (8 * l.length))) = (word (l ++ [x]) : Int) := by
  have hx : x.toNat < 256 := x.toNat_lt
  have hl := word_lt l
  have e256 : (256 : Nat) ^ l.length = 2 ^ (8 * l.length) := by rw [Nat.pow_mul]
  have hp : (2 : Nat) ^ (8 * l.length) ≤ 2 ^ 56 := Nat.pow_le_pow_right (by omega) (by omega)
  have hb : x.toNat * 2 ^ (8 * l.length) < 2 ^ 64 := by
    calc x.toNat * 2 ^ (8 * l.length) ≤ 255 * 2 ^ 56 := Nat.mul_le_mul (by omega) hp
      _ < 2 ^ 64 := by decide
  have w1 : IntKind.u64.wrap (x.toNat : Int) = (x.toNat : Int) := by
    rw [show IntKind.u64.wrap (x.toNat : Int) = (x.toNat : Int) % 18446744073709551616 from rfl]
    omega
  have w2 : IntKind.u64.wrap ((x.toNat : Int) * 2 ^ (8 * l.length)) = ((x.toNat * 2 ^ (8 * l.length) : Nat) : Int) := by
    rw [show IntKind.u64.wrap ((x.toNat : Int) * 2 ^ (8 * l.length)) = ((x.toNat : Int) * 2 ^ (8 * l.length)) % 18446744073709551616 from rfl]
    have e : ((x.toNat : Int) * 2 ^ (8 * l.length)) = ((x.toNat * 2 ^ (8 * l.length) : Nat) : Int) := by simp
    rw [e]
    have : x.toNat * 2 ^ (8 * l.length) < 18446744073709551616 := hb
    omega
  rw [w1, w2, u64_or_nat _ _ (by rw [e256] at hl; have : (2 : Nat) ^ 56 < 18446744073709551616 := (by decide); omega) hb, word_snoc, e256, Nat.or_comm, ← Nat.shiftLeft_eq, ← Nat.shiftLeft_add_eq_or_of_lt (by rw [← e256]; exact hl), Nat.add_comm]

theorem load_step (bs : List UInt8) (p j : Nat) (hj : j < 8) (hin : p + 8 ≤ bs.length) :
    bits BinOp.or IntKind.u64 (word ((bs.drop p).take j) : Int) (IntKind.u64.wrap (IntKind.u64.wrap ((bs[p + j]'(by omega)).toNat : Int) * 2 ^ (8 * j))) = (word ((bs.drop p).take (j + 1)) : Int) := by
  have hlen : ((bs.drop p).take j).length = j := by simp; omega
  have h1 := or_step ((bs.drop p).take j) (bs[p + j]'(by omega)) (by omega)
  rw [hlen] at h1
  rw [h1, List.take_add_one]
  simp [List.getElem?_drop, show p + j < bs.length by omega]


theorem over_step (bs : List UInt8) (p : Nat) (l : List UInt8) (x : UInt8) (h : p + l.length < bs.length) : (over bs p l).set (p + l.length) x = over bs p (l ++ [x]) := by
  have e : bs.drop (p + l.length) = bs[p + l.length] :: bs.drop (p + (l ++ [x]).length) := by
    rw [List.drop_eq_getElem_cons h]; simp [Nat.add_assoc]
  have hl : (bs.take p ++ l).length = p + l.length := by simp; omega
  unfold over
  rw [e, List.set_append_right _ _ (by omega), hl, Nat.sub_self, List.set_cons_zero]
  simp
theorem bc_set (l : List UInt8) (i : Nat) (x : UInt8) : (bc l).toArray.setIfInBounds i (.int .u8 (x.toNat : Int)) = (bc (l.set i x)).toArray := by
  simp [bc, List.map_set]
theorem Ar.setByte {w : World} {T : TypeId} {B a b : Nat} {bs : List UInt8} {v : Value} {ss : List Sp} (h : Ar w T B a b bs v ss) (i : Nat) (x : UInt8) : Ar (w.setCell ⟨b, i, none⟩ (.int .u8 (x.toNat : Int))) T B a b (bs.set i x) v ss := by
  rw [setCell_eq_setRow w b i _ _ _ _ h.by', bc_set]
  exact h.setRow _ (by simp)
theorem store_round {w : World} {T : TypeId} {B a b : Nat} {bs : List UInt8} {v : Value} {ss : List Sp} {p u j : Nat} (h : Ar w T B a b (over bs p (leb u j)) v ss) (hj : p + j < bs.length) :
    Ar (w.setCell ⟨b, p + j, none⟩ (.int .u8 ((u : Int) / 2 ^ (8 * j) % 256))) T B a b (over bs p (leb u (j + 1))) v ss := by
  have e : ((u : Int) / 2 ^ (8 * j) % 256) = (((UInt8.ofNat (u / 256 ^ j % 256)).toNat : Nat) : Int) := by
    have e1 : (256 : Nat) ^ j = 2 ^ (8 * j) := by rw [Nat.pow_mul]
    rw [e1]
    simp
  have h2 := h.setByte (p + j) (UInt8.ofNat (u / 256 ^ j % 256))
  rw [← e] at h2
  have h3 := over_step bs p (leb u j) (UInt8.ofNat (u / 256 ^ j % 256)) (by rw [leb_length]; exact hj)
  rw [leb_length, ← leb_succ] at h3
  rw [h3] at h2
  exact h2

end Go.Proofs.Ytcajdbklchjkkaa.An
