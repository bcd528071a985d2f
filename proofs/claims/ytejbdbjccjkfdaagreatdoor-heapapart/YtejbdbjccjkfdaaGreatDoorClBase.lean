/-
  Load and Store: words of eight bytes.
  Chains of blocks whose links lie in a row of bytes: plain mathematics off the document. Nothing of the program is named here.
  Kinds of blocks as the document has them: plain mathematics. Nothing of the program is named here.
-/
import Derived.Test.YtejbdbjccjkfdaaGreatDoorAnArena
namespace Go.Proofs.YtejbdbjccjkfdaaGreatDoor.An
open Go.RowKit



/-- The number that bytes are, the lowest ones first. -/
def word : List UInt8 → Nat
  | [] => 0
  | x :: r => x.toNat + 256 * word r
theorem word_snoc : ∀ (l : List UInt8) (x : UInt8), word (l ++ [x]) = word l + x.toNat * 256 ^ l.length
  | [], x => by simp [word]
  | y :: l, x => by
    simp only [List.cons_append, word, word_snoc l x, List.length_cons, Nat.pow_succ, Nat.mul_add]
    rw [← Nat.add_assoc]
    congr 1
    rw [← Nat.mul_assoc, Nat.mul_comm 256, Nat.mul_assoc, Nat.mul_comm 256]
theorem word_lt : ∀ l : List UInt8, word l < 256 ^ l.length
  | [] => by simp [word]
  | x :: l => by
    have h := word_lt l
    have hx : x.toNat < 256 := x.toNat_lt
    simp only [word, List.length_cons, Nat.pow_succ]
    omega
/-- The n lowest bytes of a number. -/
def leb (u n : Nat) : List UInt8 := (List.range n).map fun i => UInt8.ofNat (u / 256 ^ i % 256)
theorem leb_length (u n : Nat) : (leb u n).length = n := by simp [leb]
theorem leb_succ (u n : Nat) : leb u (n + 1) = leb u n ++ [UInt8.ofNat (u / 256 ^ n % 256)] := by
  simp [leb, List.range_succ]
theorem word_leb (u : Nat) : ∀ n, word (leb u n) = u % 256 ^ n
  | 0 => by simp [leb, word, Nat.mod_one]
  | n + 1 => by
    rw [leb_succ, word_snoc, word_leb u n, leb_length, Nat.pow_succ, Nat.mod_mul]
    have h : (UInt8.ofNat (u / 256 ^ n % 256)).toNat = u / 256 ^ n % 256 := by
      simp
    rw [h, Nat.mul_comm]
theorem or_step (l : List UInt8) (x : UInt8) (h : l.length < 8) : bits BinOp.or IntKind.u64 (word l : Int) (IntKind.u64.wrap (IntKind.u64.wrap (x.toNat : Int) * 2 ^ (8 * l.length))) = (word (l ++ [x]) : Int) := by
  have hx : x.toNat < 256 := x.toNat_lt
  have hl := word_lt l
  have e256 : (256 : Nat) ^ l.length = 2 ^ (8 * l.length) := by rw [Nat.pow_mul]
  have hp : (2 : Nat) ^ (8 * l.length) ≤ 2 ^ 56 := Nat.pow_le_pow_right (by omega) (by omega)
  have hb : x.toNat * 2 ^ (8 * l.length) < 2 ^ 64 := by
    calc x.toNat * 2 ^ (8 * l.length) ≤ 255 * 2 ^ 56 := Nat.mul_le_mul (by omega) hp
      _ < 2 ^ 64 := by decide
  have w1 : IntKind.u64.wrap (x.toNat : Int) = (x.toNat : Int) := by
    rw [show IntKind.u64.wrap (x.toNat : Int) = (x.toNat : Int) % 18446744073709551616 from rfl]
    omega
  have w2 : IntKind.u64.wrap ((x.toNat : Int) * 2 ^ (8 * l.length)) = ((x.toNat * 2 ^ (8 * l.length) : Nat) : Int) := by
    rw [show IntKind.u64.wrap ((x.toNat : Int) * 2 ^ (8 * l.length)) = ((x.toNat : Int) * 2 ^ (8 * l.length)) % 18446744073709551616 from rfl]
    have e : ((x.toNat : Int) * 2 ^ (8 * l.length)) = ((x.toNat * 2 ^ (8 * l.length) : Nat) : Int) := by simp
    rw [e]
    have : x.toNat * 2 ^ (8 * l.length) < 18446744073709551616 := hb
    omega
  rw [w1, w2, u64_or_nat _ _ (by rw [e256] at hl; have : (2 : Nat) ^ 56 < 18446744073709551616 := (by decide); omega) hb, word_snoc, e256, Nat.or_comm, ← Nat.shiftLeft_eq, ← Nat.shiftLeft_add_eq_or_of_lt (by rw [← e256]; exact hl), Nat.add_comm]

theorem load_step (bs : List UInt8) (p j : Nat) (hj : j < 8) (hin : p + 8 ≤ bs.length) :
    bits BinOp.or IntKind.u64 (word ((bs.drop p).take j) : Int) (IntKind.u64.wrap (IntKind.u64.wrap ((bs[p + j]'(by omega)).toNat : Int) * 2 ^ (8 * j))) = (word ((bs.drop p).take (j + 1)) : Int) := by
  have hlen : ((bs.drop p).take j).length = j := by simp; omega
  have h1 := or_step ((bs.drop p).take j) (bs[p + j]'(by omega)) (by omega)
  rw [hlen] at h1
  rw [h1, List.take_add_one]
  simp [List.getElem?_drop, show p + j < bs.length by omega]

set_option maxRecDepth 20000 in
set_option maxHeartbeats 400000 in
theorem load_ok {w : World} {B a b : Nat} {bs : List UInt8} {v : Value} {ss : List Sp} (h : Ar w 144 B a b bs v ss) (p : Nat) (hin : p + 8 ≤ bs.length) (hk : ss.length ≤ 1000000) :
    Calls Tryz.prog 223 #[.pointer (some ⟨a, 0, none⟩), .int .i64 p] w fun e w' => e = .returned (.tuple #[.int .u64 (word ((bs.drop p).take 8)), .int .i64 0]) ∧
      Noted w w' 144 B a b bs v (ss ++ [((p : Int), (8 : Int), false)]) := by
  have hle := h.le
  have Ht : Hid (Calls Tryz.prog 78 #[.pointer (some ⟨a, 0, none⟩), .int .i64 p, .int .i64 8] w fun e w' => e = .returned (.bool true) ∧ w' = w) := by
    have ht := there_any h p 8 (by omega)
    rw [inB_true.2 ⟨by omega, by omega, by omega⟩] at ht
    exact ht
  have c0 := h.c0
  have HN : Hid (Calls Tryz.prog 79 #[.pointer (some ⟨a, 0, none⟩), .int .i64 p, .int .i64 8, .bool false] w fun e w' => e = .returned (.tuple #[]) ∧
      Noted w w' 144 B a b bs v (ss ++ [((p : Int), (8 : Int), false)])) := note_pos h p 8 false hk (by omega)
  have hcells : Hid (∀ j (hj : p + j < bs.length), w.cell? ⟨b, p + j, none⟩ = some (.int .u8 ((bs[p + j]'hj).toNat : Int))) := fun j hj => row_cell h.by' (p + j) hj
  clear h
  go_enter Tryz.func223, Tryz.ntmps223
  go_wp2
  go_step3
  go_wp2_with fail
  refine Ht.out.mono ?_
  rintro e w' ⟨rfl, hw⟩
  obtain rfl := hw.symm
  clear Ht
  go_wp2
  go_loop [6, 7, 14] (fun acc _ i => ∃ j : Nat, j ≤ 8 ∧ i = .int .i64 j ∧ acc = .int .u64 (word ((bs.drop p).take j))) (fun _ _ i => 8 - (intOf i).toNat)
  case atStart => exact ⟨0, by omega, rfl, rfl⟩
  case round =>
    obtain ⟨j, hj, rfl, rfl⟩ := hrel
    by_cases hlt : j < 8
    · have hc := hcells.out j (by omega)
      have hst := load_step bs p j hlt hin
      have HST : Hid (bits BinOp.or IntKind.u64 (word ((bs.drop p).take j) : Int) (IntKind.u64.wrap (IntKind.u64.wrap ((bs[p + j]'(by omega)).toNat : Int) * 2 ^ (8 * j))) = (word ((bs.drop p).take (j + 1)) : Int)) := hst
      clear hst
      generalize word ((bs.drop p).take j) = u at *
      go_wp2
      go_round
      case rel => exact ⟨j + 1, by omega, by go_num, by rw [HST.out]⟩
      case measure => simp [intOf]; omega
    · obtain rfl : j = 8 := by omega
      clear hcells
      go_wp2_with fail
      refine HN.out.mono ?_
      rintro e w1 ⟨rfl, hn⟩
      go_wp2
      rw [Exit.noGoto_ret]
      go_ret2
      exact ⟨rfl, hn⟩

theorem over_step (bs : List UInt8) (p : Nat) (l : List UInt8) (x : UInt8) (h : p + l.length < bs.length) : (over bs p l).set (p + l.length) x = over bs p (l ++ [x]) := by
  have e : bs.drop (p + l.length) = bs[p + l.length] :: bs.drop (p + (l ++ [x]).length) := by
    rw [List.drop_eq_getElem_cons h]; simp [Nat.add_assoc]
  have hl : (bs.take p ++ l).length = p + l.length := by simp; omega
  unfold over
  rw [e, List.set_append_right _ _ (by omega), hl, Nat.sub_self, List.set_cons_zero]
  simp
theorem bc_set (l : List UInt8) (i : Nat) (x : UInt8) : (bc l).toArray.setIfInBounds i (.int .u8 (x.toNat : Int)) = (bc (l.set i x)).toArray := by
  simp [bc, List.map_set]
theorem Ar.setByte {w : World} {T : TypeId} {B a b : Nat} {bs : List UInt8} {v : Value} {ss : List Sp} (h : Ar w T B a b bs v ss) (i : Nat) (x : UInt8) : Ar (w.setCell ⟨b, i, none⟩ (.int .u8 (x.toNat : Int))) T B a b (bs.set i x) v ss := by
  rw [setCell_eq_setRow w b i _ _ _ _ h.by', bc_set]
  exact h.setRow _ (by simp)
theorem store_round {w : World} {T : TypeId} {B a b : Nat} {bs : List UInt8} {v : Value} {ss : List Sp} {p u j : Nat} (h : Ar w T B a b (over bs p (leb u j)) v ss) (hj : p + j < bs.length) :
    Ar (w.setCell ⟨b, p + j, none⟩ (.int .u8 ((u : Int) / 2 ^ (8 * j) % 256))) T B a b (over bs p (leb u (j + 1))) v ss := by
  have e : ((u : Int) / 2 ^ (8 * j) % 256) = (((UInt8.ofNat (u / 256 ^ j % 256)).toNat : Nat) : Int) := by
    have e1 : (256 : Nat) ^ j = 2 ^ (8 * j) := by rw [Nat.pow_mul]
    rw [e1]
    simp
  have h2 := h.setByte (p + j) (UInt8.ofNat (u / 256 ^ j % 256))
  rw [← e] at h2
  have h3 := over_step bs p (leb u j) (UInt8.ofNat (u / 256 ^ j % 256)) (by rw [leb_length]; exact hj)
  rw [leb_length, ← leb_succ] at h3
  rw [h3] at h2
  exact h2

set_option maxRecDepth 20000 in
set_option maxHeartbeats 400000 in
theorem store_ok {w : World} {B a b : Nat} {bs : List UInt8} {v : Value} {ss : List Sp} (h : Ar w 144 B a b bs v ss) (p u : Nat) (_hu : u < 18446744073709551616) (hin : p + 8 ≤ bs.length) (hk : ss.length ≤ 1000000) :
    Calls Tryz.prog 199 #[.pointer (some ⟨a, 0, none⟩), .int .i64 p, .int .u64 u] w fun e w' => e = .returned (.int .i64 0) ∧
      Noted w w' 144 B a b (over bs p (leb u 8)) v (ss ++ [((p : Int), (8 : Int), true)]) := by
  have hle := h.le
  have Ht : Hid (Calls Tryz.prog 78 #[.pointer (some ⟨a, 0, none⟩), .int .i64 p, .int .i64 8] w fun e w' => e = .returned (.bool true) ∧ w' = w) := by
    have ht := there_any h p 8 (by omega)
    rw [inB_true.2 ⟨by omega, by omega, by omega⟩] at ht
    exact ht
  go_enter Tryz.func199, Tryz.ntmps199
  go_wp2
  go_step3
  go_wp2_with fail
  refine Ht.out.mono ?_
  rintro e w' ⟨rfl, hw⟩
  obtain rfl := hw.symm
  clear Ht
  go_wp2
  go_loopw [7, 14] (fun _ i wr => ∃ j : Nat, j ≤ 8 ∧ i = .int .i64 j ∧ Ar wr 144 B a b (over bs p (leb u j)) v ss ∧ Fr (fun y => y = b) w wr) (fun _ i _ => 8 - (intOf i).toNat)
  case atStart => exact ⟨0, by omega, rfl, by simpa [over, leb] using h, Fr.refl _ _⟩
  case round =>
    obtain ⟨j, hj, rfl, har, hfr⟩ := hrel
    by_cases hlt : j < 8
    · have hl : (over bs p (leb u j)).length = bs.length := over_length _ _ _ (by rw [leb_length]; omega)
      have c0 := har.c0
      rw [hl] at c0
      have hc := row_cell har.by' (p + j) (by rw [hl]; omega)
      have hz := row_frozen har.by' (p + j)
      generalize (over bs p (leb u j))[p + j].toNat = old at hc
      have HA : Hid (Ar wr 144 B a b (over bs p (leb u j)) v ss) := har
      have HF : Hid (Fr (fun y => y = b) w wr) := hfr
      clear har hfr h hl
      go_wp2
      go_region
      go_wp2
      go_roundw
      case rel => exact ⟨j + 1, by omega, by go_num, (store_round HA.out (by omega)).drew, (HF.out.setCell rfl _).drew⟩
      case measure => simp [intOf]; omega
    · obtain rfl : j = 8 := by omega
      have HN : Hid (Calls Tryz.prog 79 #[.pointer (some ⟨a, 0, none⟩), .int .i64 p, .int .i64 8, .bool true] wr fun e w' => e = .returned (.tuple #[]) ∧
        Noted wr w' 144 B a b (over bs p (leb u 8)) v (ss ++ [((p : Int), (8 : Int), true)])) := note_pos har p 8 true hk (by omega)
      have HF : Hid (Fr (fun y => y = b) w wr) := hfr
      clear har hfr h
      go_wp2_with fail
      refine HN.out.mono ?_
      rintro e w1 ⟨rfl, hn⟩
      go_wp2
      rw [Exit.noGoto_ret]
      go_ret
      exact ⟨rfl, Noted.step (HF.out.mono fun _ _ h => .inr (.inl h)) (fun _ h => .inl h) hn⟩
end Go.Proofs.YtejbdbjccjkfdaaGreatDoor.An

namespace Go.Proofs.YtejbdbjccjkfdaaGreatDoor
open Go.RowKit
open An

theorem over_get? (bs : List UInt8) (p : Nat) (ds : List UInt8) (h : p + ds.length ≤ bs.length) (j : Nat) : (over bs p ds)[j]? = if j < p then bs[j]? else if j < p + ds.length then ds[j - p]? else bs[j]? := by
  unfold over
  have hp : (bs.take p).length = p := by simp; omega
  by_cases h1 : j < p
  · rw [if_pos h1, List.append_assoc, List.getElem?_append_left (by omega), List.getElem?_take_of_lt h1]
  · rw [if_neg h1]
    by_cases h2 : j < p + ds.length
    · rw [if_pos h2, List.getElem?_append_left (by rw [List.length_append]; omega), List.getElem?_append_right (by omega), hp]
    · rw [if_neg h2, List.getElem?_append_right (by rw [List.length_append]; omega), List.length_append, hp, List.getElem?_drop]
      congr 1
      omega
/-- The word at p. -/
def wd (bs : List UInt8) (p : Nat) : Nat := word ((bs.drop p).take 8)
theorem wd_lt (bs : List UInt8) (p : Nat) : wd bs p < 18446744073709551616 := by
  have h := word_lt ((bs.drop p).take 8)
  have h2 : ((bs.drop p).take 8).length ≤ 8 := by simp; omega
  have h3 : 256 ^ ((bs.drop p).take 8).length ≤ 256 ^ 8 := Nat.pow_le_pow_right (by omega) h2
  unfold wd
  omega
theorem wd_same {bs : List UInt8} {p u : Nat} (h : p + 8 ≤ bs.length) (hu : u < 18446744073709551616) : wd (over bs p (leb u 8)) p = u := by
  have hl : (leb u 8).length = 8 := leb_length u 8
  have e : ((over bs p (leb u 8)).drop p).take 8 = leb u 8 := by
    apply List.ext_getElem?
    intro i
    by_cases hi : i < 8
    · rw [List.getElem?_take_of_lt hi, List.getElem?_drop, over_get? bs p _ (by omega), if_neg (by omega), if_pos (by omega)]
      congr 1
      omega
    · rw [List.getElem?_eq_none (by simp; omega), List.getElem?_eq_none (by omega)]
  unfold wd
  rw [e, word_leb]
  exact Nat.mod_eq_of_lt hu
theorem wd_apart {bs : List UInt8} {p u q : Nat} (h : p + 8 ≤ bs.length) (hq : q + 8 ≤ p ∨ p + 8 ≤ q) : wd (over bs p (leb u 8)) q = wd bs q := by
  have hl : (leb u 8).length = 8 := leb_length u 8
  unfold wd
  congr 1
  apply List.ext_getElem?
  intro i
  by_cases hi : i < 8
  · rw [List.getElem?_take_of_lt hi, List.getElem?_take_of_lt hi, List.getElem?_drop, List.getElem?_drop, over_get? bs p _ (by omega)]
    by_cases h1 : q + i < p
    · rw [if_pos h1]
    · rw [if_neg h1, if_neg (by omega)]
  · rw [List.getElem?_eq_none (by simp; omega), List.getElem?_eq_none (by simp; omega)]
/-- A chain: where its blocks lie, and its head's number and one (0: none). -/
structure Ck where
  base : Nat
  unit : Nat
  per : Nat
  hd : Nat
structure Ck.Ok (k : Ck) (n : Nat) : Prop where
  u0 : 8 ≤ k.unit
  u1 : k.unit ≤ 512
  p0 : 1 ≤ k.per
  p1 : k.per ≤ 64
  hd : k.hd ≤ k.per
  fit : k.base + k.unit * k.per ≤ n
def Ck.pos (k : Ck) (x : Nat) : Nat := k.base + x * k.unit
def Ck.to (k : Ck) (v : Nat) : Ck := ⟨k.base, k.unit, k.per, v⟩
theorem Ck.Ok.at {k : Ck} {n : Nat} (h : k.Ok n) {x : Nat} (hx : x < k.per) : k.pos x + 8 ≤ n := by
  have h1 := h.u0; have h2 := h.fit
  have h3 : (x + 1) * k.unit ≤ k.per * k.unit := Nat.mul_le_mul_right _ hx
  rw [Nat.add_mul, Nat.one_mul, Nat.mul_comm k.per] at h3
  unfold Ck.pos
  omega
theorem Ck.Ok.to {k : Ck} {n v : Nat} (h : k.Ok n) (hv : v ≤ k.per) : (k.to v).Ok n := ⟨h.u0, h.u1, h.p0, h.p1, hv, h.fit⟩
theorem Ck.Ok.apart {k : Ck} {n : Nat} (h : k.Ok n) {x y : Nat} (hn : x ≠ y) : k.pos x + 8 ≤ k.pos y ∨ k.pos y + 8 ≤ k.pos x := by
  have h1 := h.u0
  unfold Ck.pos
  rcases Nat.lt_or_gt_of_ne hn with e | e
  · have h3 : (x + 1) * k.unit ≤ y * k.unit := Nat.mul_le_mul_right _ e
    rw [Nat.add_mul, Nat.one_mul] at h3
    omega
  · have h3 : (y + 1) * k.unit ≤ x * k.unit := Nat.mul_le_mul_right _ e
    rw [Nat.add_mul, Nat.one_mul] at h3
    omega
/-- Push. -/
abbrev Ck.Has (k : Ck) (x : Int) : Prop := 0 ≤ x ∧ x < k.per
def puB (k : Ck) (bs : List UInt8) (x : Int) : List UInt8 := if k.Has x then over bs (k.pos x.toNat) (leb k.hd 8) else bs
def puS (k : Ck) (x : Int) : Ck := if k.Has x then k.to (x.toNat + 1) else k
/-- Pop. -/
def Ck.top (k : Ck) : Nat := k.pos (k.hd - 1)
abbrev Ck.Good (k : Ck) (bs : List UInt8) : Prop := k.hd ≠ 0 ∧ wd bs k.top ≤ k.per
def poE (k : Ck) (bs : List UInt8) : Int := if k.hd = 0 then 13 else if wd bs k.top ≤ k.per then 0 else 14
/-- All: so many more, from this link on: the numbers, the error, the touches. -/
def al (k : Ck) (bs : List UInt8) : Nat → Nat → List Nat × Int × List Sp
  | _, 0 => ([], 0, [])
  | 0, _ + 1 => ([], 14, [])
  | n + 1, x + 1 => if wd bs (k.pos x) ≤ k.per then
      (if (al k bs n (wd bs (k.pos x))).2.1 = 0 then x :: (al k bs n (wd bs (k.pos x))).1 else [], (al k bs n (wd bs (k.pos x))).2.1, ((k.pos x : Int), (8 : Int), false) :: (al k bs n (wd bs (k.pos x))).2.2)
    else ([], 14, [((k.pos x : Int), (8 : Int), false)])
def alL (k : Ck) (bs : List UInt8) : List Nat := (al k bs k.per k.hd).1
def alE (k : Ck) (bs : List UInt8) : Int := (al k bs k.per k.hd).2.1
def alT (k : Ck) (bs : List UInt8) (ss : List Sp) : List Sp := ss ++ (al k bs k.per k.hd).2.2
theorem al_zero (k : Ck) (bs : List UInt8) (n : Nat) : al k bs n 0 = ([], 0, []) := by cases n <;> rfl
theorem al_more (k : Ck) (bs : List UInt8) (x : Nat) : al k bs 0 (x + 1) = ([], 14, []) := rfl
theorem al_on {k : Ck} {bs : List UInt8} {n x : Nat} (h : wd bs (k.pos x) ≤ k.per) : al k bs (n + 1) (x + 1) = (if (al k bs n (wd bs (k.pos x))).2.1 = 0 then x :: (al k bs n (wd bs (k.pos x))).1 else [], (al k bs n (wd bs (k.pos x))).2.1, ((k.pos x : Int), (8 : Int), false) :: (al k bs n (wd bs (k.pos x))).2.2) := by
  rw [al, if_pos h]
theorem al_form {k : Ck} {bs : List UInt8} {n x : Nat} (h : ¬ wd bs (k.pos x) ≤ k.per) : al k bs (n + 1) (x + 1) = ([], 14, [((k.pos x : Int), (8 : Int), false)]) := by
  rw [al, if_neg h]
/-- Amid All: these stand already, so many touches were made, this link comes next. -/
structure Amid (k : Ck) (bs : List UInt8) (ss : List Sp) (os : List Nat) (n v : Nat) (t : List Sp) : Prop where
  e : alE k bs = (al k bs n v).2.1
  t : alT k bs ss = t ++ (al k bs n v).2.2
  l : alL k bs = if (al k bs n v).2.1 = 0 then os ++ (al k bs n v).1 else []
  n : os.length + n = k.per
  v : v ≤ k.per
theorem Amid.start {k : Ck} {bs : List UInt8} (ss : List Sp) (h : k.hd ≤ k.per) : Amid k bs ss [] k.per k.hd ss := by
  refine ⟨rfl, rfl, ?_, by simp, h⟩
  by_cases h0 : (al k bs k.per k.hd).2.1 = 0
  · rw [if_pos h0]; rfl
  · rw [if_neg h0]
    have : ∀ n v, (al k bs n v).2.1 ≠ 0 → (al k bs n v).1 = [] := by
      intro n v hv
      cases v with
      | zero => rw [al_zero]
      | succ x =>
        cases n with
        | zero => rfl
        | succ n =>
          by_cases hw : wd bs (k.pos x) ≤ k.per
          · rw [al_on hw] at hv ⊢
            simp only at hv ⊢
            rw [if_neg hv]
          · rw [al_form hw]
    exact this _ _ h0
section
variable {k : Ck} {bs : List UInt8} {ss t : List Sp} {os : List Nat} {n v x : Nat}
theorem Amid.done (h : Amid k bs ss os n 0 t) : alE k bs = 0 ∧ alL k bs = os ∧ alT k bs ss = t := by
  refine ⟨by rw [h.e, al_zero], ?_, ?_⟩
  · rw [h.l, al_zero]; simp
  · rw [h.t, al_zero]; simp
theorem Amid.many (h : Amid k bs ss os 0 (x + 1) t) : alE k bs = 14 ∧ alL k bs = [] ∧ alT k bs ss = t := by
  refine ⟨by rw [h.e, al_more], ?_, ?_⟩
  · rw [h.l, al_more]; rfl
  · rw [h.t, al_more]; simp
theorem Amid.form (h : Amid k bs ss os (n + 1) (x + 1) t) (hw : ¬ wd bs (k.pos x) ≤ k.per) : alE k bs = 14 ∧ alL k bs = [] ∧ alT k bs ss = t ++ [((k.pos x : Int), (8 : Int), false)] := by
  refine ⟨by rw [h.e, al_form hw], ?_, ?_⟩
  · rw [h.l, al_form hw]; rfl
  · rw [h.t, al_form hw]
theorem Amid.next (h : Amid k bs ss os (n + 1) (x + 1) t) (hw : wd bs (k.pos x) ≤ k.per) : Amid k bs ss (os ++ [x]) n (wd bs (k.pos x)) (t ++ [((k.pos x : Int), (8 : Int), false)]) := by
  refine ⟨by rw [h.e, al_on hw], ?_, ?_, by have := h.n; simp; omega, hw⟩
  · rw [h.t, al_on hw]; simp
  · rw [h.l, al_on hw]
    simp only
    by_cases h0 : (al k bs n (wd bs (k.pos x))).2.1 = 0
    · rw [if_pos h0, if_pos h0, if_pos h0]; simp
    · rw [if_neg h0, if_neg h0]
end
/-- Take, Move. -/
def taE (k : Ck) : Int := if k.hd = 0 then 0 else 7
def taS (k d : Ck) : Ck := if k.hd = 0 then k.to d.hd else k
abbrev Ck.Lies (k : Ck) (n : Nat) (x : Int) : Prop := 0 ≤ x ∧ x + (k.unit * k.per : Nat) ≤ n
def moE (k : Ck) (n : Nat) (x : Int) : Int := if k.Lies n x then 0 else 12
def moS (k : Ck) (n : Nat) (x : Int) : Ck := if k.Lies n x then ⟨x.toNat, k.unit, k.per, k.hd⟩ else k
/-- New. -/
abbrev NewOk (n : Nat) (x u p : Int) : Prop := (8 ≤ u ∧ u ≤ 512) ∧ (1 ≤ p ∧ p ≤ 64) ∧ 0 ≤ x ∧ x + u * p ≤ n
theorem newOk_ok {n : Nat} {x u p : Int} (h : NewOk n x u p) : (Ck.mk x.toNat u.toNat p.toNat 0).Ok n := by
  obtain ⟨⟨h1, h2⟩, ⟨h3, h4⟩, h5, h6⟩ := h
  obtain ⟨a, rfl⟩ := Int.eq_ofNat_of_zero_le h5
  obtain ⟨b, rfl⟩ := Int.eq_ofNat_of_zero_le (show 0 ≤ u by omega)
  obtain ⟨c, rfl⟩ := Int.eq_ofNat_of_zero_le (show 0 ≤ p by omega)
  refine ⟨by simp; omega, by simp; omega, by simp; omega, by simp; omega, Nat.zero_le _, ?_⟩
  simp only [Int.toNat_natCast] at h6 ⊢
  exact_mod_cast h6
section
variable {k : Ck} {n : Nat} {bs : List UInt8} {ss : List Sp}
theorem puS_ok (h : k.Ok n) (x : Int) : (puS k x).Ok n := by
  unfold puS
  by_cases hx : k.Has x
  · rw [if_pos hx]; exact h.to (by omega)
  · rw [if_neg hx]; exact h
theorem puB_len (h : k.Ok bs.length) (x : Int) : (puB k bs x).length = bs.length := by
  unfold puB
  by_cases hx : k.Has x
  · rw [if_pos hx]; exact over_length _ _ _ (by rw [leb_length]; exact h.at (by omega))
  · rw [if_neg hx]
end
/-- The link that says a list. -/
def lnk : List Nat → Nat
  | [] => 0
  | x :: _ => x + 1
/-- The links of these blocks say that they stand in this order. -/
def Rep (k : Ck) (bs : List UInt8) : List Nat → Prop
  | [] => True
  | x :: L => wd bs (k.pos x) = lnk L ∧ Rep k bs L
theorem lnk_le {k : Ck} {L : List Nat} (h : ∀ x ∈ L, x < k.per) : lnk L ≤ k.per := by
  cases L with
  | nil => exact Nat.zero_le _
  | cons x L => exact h x (List.mem_cons_self ..)
theorem al_rep {k : Ck} {bs : List UInt8} : ∀ (L : List Nat) (n : Nat), Rep k bs L → (∀ x ∈ L, x < k.per) → L.length ≤ n → (al k bs n (lnk L)).1 = L ∧ (al k bs n (lnk L)).2.1 = 0
  | [], n, _, _, _ => by rw [lnk, al_zero]; simp
  | _ :: L, 0, _, _, h => by simp at h
  | x :: L, n + 1, ⟨h1, h2⟩, h3, h4 => by
    have hL : ∀ y ∈ L, y < k.per := fun y hy => h3 y (List.mem_cons_of_mem _ hy)
    obtain ⟨i1, i2⟩ := al_rep L n h2 hL (by simpa using h4)
    have hw : wd bs (k.pos x) ≤ k.per := by rw [h1]; exact lnk_le hL
    rw [lnk, al_on hw, h1]
    simp only [i1, i2]
    simp
/-- A word elsewhere is put anew. -/
theorem Rep.put {k : Ck} {bs : List UInt8} (hk : k.Ok bs.length) {x u : Nat} (hx : x < k.per) : ∀ {L : List Nat}, Rep k bs L → x ∉ L → Rep k (over bs (k.pos x) (leb u 8)) L
  | [], _, _ => trivial
  | y :: L, ⟨h1, h2⟩, hn => by
    simp only [List.mem_cons, not_or] at hn
    refine ⟨?_, Rep.put hk hx h2 hn.2⟩
    rw [wd_apart (hk.at hx) (by have := hk.apart hn.1; omega)]
    exact h1
theorem Rep.to {k : Ck} {bs : List UInt8} (v : Nat) : ∀ {L : List Nat}, Rep (k.to v) bs L ↔ Rep k bs L
  | [] => Iff.rfl
  | _ :: L => and_congr Iff.rfl (Rep.to v (L := L))
/-- A chain that has just these blocks, and noughts elsewhere. -/
structure Ch (k : Ck) (bs : List UInt8) (L : List Nat) : Prop where
  ok : k.Ok bs.length
  hd : k.hd = lnk L
  rep : Rep k bs L
  nd : L.Nodup
  lt : ∀ x ∈ L, x < k.per
  z : ∀ i, bs[i]?.getD 0 ≠ 0 → ∃ x ∈ L, k.pos x ≤ i ∧ i < k.pos x + 8
theorem nodup_short : ∀ (p : Nat) (L : List Nat), L.Nodup → (∀ x ∈ L, x < p) → L.length ≤ p
  | 0, L, _, h => by
    cases L with
    | nil => simp
    | cons x L => exact absurd (h x (List.mem_cons_self ..)) (by omega)
  | p + 1, L, hn, h => by
    have h1 := nodup_short p (L.erase p) (hn.erase p) fun x hx => by
      have h2 := h x (List.mem_of_mem_erase hx)
      have h3 : x ≠ p := fun e => hn.not_mem_erase (e ▸ hx)
      omega
    have h2 := List.length_erase (a := p) (l := L)
    split at h2 <;> omega
section
variable {k : Ck} {bs : List UInt8} {L : List Nat}
theorem Ch.new {x u p : Int} {n : Nat} (h : NewOk n x u p) : Ch ⟨x.toNat, u.toNat, p.toNat, 0⟩ (List.replicate n 0) [] :=
  ⟨by rw [List.length_replicate]; exact newOk_ok h, rfl, trivial, List.nodup_nil, fun _ h => by simp at h, fun i hi => by
    by_cases hl : i < n
    · simp [hl] at hi
    · simp [hl] at hi⟩
theorem Ch.len (h : Ch k bs L) : L.length ≤ k.per := nodup_short _ _ h.nd h.lt
theorem Ch.all (h : Ch k bs L) : alL k bs = L ∧ alE k bs = 0 := by
  have := al_rep L k.per h.rep h.lt h.len
  unfold alL alE
  rw [h.hd]
  exact this
theorem Ch.push (h : Ch k bs L) {x : Nat} (hx : x < k.per) (hn : x ∉ L) : Ch (puS k x) (puB k bs x) (x :: L) := by
  have hb := puB_len h.ok (x : Int)
  have hH : k.Has (x : Int) := ⟨by omega, by omega⟩
  have e1 : puS k x = k.to (x + 1) := by unfold puS; rw [if_pos hH]; rfl
  have e2 : puB k bs x = over bs (k.pos x) (leb k.hd 8) := by unfold puB; rw [if_pos hH]; rfl
  have hin := h.ok.at hx
  have hh := h.ok.hd
  have hp := h.ok.p1
  refine ⟨by rw [hb]; exact puS_ok h.ok x, by rw [e1]; rfl, ?_, List.nodup_cons.2 ⟨hn, h.nd⟩, fun y hy => ?_, fun i hi => ?_⟩
  · rw [e1, Rep.to, e2]
    exact ⟨by rw [wd_same hin (by omega)]; exact h.hd, h.rep.put h.ok hx hn⟩
  · rw [e1]
    simp only [List.mem_cons] at hy
    rcases hy with rfl | hy
    · exact hx
    · exact h.lt y hy
  · rw [e1]
    rw [e2, over_get? bs _ _ (by rw [leb_length]; exact hin), leb_length] at hi
    by_cases h1 : k.pos x ≤ i ∧ i < k.pos x + 8
    · exact ⟨x, List.mem_cons_self .., h1⟩
    · have hi' : bs[i]?.getD 0 ≠ 0 := by
        by_cases h2 : i < k.pos x
        · rwa [if_pos h2] at hi
        · rwa [if_neg h2, if_neg (by omega)] at hi
      obtain ⟨y, hy, hq⟩ := h.z i hi'
      exact ⟨y, List.mem_cons_of_mem _ hy, hq⟩
theorem Ch.none (h : Ch k bs []) : poE k bs = 13 ∧ k.hd = 0 ∧ bs = List.replicate bs.length 0 := by
  have h0 : k.hd = 0 := h.hd
  refine ⟨by unfold poE; rw [if_pos h0], h0, ?_⟩
  apply List.ext_getElem (by simp)
  intro i h1 h2
  rw [List.getElem_replicate]
  apply Classical.byContradiction
  intro hne
  obtain ⟨x, hx, _⟩ := h.z i (by rw [List.getElem?_eq_getElem h1]; exact hne)
  simp at hx
end
end Go.Proofs.YtejbdbjccjkfdaaGreatDoor

namespace Go.Proofs.YtejbdbjccjkfdaaGreatDoor

/-- A block's bytes. -/
def unitI (c : Int) : Int :=
  if c < 0 then 0 else if c = 0 then 16 else if c = 1 then 32 else if c = 2 then 48 else if c = 3 then 64 else if c = 4 then 96 else if c = 5 then 128 else if c = 6 then 192 else if c = 7 then 256 else if c ≤ 23 then (c - 7) * 512 else 0
/-- The kind for so many bytes. -/
def ofI (n : Int) : Int :=
  if n < 1 then -1 else if n ≤ 16 then 0 else if n ≤ 32 then 1 else if n ≤ 48 then 2 else if n ≤ 64 then 3 else if n ≤ 96 then 4 else if n ≤ 128 then 5 else if n ≤ 192 then 6 else if n ≤ 256 then 7 else if n ≤ 8192 then 7 + (n + 511) / 512 else -1
def perI (c : Int) : Int :=
  if c < 0 then 0 else if c = 0 then 32 else if c = 1 then 16 else if c = 2 then 10 else if c = 3 then 8 else if c = 4 then 5 else if c = 5 then 4 else if c = 6 then 2 else if c = 7 then 2 else 0
def pagesI (c : Int) : Int := if c < 0 then 0 else if c ≤ 7 then 1 else if c ≤ 23 then c - 7 else 0
def alignI (c : Int) : Int :=
  if c < 0 then 0 else if c = 0 then 16 else if c = 1 then 32 else if c = 2 then 16 else if c = 3 then 64 else if c = 4 then 32 else if c = 5 then 128 else if c = 6 then 64 else if c = 7 then 256 else if c ≤ 23 then 512 else 0
def chargeI (n : Int) : Int := if ofI n < 0 then 0 else unitI (ofI n)

theorem fin24 (c : Int) (h0 : 0 ≤ c) (h1 : c ≤ 23) : ∃ k : Fin 24, c = (k.val : Int) := ⟨⟨c.toNat, by omega⟩, by simp; omega⟩
theorem unitI_run (m : Int) (h0 : 1 ≤ m) (h1 : m ≤ 16) : unitI (7 + m) = m * 512 := by
  have : ∀ k : Fin 16, unitI (7 + ((k.val : Int) + 1)) = ((k.val : Int) + 1) * 512 := by decide +kernel
  have h := this ⟨(m - 1).toNat, by omega⟩
  have e : (((m - 1).toNat : Nat) : Int) + 1 = m := by omega
  simp only at h
  rw [e] at h
  exact h
theorem ofI_run (n : Int) (h1 : 256 < n) (h2 : n ≤ 8192) : ofI n = 7 + (n + 511) / 512 := by
  unfold ofI; repeat' split
  all_goals omega
theorem ofI_none (n : Int) : ofI n = -1 ↔ n < 1 ∨ 8192 < n := by
  unfold ofI; repeat' split
  all_goals omega
theorem ofI_range (n : Int) (h1 : 1 ≤ n) (h2 : n ≤ 8192) : 0 ≤ ofI n ∧ ofI n ≤ 23 := by
  unfold ofI; repeat' split
  all_goals omega
theorem unitI_rises (c d : Int) (h0 : 0 ≤ c) (h : c < d) (h1 : d ≤ 23) : unitI c < unitI d := by
  have : ∀ a b : Fin 24, a.val < b.val → unitI (a.val : Int) < unitI (b.val : Int) := by decide +kernel
  obtain ⟨a, rfl⟩ := fin24 c h0 (by omega)
  obtain ⟨b, rfl⟩ := fin24 d (by omega) h1
  exact this a b (by omega)
theorem unitI_mono (c d : Int) (h0 : 0 ≤ c) (h : c ≤ d) (h1 : d ≤ 23) : unitI c ≤ unitI d := by
  rcases Int.lt_or_eq_of_le h with hl | hl
  · have := unitI_rises c d h0 hl h1; omega
  · rw [hl]; exact Int.le_refl _
/-- What a kind that is no run says of n. -/
theorem ofI_small (n : Int) (h1 : 1 ≤ n) (h2 : n ≤ 256) : 0 ≤ ofI n ∧ ofI n ≤ 7 ∧ n ≤ unitI (ofI n) ∧ (ofI n = 0 ∨ unitI (ofI n - 1) < n) := by
  have u0 : unitI 0 = 16 := rfl
  have u1 : unitI 1 = 32 := rfl
  have u2 : unitI 2 = 48 := rfl
  have u3 : unitI 3 = 64 := rfl
  have u4 : unitI 4 = 96 := rfl
  have u5 : unitI 5 = 128 := rfl
  have u6 : unitI 6 = 192 := rfl
  have u7 : unitI 7 = 256 := rfl
  unfold ofI; repeat' split
  all_goals first
    | omega
    | (simp only [Int.reduceSub, u0, u1, u2, u3, u4, u5, u6, u7]; omega)
theorem ofI_fits (n : Int) (h1 : 1 ≤ n) (h2 : n ≤ 8192) : n ≤ unitI (ofI n) := by
  by_cases h : n ≤ 256
  · exact (ofI_small n h1 h).2.2.1
  · rw [ofI_run n (by omega) h2, unitI_run _ (by omega) (by omega)]; omega
theorem ofI_least (n c : Int) (h0 : 0 ≤ c) (h : c < ofI n) : unitI c < n := by
  have h1 : 1 ≤ n ∧ n ≤ 8192 := by
    have := ofI_none n
    by_cases hn : n < 1 ∨ 8192 < n
    · rw [this.2 hn] at h; omega
    · omega
  obtain ⟨r1, r2⟩ := ofI_range n h1.1 h1.2
  have hm := unitI_mono c (ofI n - 1) h0 (by omega) (by omega)
  by_cases hs : n ≤ 256
  · rcases (ofI_small n h1.1 hs).2.2.2 with e | e
    · omega
    · omega
  · have e := ofI_run n (by omega) h1.2
    rw [e] at hm h
    by_cases hm1 : (n + 511) / 512 = 1
    · rw [hm1] at hm
      have u7 : unitI (7 + 1 - 1) = 256 := rfl
      rw [u7] at hm
      omega
    · rw [show 7 + (n + 511) / 512 - 1 = 7 + ((n + 511) / 512 - 1) by omega, unitI_run _ (by omega) (by omega)] at hm
      omega
/-- It is the only one so. -/
theorem ofI_unique (n c : Int) (h1 : 1 ≤ n) (hc : 0 ≤ c) (hc2 : c ≤ 23) (hu : n ≤ unitI c) (hb : ∀ d, 0 ≤ d → d < c → unitI d < n) : ofI n = c := by
  have hn : n ≤ 8192 := by
    have h3 := unitI_mono c 23 hc hc2 (by omega)
    have h4 : unitI 23 = 8192 := rfl
    omega
  obtain ⟨r1, r2⟩ := ofI_range n h1 hn
  rcases Int.lt_trichotomy (ofI n) c with h | h | h
  · have := hb _ r1 h
    have := ofI_fits n h1 hn
    omega
  · exact h
  · have := ofI_least n c hc h
    omega
theorem chargeI_some (n : Int) (h1 : 1 ≤ n) (h2 : n ≤ 8192) : chargeI n = unitI (ofI n) := by
  unfold chargeI; rw [if_neg (by have := (ofI_range n h1 h2).1; omega)]
theorem unitI_range (c : Int) (h0 : 0 ≤ c) (h1 : c ≤ 23) : 16 ≤ unitI c ∧ unitI c ≤ 8192 := by
  have : ∀ a : Fin 24, 16 ≤ unitI (a.val : Int) ∧ unitI (a.val : Int) ≤ 8192 := by decide +kernel
  obtain ⟨a, rfl⟩ := fin24 c h0 h1
  exact this a
theorem alignI_divides (c : Int) (h0 : 0 ≤ c) (h1 : c ≤ 23) : 8 ≤ alignI c ∧ unitI c % alignI c = 0 := by
  have : ∀ a : Fin 24, 8 ≤ alignI (a.val : Int) ∧ unitI (a.val : Int) % alignI (a.val : Int) = 0 := by decide +kernel
  obtain ⟨a, rfl⟩ := fin24 c h0 h1
  exact this a
theorem pages_unit (c : Int) (h0 : 8 ≤ c) (h1 : c ≤ 23) : pagesI c * 512 = unitI c := by
  have : ∀ a : Fin 24, 8 ≤ a.val → pagesI (a.val : Int) * 512 = unitI (a.val : Int) := by decide +kernel
  obtain ⟨a, rfl⟩ := fin24 c (by omega) h1
  exact this a (by omega)
end Go.Proofs.YtejbdbjccjkfdaaGreatDoor
