/-
  What the document's own chain does: All, Take, Move.
-/
import Derived.Test.YthndakhnhnipnaaDoorChRefA
namespace Go.Proofs.YthndakhnhnipnaaDoor
open Go.RowKit
open An

section
variable {w : World} {a c : Nat} {Z : Nat → Prop} {bs : List UInt8} {ss : List Sp} {k : Ck}
def lenV : Value → Nat
  | .slice _ n _ => n
  | _ => 0
/-- Amid All, in memory: the row that grows lies apart from the arena. -/
structure InAll (Q : World → Nat → Nat → Ck → Prop) (T : TypeId) (w : World) (c a : Nat) (Z : Nat → Prop) (bs : List UInt8) (ss : List Sp) (k : Ck) (os : List Nat) (n v : Nat) (t : List Sp) (Zr : Nat → Prop) (y : Value) (wr : World) : Prop where
  amid : Amid k bs ss os n v t
  left : Left T Q w c a Z bs t k Zr wr
  row : wr.ownsRow w.heap.size 3 1 y (nI os).length (ic (nI os))
  apart : ∀ g, y.ownBlock = some g → ¬ Zr g
  t : t.length ≤ ss.length + os.length
theorem InAll.end {Q : World → Nat → Nat → Ck → Prop} {T : TypeId} {n v : Nat} {t : List Sp} {os : List Nat} {Zr : Nat → Prop} {wr : World} {yad : Option Addr} {m ycap : Nat} (h : InAll Q T w c a Z bs ss k os n v t Zr (.slice yad m ycap) wr) : NumsAt wr yad (nI os) ∧ ∀ b off, yad = some ⟨b, off, none⟩ → w.heap.size ≤ b ∧ ¬ Zr b := by
  obtain ⟨yad', ycap', e, h1, h2⟩ := row_list h.row
  simp only [Value.slice.injEq] at e
  obtain ⟨rfl, _, rfl⟩ := e
  exact ⟨h1, fun b off e => ⟨h2 b off e, h.apart b (by rw [e]; rfl)⟩⟩
theorem own_turn {w w' : World} {base : Nat} {v : Value} {S : Nat → Prop} {e : TypeId} {size n : Nat} {xs : List Value} (h : w.ownsRow base e size v n xs) (f : Fr S w w') (hs : ∀ x, v.ownBlock = some x → ¬ S x) : w'.ownsRow base e size v n xs := by
  obtain ⟨h1, h2⟩ := h
  refine ⟨h1, ?_⟩
  rcases h2 with h2 | ⟨g, cap, cur, rfl, hb, hc, rest⟩
  · exact .inl h2
  · exact .inr ⟨g, cap, cur, rfl, hb, by rw [f.block g (Array.getElem?_eq_some_iff.1 hc).1 (hs g rfl)]; exact hc, rest⟩
theorem InAll.grow {Q : World → Nat → Nat → Ck → Prop} (hQ : Chain1 Q) (hc : c < w.heap.size) {T : TypeId} {n v x : Nat} {t : List Sp} {os : List Nat} {Zr : Nat → Prop} {wr w2 : World} {y : Value} (h : InAll Q T w c a Z bs ss k os n v t Zr y wr) {ob : Obj} {g m m2 cap : Nat}
    (hown : w2.ownsRow w.heap.size 3 1 (.slice (some ⟨g, 0, none⟩) m cap) m2 (ic (nI os ++ [(x : Int)]))) (hm : m2 = os.length + 1) (hg : (wr.alloc ob).grownBy w2 y.ownBlock) (hw : y.ownBlock = some g ∨ g = wr.heap.size + 1) :
    Left T Q w c a Z bs t k Zr w2 ∧ w2.ownsRow w.heap.size 3 1 (.slice (some ⟨g, 0, none⟩) m cap) (nI (os ++ [x])).length (ic (nI (os ++ [x]))) ∧ ¬ Zr g ∧ g < w2.heap.size := by
  have hs := h.left.fr.size
  refine ⟨h.left.other hQ hc (S := fun i => y.ownBlock = some i) (((Fr.refl _ wr).alloc ob).grown hg fun k e => .inl e) fun i e => ⟨(h.row.lt i e).1, h.apart i e⟩, ?_, ?_, (hown.lt g rfl).2⟩
  · subst hm; rw [nI_snoc, List.length_append, nI_length]; exact hown
  · rcases hw with e | e
    · exact h.apart g e
    · intro e2
      have := h.left.am.lt g e2
      omega
theorem InAll.next {Q : World → Nat → Nat → Ck → Prop} {T : TypeId} {n x : Nat} {t : List Sp} {os : List Nat} {Zr Z2 : Nat → Prop} {w2 w3 : World} {g m cap : Nat} (hA : Amid k bs ss os (n + 1) (x + 1) t) (hw : wd bs (k.pos x) ≤ k.per) (ht : t.length ≤ ss.length + os.length)
    (h1 : Left T Q w c a Z bs (t ++ [((k.pos x : Int), (8 : Int), false)]) k Z2 w3) (h2 : w2.ownsRow w.heap.size 3 1 (.slice (some ⟨g, 0, none⟩) m cap) (nI (os ++ [x])).length (ic (nI (os ++ [x])))) (h3 : ¬ Zr g ∧ g < w2.heap.size) (h4 : Gw w2 w3 Zr Z2) :
    InAll Q T w c a Z bs ss k (os ++ [x]) n (wd bs (k.pos x)) (t ++ [((k.pos x : Int), (8 : Int), false)]) Z2 (.slice (some ⟨g, 0, none⟩) m cap) w3 := by
  refine ⟨hA.next hw, h1, ?_, fun g' e => ?_, by simp only [List.length_append, List.length_singleton]; omega⟩
  · refine own_turn h2 h4.fr fun x e => ?_
    have : g = x := by simpa [Value.ownBlock] using e
    exact this ▸ h3.1
  · have : g = g' := by simpa [Value.ownBlock] using e
    subst this
    intro e2
    rcases h4.new g e2 with e3 | e3
    · exact h3.1 e3
    · omega
set_option maxRecDepth 20000 in
theorem r_take_no (q : Rch w c a k) {d : Nat} (h0 : k.hd ≠ 0) : Calls Tryd.prog 47 #[.pointer (some ⟨c, 0, none⟩), .pointer (some ⟨d, 0, none⟩)] w fun e w' => e = .returned (.int .i64 7) ∧ Fr (fun _ => False) w w' := by
  obtain ⟨x, hx⟩ : ∃ x, k.hd = x + 1 := ⟨k.hd - 1, by omega⟩
  have c4 := q.c4s hx
  clear q h0 hx
  go_enter Tryd.func47, Tryd.ntmps47
  go_wp2
  go_ret
  exact ⟨by simp, Fr.refl _ _⟩
set_option maxRecDepth 20000 in
theorem r_take_ok (q : Rch w c a k) {d : Nat} {k2 : Ck} (q2 : Rch w d a k2) (hne : c ≠ d) (h0 : k.hd = 0) : Calls Tryd.prog 47 #[.pointer (some ⟨c, 0, none⟩), .pointer (some ⟨d, 0, none⟩)] w fun e w' => e = .returned (.int .i64 0) ∧ Rch w' c a (k.to k2.hd) ∧ Rch w' d a (k2.to 0) ∧ Fr (fun i => i = c ∨ i = d) w w' := by
  have HC := hid q
  have HD := hid q2
  have c4 := q.c4
  have d4 := q2.c4
  have f1 := q.fz
  have HF : Hid (Fr (fun i => i = c) w (w.setCell ⟨c, 4, none⟩ (.int .i64 ((k2.hd : Int) - 1)))) := Fr.setCell (S := fun i => i = c) (p := ⟨c, 4, none⟩) (Fr.refl _ _) rfl _
  have HD2 := hid (Rch.chain.carry q2 HF.out (fun e => hne e.symm))
  have d5 := HD2.out.c4
  have f2 := HD2.out.fz
  rw [h0] at c4
  clear q q2
  go_enter Tryd.func47, Tryd.ntmps47
  go_wp2
  go_ret
  refine ⟨by simp, ?_, HD2.out.head (by omega), Fr.trans' (HF.out.mono fun _ _ e => .inl e) (Fr.setCell (S := fun i => i = d) (p := ⟨d, 4, none⟩) (Fr.refl _ _) rfl _) fun _ _ e => .inr e⟩
  exact Rch.chain.carry (HC.out.head rfl) (Fr.setCell (S := fun i => i = d) (p := ⟨d, 4, none⟩) (Fr.refl _ _) rfl _) hne
set_option maxRecDepth 20000 in
theorem r_move (q : Rch w c a k) (g : Am 56 a bs ss w Z) (ok : k.Ok bs.length) (x : Int) : Calls Tryd.prog 61 #[.pointer (some ⟨c, 0, none⟩), .int .i64 x] w fun e w' => e = .returned (.int .i64 (moE k bs.length x)) ∧ Rch w' c a (moS k bs.length x) ∧ Fr (fun i => i = c) w w' := by
  unfold moE moS
  have HC := hid q
  have c0 := q.c0
  have c1 := q.c1
  have c2 := q.c2
  have c3 := q.c3
  have f1 := q.fz
  have H1 : Hid (∀ w0, Fr (fun _ => False) w w0 → Calls Tryd.prog 68 #[.pointer (some ⟨a, 0, none⟩), .int .i64 x, .int .i64 k.unit, .int .i64 k.per] w0 fun e w' => e = .returned (.bool (decide (k.Lies bs.length x))) ∧ w' = w0) := fun w0 f => r_lie (g.kept f) x k.unit k.per ok.u1 ok.p1
  clear q g
  by_cases hx : k.Lies bs.length x
  · rw [if_pos hx, if_pos hx]
    rw [decide_eq_true hx] at H1
    obtain ⟨x, rfl⟩ := Int.eq_ofNat_of_zero_le hx.1
    clear hx ok
    go_enter Tryd.func61, Tryd.ntmps61
    go_wp2_with fail
    go_region_held3 (fun w' => w'.cell? ⟨c, 0, none⟩ = some (.pointer (some ⟨a, 0, none⟩)) ∧ w'.cell? ⟨c, 2, none⟩ = some (.int .i64 k.unit) ∧ w'.cell? ⟨c, 3, none⟩ = some (.int .i64 k.per)) (first | go_keep | exact ⟨by assumption, by assumption, by assumption⟩) (first | (go_at_call 68; refine (H1.out _ (Fr.refl _ _).drew).mono ?_; rintro e w1 ⟨rfl, rfl⟩))
    go_wp2
    go_ret
    exact ⟨by simp, (Rch.chain.carry HC.out (Fr.refl (fun _ => False) _).drew id).base x, Fr.setCell (S := fun i => i = c) (p := ⟨c, 1, none⟩) (Fr.refl _ _).drew rfl _⟩
  · rw [if_neg hx, if_neg hx]
    rw [decide_eq_false hx] at H1
    clear hx ok
    go_enter Tryd.func61, Tryd.ntmps61
    go_wp2_with fail
    go_region_held3 (fun w' => w'.cell? ⟨c, 0, none⟩ = some (.pointer (some ⟨a, 0, none⟩)) ∧ w'.cell? ⟨c, 2, none⟩ = some (.int .i64 k.unit) ∧ w'.cell? ⟨c, 3, none⟩ = some (.int .i64 k.per)) (first | go_keep | exact ⟨by assumption, by assumption, by assumption⟩) (first | (go_at_call 68; refine (H1.out _ (Fr.refl _ _).drew).mono ?_; rintro e w1 ⟨rfl, rfl⟩))
    go_wp2
    go_ret
    exact ⟨by simp, Rch.chain.carry HC.out (Fr.refl (fun _ => False) _).drew id, (Fr.refl _ _).drew⟩
end
end Go.Proofs.YthndakhnhnipnaaDoor
