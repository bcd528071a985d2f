/-
  What the document's own chain does: All, Take, Move.
-/
import Derived.Test.YtjgkcaibapffhaaChRefA
namespace Go.Proofs.Ytjgkcaibapffhaa
open Go.RowKit
open An

section
variable {w : World} {a c : Nat} {Z : Nat → Prop} {bs : List UInt8} {ss : List Sp} {k : Ck}
def lenV : Value → Nat
  | .slice _ n _ => n
  | _ => 0
/-- Amid All, in memory: the row that grows lies apart from the arena. -/
structure InAll (Q : World → Nat → Nat → Ck → Prop) (T : TypeId) (w : World) (c a : Nat) (Z : Nat → Prop) (bs : List UInt8) (ss : List Sp) (k : Ck) (os : List Nat) (n v : Nat) (t : List Sp) (Zr : Nat → Prop) (y : Value) (wr : World) : Prop where
  amid : Amid k bs ss os n v t
  left : Left T Q w c a Z bs t k Zr wr
  row : wr.ownsRow w.heap.size 3 1 y (nI os).length (ic (nI os))
  apart : ∀ g, y.ownBlock = some g → ¬ Zr g
  t : t.length ≤ ss.length + os.length
theorem InAll.end {Q : World → Nat → Nat → Ck → Prop} {T : TypeId} {n v : Nat} {t : List Sp} {os : List Nat} {Zr : Nat → Prop} {wr : World} {yad : Option Addr} {m ycap : Nat} (h : InAll Q T w c a Z bs ss k os n v t Zr (.slice yad m ycap) wr) : NumsAt wr yad (nI os) ∧ ∀ b off, yad = some ⟨b, off, none⟩ → w.heap.size ≤ b ∧ ¬ Zr b := by
  obtain ⟨yad', ycap', e, h1, h2⟩ := row_list h.row
  simp only [Value.slice.injEq] at e
  obtain ⟨rfl, _, rfl⟩ := e
  exact ⟨h1, fun b off e => ⟨h2 b off e, h.apart b (by rw [e]; rfl)⟩⟩
theorem own_turn {w w' : World} {base : Nat} {v : Value} {S : Nat → Prop} {e : TypeId} {size n : Nat} {xs : List Value} (h : w.ownsRow base e size v n xs) (f : Fr S w w') (hs : ∀ x, v.ownBlock = some x → ¬ S x) : w'.ownsRow base e size v n xs := by
  obtain ⟨h1, h2⟩ := h
  refine ⟨h1, ?_⟩
  rcases h2 with h2 | ⟨g, cap, cur, rfl, hb, hc, rest⟩
  · exact .inl h2
  · exact .inr ⟨g, cap, cur, rfl, hb, by rw [f.block g (Array.getElem?_eq_some_iff.1 hc).1 (hs g rfl)]; exact hc, rest⟩
theorem InAll.grow {Q : World → Nat → Nat → Ck → Prop} (hQ : Chain1 Q) (hc : c < w.heap.size) {T : TypeId} {n v x : Nat} {t : List Sp} {os : List Nat} {Zr : Nat → Prop} {wr w2 : World} {y : Value} (h : InAll Q T w c a Z bs ss k os n v t Zr y wr) {ob : Obj} {g m m2 cap : Nat}
    (hown : w2.ownsRow w.heap.size 3 1 (.slice (some ⟨g, 0, none⟩) m cap) m2 (ic (nI os ++ [(x : Int)]))) (hm : m2 = os.length + 1) (hg : (wr.alloc ob).grownBy w2 y.ownBlock) (hw : y.ownBlock = some g ∨ g = wr.heap.size + 1) :
    Left T Q w c a Z bs t k Zr w2 ∧ w2.ownsRow w.heap.size 3 1 (.slice (some ⟨g, 0, none⟩) m cap) (nI (os ++ [x])).length (ic (nI (os ++ [x]))) ∧ ¬ Zr g ∧ g < w2.heap.size := by
  have hs := h.left.fr.size
  refine ⟨h.left.other hQ hc (S := fun i => y.ownBlock = some i) (((Fr.refl _ wr).alloc ob).grown hg fun k e => .inl e) fun i e => ⟨(h.row.lt i e).1, h.apart i e⟩, ?_, ?_, (hown.lt g rfl).2⟩
  · subst hm; rw [nI_snoc, List.length_append, nI_length]; exact hown
  · rcases hw with e | e
    · exact h.apart g e
    · intro e2
      have := h.left.am.lt g e2
      omega
theorem InAll.next {Q : World → Nat → Nat → Ck → Prop} {T : TypeId} {n x : Nat} {t : List Sp} {os : List Nat} {Zr Z2 : Nat → Prop} {w2 w3 : World} {g m cap : Nat} (hA : Amid k bs ss os (n + 1) (x + 1) t) (hw : wd bs (k.pos x) ≤ k.per) (ht : t.length ≤ ss.length + os.length)
    (h1 : Left T Q w c a Z bs (t ++ [((k.pos x : Int), (8 : Int), false)]) k Z2 w3) (h2 : w2.ownsRow w.heap.size 3 1 (.slice (some ⟨g, 0, none⟩) m cap) (nI (os ++ [x])).length (ic (nI (os ++ [x])))) (h3 : ¬ Zr g ∧ g < w2.heap.size) (h4 : Gw w2 w3 Zr Z2) :
    InAll Q T w c a Z bs ss k (os ++ [x]) n (wd bs (k.pos x)) (t ++ [((k.pos x : Int), (8 : Int), false)]) Z2 (.slice (some ⟨g, 0, none⟩) m cap) w3 := by
  refine ⟨hA.next hw, h1, ?_, fun g' e => ?_, by simp only [List.length_append, List.length_singleton]; omega⟩
  · refine own_turn h2 h4.fr fun x e => ?_
    have : g = x := by simpa [Value.ownBlock] using e
    exact this ▸ h3.1
  · have : g = g' := by simpa [Value.ownBlock] using e
    subst this
    intro e2
    rcases h4.new g e2 with e3 | e3
    · exact h3.1 e3
    · omega
set_option maxHeartbeats 2000000 in
set_option maxRecDepth 20000 in
theorem r_all (q : Rch w c a k) (g : Am 50 a bs ss w Z) (ok : k.Ok bs.length) (nz : ¬ Z c) (hk : ss.length ≤ 900000) : Calls Try.prog 30 #[.pointer (some ⟨c, 0, none⟩)] w fun e w' => ∃ Z', AllE w w' Z' (nI (alL k bs)) (alE k bs) e ∧ Left 50 Rch w c a Z bs (alT k bs ss) k Z' w' := by
  have c4 := q.c4
  have hle := g.le
  have H0 : Hid (InAll Rch 50 w c a Z bs ss k [] k.per k.hd ss Z (.slice none 0 0) w) := ⟨Amid.start ss ok.hd, Left.same Rch.chain g q nz (Fr.refl _ _), ⟨rfl, .inl ⟨rfl, rfl⟩⟩, fun g e => by simp [Value.ownBlock] at e, by simp⟩
  have HOK := hid ok
  have hp := ok.p1
  have HC : Hid (c < w.heap.size) := Rch.chain.lt q
  have HLD : Hid (∀ w0 w2 Z1 t x, x < k.per → t.length ≤ 1000000 → Left 50 Rch w c a Z bs t k Z1 w2 → Fr (fun _ => False) w2 w0 → Calls Try.prog 41 #[.pointer (some ⟨a, 0, none⟩), .int .i64 (k.pos x)] w0 fun e w' => e = .returned (.tuple #[.int .u64 (wd bs (k.pos x)), .int .i64 0]) ∧ ∃ Z', Left 50 Rch w c a Z bs (t ++ [((k.pos x : Int), (8 : Int), false)]) k Z' w' ∧ Gw w2 w' Z1 Z') :=
    fun w0 w2 Z1 t x hx ht hL f => (rm_load (hL.am.kept f) (k.pos x) (ok.at hx) ht).mono fun e w' ⟨he, Z', h1, h2⟩ => ⟨he, Z', (hL.kept Rch.chain f).arena2 Rch.chain h1 h2, Gw.ahead f h2⟩
  clear q g nz
  go_enter Try.func30, Try.ntmps30
  go_wp2
  go_loopw [4, 5] (fun y i wr => ∃ (os : List Nat) (n v : Nat) (t : List Sp) (Zr : Nat → Prop) (z : Int), Hid (InAll Rch 50 w c a Z bs ss k os n v t Zr y wr) ∧ i = .int .i64 z ∧ z = (v : Int) - 1 ∧ os.length + n = k.per ∧ lenV y = os.length) (fun y _ _ => k.per - lenV y)
  case atStart => exact ⟨[], k.per, k.hd, ss, Z, _, H0, rfl, rfl, by simp, rfl⟩
  case round =>
    obtain ⟨os, n, v, t, Zr, z, HI, rfl, hz, hn, hlen⟩ := hrel
    obtain ⟨yad, ycap, hy, hyn, hyb⟩ := row_list HI.out.row
    rw [nI_length] at hy
    subst hy
    clear hyn hyb H0 c4
    have d0 := HI.out.left.q.c0
    have d1 := HI.out.left.q.c1
    have d2 := HI.out.left.q.c2
    have d3 := HI.out.left.q.c3
    cases v with
    | zero =>
      have HE := hid HI.out.amid.done
      have HN := hid HI.out.end
      obtain rfl : z = -1 := by omega
      clear hz
      go_wp2
      go_ret2
      exact ⟨Zr, ⟨yad, ycap, by rw [HE.out.1, HE.out.2.1, nI_length]; simp, by rw [HE.out.2.1]; exact HN.out.1, HN.out.2⟩, by rw [HE.out.2.2]; exact HI.out.left⟩
    | succ x =>
      obtain rfl : z = (x : Int) := by omega
      clear hz
      have hx : x < k.per := by have := HI.out.amid.v; omega
      cases n with
      | zero =>
        have HE := hid HI.out.amid.many
        have hpl : os.length = k.per := by omega
        rw [hpl]
        go_wp2
        go_ret2
        exact ⟨Zr, ⟨none, 0, by rw [HE.out.1, HE.out.2.1]; simp [nI], by rw [HE.out.2.1]; exact nums_none _ _, fun b off e => by cases e⟩, by rw [HE.out.2.2]; exact HI.out.left⟩
      | succ n =>
        have hne2 : ((os.length : Int) == (k.per : Int)) = false := by simp; omega
        obtain ⟨r1, r2⟩ := HOK.out.reck hle hx
        have hlt := wd_lt bs (k.pos x)
        have r4 := wrapU (k.per : Int) (by omega) (by omega)
        have hbs : w.heap.size ≤ wr.heap.size := HI.out.left.fr.size
        have hy2 : (nI os).length < 100000 := by rw [nI_length]; omega
        have hin := HOK.out.at hx
        have htl := HI.out.t
        go_wp2_with (at_builtin; refine push1s rfl (.tmp 21) (.tmp 23) rfl w.heap.size _ _ (x : Int) rfl (HI.out.row.alloc _) wr.heap.size rfl (by simp) hy2 (by simp; omega) ?_)
        intro g cap w2 hown hg hw2
        obtain ⟨g1, g2, g3⟩ := HI.out.grow Rch.chain HC.out hown (by rw [nI_length]) hg hw2
        have HG1 := hid g1
        have HG2 := hid g2
        have HG3 := hid g3
        have HAM := hid HI.out.amid
        have HL2 := hid (HLD.out · w2 Zr t x hx (by omega) g1)
        have e0 := g1.q.c0
        have e1 := g1.q.c1
        have e2 := g1.q.c2
        have HT := hid htl
        clear g1 g2 g3 hown hg hw2 HI d0 d1 d2 d3 HLD htl
        by_cases hv : wd bs (k.pos x) ≤ k.per
        · have HNX : Hid (∀ w3 Z2, Left 50 Rch w c a Z bs (t ++ [((k.pos x : Int), (8 : Int), false)]) k Z2 w3 → Gw w2 w3 Zr Z2 → InAll Rch 50 w c a Z bs ss k (os ++ [x]) n (wd bs (k.pos x)) (t ++ [((k.pos x : Int), (8 : Int), false)]) Z2 (.slice (some ⟨g, 0, none⟩) ((nI os).length + 1) cap) w3) := fun w3 Z2 h1 h4 => InAll.next HAM.out hv HT.out h1 HG2.out HG3.out h4
          have hv' : (wd bs (k.pos x) : Int) ≤ k.per := by omega
          have r5 := wrapI (wd bs (k.pos x) : Int) (by omega) (by omega)
          have r6 := wrapI ((wd bs (k.pos x) : Int) - 1) (by omega) (by omega)
          clear HAM HT hv hin
          generalize k.pos x = ps at *
          generalize wd bs ps = v2 at *
          generalize x * k.unit = m at *
          go_wp2_with fail
          go_region_held3 (fun w' => w'.cell? ⟨c, 0, none⟩ = some (.pointer (some ⟨a, 0, none⟩)) ∧ w'.cell? ⟨c, 1, none⟩ = some (.int .i64 k.base) ∧ w'.cell? ⟨c, 2, none⟩ = some (.int .i64 k.unit)) (first | go_keep | exact ⟨by assumption, by assumption, by assumption⟩) (first | (go_at_call 41; refine (HL2.out _ (Fr.refl _ _).drew).mono ?_; rintro e w3 ⟨rfl, Z3, hL3, hg3⟩; have HL3 := hid hL3; have HG4 := hid hg3; have d0 := hL3.q.c0; have d1 := hL3.q.c1; have d2 := hL3.q.c2; have d3 := hL3.q.c3; clear hL3 hg3))
          clear HL2 e0 e1 e2
          go_wp2
          go_roundw
          case rel => exact ⟨os ++ [x], n, v2, _, Z3, _, HNX.out _ _ HL3.out HG4.out, rfl, rfl, by simp; omega, by simp [lenV, nI_length]⟩
          case measure => simp [lenV, nI_length]; omega
        · have HE := hid (HAM.out.form hv)
          have hv' : (k.per : Int) < wd bs (k.pos x) := by omega
          clear HAM HT hv hin
          generalize k.pos x = ps at *
          generalize wd bs ps = v2 at *
          generalize x * k.unit = m at *
          go_wp2_with fail
          go_region_held3 (fun w' => w'.cell? ⟨c, 0, none⟩ = some (.pointer (some ⟨a, 0, none⟩)) ∧ w'.cell? ⟨c, 1, none⟩ = some (.int .i64 k.base) ∧ w'.cell? ⟨c, 2, none⟩ = some (.int .i64 k.unit)) (first | go_keep | exact ⟨by assumption, by assumption, by assumption⟩) (first | (go_at_call 41; refine (HL2.out _ (Fr.refl _ _).drew).mono ?_; rintro e w3 ⟨rfl, Z3, hL3, hg3⟩; have HL3 := hid hL3; have d0 := hL3.q.c0; have d1 := hL3.q.c1; have d2 := hL3.q.c2; have d3 := hL3.q.c3; clear hL3 hg3))
          clear HL2 e0 e1 e2
          go_wp2
          go_ret2
          exact ⟨Z3, ⟨none, 0, by rw [HE.out.1, HE.out.2.1]; simp [nI], by rw [HE.out.2.1]; exact nums_none _ _, fun b off e => by cases e⟩, by rw [HE.out.2.2]; exact HL3.out⟩
set_option maxRecDepth 20000 in
theorem r_take_no (q : Rch w c a k) {d : Nat} (h0 : k.hd ≠ 0) : Calls Try.prog 31 #[.pointer (some ⟨c, 0, none⟩), .pointer (some ⟨d, 0, none⟩)] w fun e w' => e = .returned (.int .i64 7) ∧ Fr (fun _ => False) w w' := by
  obtain ⟨x, hx⟩ : ∃ x, k.hd = x + 1 := ⟨k.hd - 1, by omega⟩
  have c4 := q.c4s hx
  clear q h0 hx
  go_enter Try.func31, Try.ntmps31
  go_wp2
  go_ret
  exact ⟨by simp, Fr.refl _ _⟩
set_option maxRecDepth 20000 in
theorem r_take_ok (q : Rch w c a k) {d : Nat} {k2 : Ck} (q2 : Rch w d a k2) (hne : c ≠ d) (h0 : k.hd = 0) : Calls Try.prog 31 #[.pointer (some ⟨c, 0, none⟩), .pointer (some ⟨d, 0, none⟩)] w fun e w' => e = .returned (.int .i64 0) ∧ Rch w' c a (k.to k2.hd) ∧ Rch w' d a (k2.to 0) ∧ Fr (fun i => i = c ∨ i = d) w w' := by
  have HC := hid q
  have HD := hid q2
  have c4 := q.c4
  have d4 := q2.c4
  have f1 := q.fz
  have HF : Hid (Fr (fun i => i = c) w (w.setCell ⟨c, 4, none⟩ (.int .i64 ((k2.hd : Int) - 1)))) := Fr.setCell (S := fun i => i = c) (p := ⟨c, 4, none⟩) (Fr.refl _ _) rfl _
  have HD2 := hid (Rch.chain.carry q2 HF.out (fun e => hne e.symm))
  have d5 := HD2.out.c4
  have f2 := HD2.out.fz
  rw [h0] at c4
  clear q q2
  go_enter Try.func31, Try.ntmps31
  go_wp2
  go_ret
  refine ⟨by simp, ?_, HD2.out.head (by omega), Fr.trans' (HF.out.mono fun _ _ e => .inl e) (Fr.setCell (S := fun i => i = d) (p := ⟨d, 4, none⟩) (Fr.refl _ _) rfl _) fun _ _ e => .inr e⟩
  exact Rch.chain.carry (HC.out.head rfl) (Fr.setCell (S := fun i => i = d) (p := ⟨d, 4, none⟩) (Fr.refl _ _) rfl _) hne
set_option maxRecDepth 20000 in
theorem r_move (q : Rch w c a k) (g : Am 50 a bs ss w Z) (ok : k.Ok bs.length) (x : Int) : Calls Try.prog 32 #[.pointer (some ⟨c, 0, none⟩), .int .i64 x] w fun e w' => e = .returned (.int .i64 (moE k bs.length x)) ∧ Rch w' c a (moS k bs.length x) ∧ Fr (fun i => i = c) w w' := by
  unfold moE moS
  have HC := hid q
  have c0 := q.c0
  have c1 := q.c1
  have c2 := q.c2
  have c3 := q.c3
  have f1 := q.fz
  have H1 : Hid (∀ w0, Fr (fun _ => False) w w0 → Calls Try.prog 40 #[.pointer (some ⟨a, 0, none⟩), .int .i64 x, .int .i64 k.unit, .int .i64 k.per] w0 fun e w' => e = .returned (.bool (decide (k.Lies bs.length x))) ∧ w' = w0) := fun w0 f => r_lie (g.kept f) x k.unit k.per ok.u1 ok.p1
  clear q g
  by_cases hx : k.Lies bs.length x
  · rw [if_pos hx, if_pos hx]
    rw [decide_eq_true hx] at H1
    obtain ⟨x, rfl⟩ := Int.eq_ofNat_of_zero_le hx.1
    clear hx ok
    go_enter Try.func32, Try.ntmps32
    go_wp2_with fail
    go_region_held3 (fun w' => w'.cell? ⟨c, 0, none⟩ = some (.pointer (some ⟨a, 0, none⟩)) ∧ w'.cell? ⟨c, 2, none⟩ = some (.int .i64 k.unit) ∧ w'.cell? ⟨c, 3, none⟩ = some (.int .i64 k.per)) (first | go_keep | exact ⟨by assumption, by assumption, by assumption⟩) (first | (go_at_call 40; refine (H1.out _ (Fr.refl _ _).drew).mono ?_; rintro e w1 ⟨rfl, rfl⟩))
    go_wp2
    go_ret
    exact ⟨by simp, (Rch.chain.carry HC.out (Fr.refl (fun _ => False) _).drew id).base x, Fr.setCell (S := fun i => i = c) (p := ⟨c, 1, none⟩) (Fr.refl _ _).drew rfl _⟩
  · rw [if_neg hx, if_neg hx]
    rw [decide_eq_false hx] at H1
    clear hx ok
    go_enter Try.func32, Try.ntmps32
    go_wp2_with fail
    go_region_held3 (fun w' => w'.cell? ⟨c, 0, none⟩ = some (.pointer (some ⟨a, 0, none⟩)) ∧ w'.cell? ⟨c, 2, none⟩ = some (.int .i64 k.unit) ∧ w'.cell? ⟨c, 3, none⟩ = some (.int .i64 k.per)) (first | go_keep | exact ⟨by assumption, by assumption, by assumption⟩) (first | (go_at_call 40; refine (H1.out _ (Fr.refl _ _).drew).mono ?_; rintro e w1 ⟨rfl, rfl⟩))
    go_wp2
    go_ret
    exact ⟨by simp, Rch.chain.carry HC.out (Fr.refl (fun _ => False) _).drew id, (Fr.refl _ _).drew⟩
end
end Go.Proofs.Ytjgkcaibapffhaa
