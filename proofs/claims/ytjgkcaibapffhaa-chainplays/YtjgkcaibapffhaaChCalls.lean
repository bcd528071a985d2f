/-
  What the calls of package chain do: All (a backward goto).
-/
import Derived.Test.YtjgkcaibapffhaaChCallsA
import Derived.ScopeJumps
namespace Go.Proofs.Ytjgkcaibapffhaa
open Go.RowKit
open An
/-- A scope whose label is jumped back to: what stands ahead of the label, and a pass. -/
theorem wp_scope_back {P : Program} {Q : Exit → Act → World → Prop} {a : Act} {w : World} {c rest : Code} (l : Nat) (J : Act → World → Prop) (μ : Act → World → Nat) (hf : findLabel c l = some (Code.skip.seq rest))
    (pre : ∀ R : Exit → Act → World → Prop, (∀ a w, J a w → rest.wp P R a w) → c.wp P R a w)
    (pass : ∀ a w, J a w → rest.wp P (Exit.jump l (fun a' w' => J a' w' ∧ μ a' w' < μ a w) Q) a w) : (Code.scope c).wp P Q a w :=
  wp_scope_jumps l J μ hf (pre _ fun a w h => Code.wp_mono (fun e a w he => by
    cases e with
    | goto l' => exact ⟨he.1, he.2.1⟩
    | _ => exact he) (pass a w h)) fun a w h => wp_seq (wp_skip (pass a w h))
section
variable {w : World} {a c : Nat} {Z : Nat → Prop} {bs : List UInt8} {ss : List Sp} {k : Ck}
theorem InAll.load {Q : World → Nat → Nat → Ck → Prop} {T : TypeId} {n v : Nat} {t t2 : List Sp} {os : List Nat} {Zr Z2 : Nat → Prop} {wr w3 : World} {y : Value} (h : InAll Q T w c a Z bs ss k os n v t Zr y wr) (hL : Left T Q w c a Z bs t2 k Z2 w3) (hG : Gw wr w3 Zr Z2) :
    Left T Q w c a Z bs t2 k Z2 w3 ∧ w3.ownsRow w.heap.size 3 1 y (nI os).length (ic (nI os)) ∧ ∀ g, y.ownBlock = some g → ¬ Z2 g := by
  refine ⟨hL, own_turn h.row hG.fr fun x e => h.apart x e, fun g e e2 => ?_⟩
  have := (h.row.lt g e).2
  rcases hG.new g e2 with e3 | e3
  · exact h.apart g e e3
  · omega
theorem InAll.push {Q : World → Nat → Nat → Ck → Prop} (hQ : Chain1 Q) (hc : c < w.heap.size) {T : TypeId} {n x : Nat} {t : List Sp} {os : List Nat} {Z2 : Nat → Prop} {w3 w2 : World} {y : Value} (hA : Amid k bs ss os (n + 1) (x + 1) t) (hv : wd bs (k.pos x) ≤ k.per) (ht : t.length ≤ ss.length + os.length)
    (h : Left T Q w c a Z bs (t ++ [((k.pos x : Int), (8 : Int), false)]) k Z2 w3 ∧ w3.ownsRow w.heap.size 3 1 y (nI os).length (ic (nI os)) ∧ ∀ g, y.ownBlock = some g → ¬ Z2 g) {ob : Obj} {g m m2 cap : Nat}
    (hown : w2.ownsRow w.heap.size 3 1 (.slice (some ⟨g, 0, none⟩) m cap) m2 (ic (nI os ++ [(x : Int)]))) (hm : m2 = os.length + 1) (hg : (w3.alloc ob).grownBy w2 y.ownBlock) (hw : y.ownBlock = some g ∨ g = w3.heap.size + 1) :
    InAll Q T w c a Z bs ss k (os ++ [x]) n (wd bs (k.pos x)) (t ++ [((k.pos x : Int), (8 : Int), false)]) Z2 (.slice (some ⟨g, 0, none⟩) m cap) w2 := by
  obtain ⟨hL, hrow, hap⟩ := h
  have hs := hL.fr.size
  refine ⟨hA.next hv, hL.other hQ hc (S := fun i => y.ownBlock = some i) (((Fr.refl _ w3).alloc ob).grown hg fun k e => .inl e) fun i e => ⟨(hrow.lt i e).1, hap i e⟩, ?_, fun g' e => ?_, by simp only [List.length_append, List.length_singleton]; omega⟩
  · subst hm; rw [nI_snoc, List.length_append, nI_length]; exact hown
  · have : g = g' := by simpa [Value.ownBlock] using e
    subst this
    rcases hw with e | e
    · exact hap g e
    · intro e2
      have := hL.am.lt g e2
      omega
set_option maxHeartbeats 4000000 in
set_option maxRecDepth 20000 in
theorem p_all (q : Chm w c a k) (g : Am 85 a bs ss w Z) (ok : k.Ok bs.length) (nz : ¬ Z c) (hk : ss.length ≤ 900000) : Calls Try.prog 18 #[.pointer (some ⟨c, 0, none⟩)] w fun e w' => ∃ Z', AllE w w' Z' (nI (alL k bs)) (alE k bs) e ∧ Left 85 Chm w c a Z bs (alT k bs ss) k Z' w' := by
  have c4 := q.c4
  have H0 : Hid (InAll Chm 85 w c a Z bs ss k [] k.per k.hd ss Z (.slice none 0 0) w) := ⟨Amid.start ss ok.hd, Left.same Chm.chain g q nz (Fr.refl _ _), ⟨rfl, .inl ⟨rfl, rfl⟩⟩, fun g e => by simp [Value.ownBlock] at e, by simp⟩
  have HOK := hid ok
  have hp := ok.p1
  have HC : Hid (c < w.heap.size) := Chm.chain.lt q
  clear q g nz
  go_enter Try.func18, Try.ntmps18
  go_wp2
  refine wp_scope_back 0 (fun a' w' => ∃ (os : List Nat) (n v : Nat) (t : List Sp) (Zr : Nat → Prop) (y : Value) (u6 u7 u8 u9 u10 u11 u12 u13 u14 u15 u16 u17 u18 u19 u20 u21 u22 u23 u24 u25 u26 u27 u28 u29 u30 u31 u32 u33 u34 u35 u36 u37 u38 u39 : Value), Hid (InAll Chm 85 w c a Z bs ss k os n v t Zr y w') ∧ a' = { tmps := #[.pointer (some ⟨c, 0, none⟩), undef, .slice none 0 0, .int .i64 0, y, .int .u64 v, u6, u7, u8, u9, u10, u11, u12, u13, u14, u15, u16, u17, u18, u19, u20, u21, u22, u23, u24, u25, u26, u27, u28, u29, u30, u31, u32, u33, u34, u35, u36, u37, u38, u39], defers := [] } ∧ os.length + n = k.per ∧ lenV y = os.length) (fun a' _ => k.per - lenV (a'.tmps.getD 4 undef)) rfl ?pre ?pass
  case pre =>
    intro R hK
    go_wp2
    go_step3
    rename_i K hKK
    exact hKK _ _ (hK _ _ ⟨[], k.per, k.hd, ss, Z, _, _, _, _, _, _, _, _, _, _, _, _, _, _, _, _, _, _, _, _, _, _, _, _, _, _, _, _, _, _, _, _, _, _, _, H0, rfl, by simp, rfl⟩)
  case pass =>
    rintro a' wr ⟨os, n, v, t, Zr, y, u6, u7, u8, u9, u10, u11, u12, u13, u14, u15, u16, u17, u18, u19, u20, u21, u22, u23, u24, u25, u26, u27, u28, u29, u30, u31, u32, u33, u34, u35, u36, u37, u38, u39, HI, rfl, hn, hlen⟩
    obtain ⟨yad, ycap, hy, hyn, hyb⟩ := row_list HI.out.row
    rw [nI_length] at hy
    subst hy
    clear hyn hyb H0 c4
    have d3 := HI.out.left.q.c3
    cases v with
    | zero =>
      have HE := hid HI.out.amid.done
      have HN := hid HI.out.end
      go_wp2
      rw [jump_ret]
      go_ret2
      exact ⟨Zr, ⟨yad, ycap, by rw [HE.out.1, HE.out.2.1, nI_length]; simp, by rw [HE.out.2.1]; exact HN.out.1, HN.out.2⟩, by rw [HE.out.2.2]; exact HI.out.left⟩
    | succ x =>
      have hx : x < k.per := by have := HI.out.amid.v; omega
      generalize hvv : x + 1 = v at *
      have hv0 : (v : Int) ≠ 0 := by omega
      cases n with
      | zero =>
        subst hvv
        have HE := hid HI.out.amid.many
        have hpl : os.length = k.per := by omega
        rw [hpl]
        go_wp2
        rw [jump_ret]
        go_ret2
        exact ⟨Zr, ⟨none, 0, by rw [HE.out.1, HE.out.2.1]; simp [nI], by rw [HE.out.2.1]; exact nums_none _ _, fun b off e => by cases e⟩, by rw [HE.out.2.2]; exact HI.out.left⟩
      | succ n =>
        have hne2 : ((os.length : Int) == (k.per : Int)) = false := by simp; omega
        have htl := HI.out.t
        have HAM : Hid (Amid k bs ss os (n + 1) (x + 1) t) := by subst hvv; exact HI.out.amid
        by_cases hv : wd bs (k.pos x) ≤ k.per
        · have HF := hid (follow_ok HI.out.left.q HI.out.left.am HOK.out HI.out.left.nz (by omega) hvv.symm hx hv)
          have HNX : Hid (∀ (Z2 : Nat → Prop) (w3 : World), Left 85 Chm wr c a Zr bs (t ++ [((k.pos x : Int), (8 : Int), false)]) k Z2 w3 → Gw wr w3 Zr Z2 → Left 85 Chm w c a Z bs (t ++ [((k.pos x : Int), (8 : Int), false)]) k Z2 w3 ∧ w3.ownsRow w.heap.size 3 1 (.slice yad os.length ycap) (nI os).length (ic (nI os)) ∧ ∀ g, (Value.slice yad os.length ycap).ownBlock = some g → ¬ Z2 g) := fun Z2 w3 h1 h2 => HI.out.load (HI.out.left.arena2 Chm.chain h1.am h2) h2
          have HPU : Hid (∀ (Z2 : Nat → Prop) (w3 w2 : World) (ob : Obj) (g m m2 cap : Nat), (Left 85 Chm w c a Z bs (t ++ [((k.pos x : Int), (8 : Int), false)]) k Z2 w3 ∧ w3.ownsRow w.heap.size 3 1 (.slice yad os.length ycap) (nI os).length (ic (nI os)) ∧ ∀ g, (Value.slice yad os.length ycap).ownBlock = some g → ¬ Z2 g) → w2.ownsRow w.heap.size 3 1 (.slice (some ⟨g, 0, none⟩) m cap) m2 (ic (nI os ++ [(x : Int)])) → m2 = os.length + 1 → (w3.alloc ob).grownBy w2 (Value.slice yad os.length ycap).ownBlock → ((Value.slice yad os.length ycap).ownBlock = some g ∨ g = w3.heap.size + 1) → InAll Chm 85 w c a Z bs ss k (os ++ [x]) n (wd bs (k.pos x)) (t ++ [((k.pos x : Int), (8 : Int), false)]) Z2 (.slice (some ⟨g, 0, none⟩) m cap) w2) := fun Z2 w3 w2 ob g m m2 cap h1 h2 h3 h4 h5 => InAll.push Chm.chain HC.out HAM.out hv htl h1 h2 h3 h4 h5
          have hy2 : (nI os).length < 100000 := by rw [nI_length]; omega
          clear HAM HI hv htl hvv hx
          generalize k.pos x = ps at *
          generalize wd bs ps = v2 at *
          go_wp2_with fail
          refine HF.out.mono ?_
          rintro e w3 ⟨rfl, Z2, hL, hG⟩
          have HL := hid (HNX.out Z2 w3 hL hG)
          have hbs : w.heap.size ≤ w3.heap.size := HL.out.1.fr.size
          clear hL hG HNX HF d3
          go_wp2_with (at_builtin; refine push1s rfl (.tmp 35) (.tmp 37) rfl w.heap.size _ _ (x : Int) rfl (HL.out.2.1.alloc _) w3.heap.size rfl (by simp) hy2 (by simp; omega) ?_)
          intro g cap w2 hown hg hw2
          have HR := hid (HPU.out Z2 w3 w2 _ g _ _ cap HL.out hown (by rw [nI_length]) hg hw2)
          clear hown hg hw2 HL HPU
          go_wp2
          go_step3
          exact ⟨rfl, ⟨os ++ [x], n, v2, _, Z2, _, _, _, _, _, _, _, _, _, _, _, _, _, _, _, _, _, _, _, _, _, _, _, _, _, _, _, _, _, _, _, _, _, _, _, HR, rfl, by simp; omega, by simp [lenV, nI_length]⟩, by simp [lenV, nI_length]; omega⟩
        · have HF := hid (follow_no HI.out.left.q HI.out.left.am HOK.out HI.out.left.nz (by omega) hvv.symm hx hv)
          have HE := hid (HAM.out.form hv)
          have HNX : Hid (∀ (Z2 : Nat → Prop) (w3 : World), Left 85 Chm wr c a Zr bs (t ++ [((k.pos x : Int), (8 : Int), false)]) k Z2 w3 → Gw wr w3 Zr Z2 → Left 85 Chm w c a Z bs (t ++ [((k.pos x : Int), (8 : Int), false)]) k Z2 w3) := fun Z2 w3 h1 h2 => HI.out.left.arena2 Chm.chain h1.am h2
          clear HAM HI hv htl hvv hx
          generalize k.pos x = ps at *
          go_wp2_with fail
          refine HF.out.mono ?_
          rintro e w3 ⟨rfl, Z3, hL, hG⟩
          have HL3 := hid (HNX.out Z3 w3 hL hG)
          clear hL hG HNX HF d3
          go_wp2
          rw [jump_ret]
          go_ret2
          exact ⟨Z3, ⟨none, 0, by rw [HE.out.1, HE.out.2.1]; simp [nI], by rw [HE.out.2.1]; exact nums_none _ _, fun b off e => by cases e⟩, by rw [HE.out.2.2]; exact HL3.out⟩
set_option maxRecDepth 20000 in
theorem p_all_nil (w : World) : Calls Try.prog 18 #[.pointer none] w fun e w' => (∃ ad cap, e = .returned (.tuple #[.slice ad 0 cap, .int .i64 11])) ∧ Fr (fun _ => False) w w' := by
  go_enter Try.func18, Try.ntmps18
  go_wp2
  refine wp_scope_jumps 0 (fun _ _ => False) (fun _ _ => 0) rfl ?first (fun _ _ h => h.elim)
  go_wp2
  rw [jump_ret]
  go_ret2
  exact ⟨⟨none, 0, by simp⟩, Fr.refl _ _⟩
end
end Go.Proofs.Ytjgkcaibapffhaa
