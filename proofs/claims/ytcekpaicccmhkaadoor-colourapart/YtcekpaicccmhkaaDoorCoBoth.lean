/-
  The program's map and the document's beside each other.
-/
import Derived.Test.YtcekpaicccmhkaaDoorCoLow
import Derived.Test.YtcekpaicccmhkaaDoorCoOps
namespace Go.Proofs.YtcekpaicccmhkaaDoor
open Go.RowKit

theorem OpsAt.win {w : World} {ad : Option Addr} {ops : List OpV} (h : OpsAt w ad ops) (i : Nat) (hi : i < ops.length) : NumsAt w ops[i].ad ops[i].win := by
  obtain ⟨b, off, _, _, _, _, _, h6⟩ := h i hi
  exact h6
/-- A map of the program's and one of the document's, both made behind W, with the same pages taken. -/
structure Bo (W w : World) (a : Nat) (Z : Nat → Prop) (k : Nat) (has : List Bool) (r t : Nat) : Prop where
  m : Mn W w a Z k has
  f : Rf w r t k has
  lr : W.heap.size ≤ r
  lt : W.heap.size ≤ t
  zr : ¬ Z r
  zt : ¬ Z t
section
variable {W w w' : World} {a k r t : Nat} {Z : Nat → Prop} {has : List Bool} {ad ad2 : Option Addr} {l : List Int} {o : Obj}
theorem Bo.kept (h : Bo W w a Z k has r t) (f : Fr (fun _ => False) w w') : Bo W w' a Z k has r t := ⟨h.m.kept f, h.f.kept f, h.lr, h.lt, h.zr, h.zt⟩
theorem Bo.alloc (h : Bo W w a Z k has r t) (o : Obj) : Bo W (w.alloc o) a Z k has r t := h.kept ((Fr.refl _ _).alloc o)
theorem Bo.clone (h : Bo W w a Z k has r t) (f : Fr (fun i => i = w.heap.size) (w.alloc o) w') : Bo W w' a Z k has r t :=
  ⟨clone_on h.m f, (h.alloc o).f.carry f (fun e => by have := h.f.ltr; omega) (fun e => by have := h.f.ltt; omega), h.lr, h.lt, h.zr, h.zt⟩
theorem Bo.clone' {B : Nat} (h : Bo W (w.alloc o) a Z k has r t) {o2 : Obj} (hB : B = w.heap.size + 1) (f : Fr (fun i => i = B) ((w.alloc o).alloc o2) w') : Bo W w' a Z k has r t := by
  have e : (w.alloc o).heap.size = B := by rw [hB]; simp
  exact h.clone (by rw [e]; exact f)
theorem clone_off' {g B : Nat} {o2 : Obj} (h : Mn W w a Z k has) (hB : w.heap.size = B) (hg : g = B ∨ (w.alloc o2).heap.size ≤ g) (l : List Int) : Off Z (some ⟨g, 0, none⟩) l := clone_off h (by rw [hB]; exact hg) l
theorem clone_t {g B : Nat} {o2 : Obj} (h : Bo W w a Z k has r t) (hg : g = B ∨ (w.alloc o2).heap.size ≤ g) (hB : w.heap.size ≤ B := by simp) : ¬ g = t := fun e => by
  have := h.f.ltt
  rcases hg with hg | hg
  · omega
  · simp at hg; omega
theorem off_one {g t : Nat} (h : ¬ g = t) (l : List Int) : Off (fun i => i = t) (some ⟨g, 0, none⟩) l := fun b off e _ hz => by
  simp only [Option.some.injEq, Addr.mk.injEq] at e
  exact h (e.1.trans hz)
theorem NumsAt.carry {S : Nat → Prop} {w w' : World} {ad : Option Addr} {l : List Int} (h : NumsAt w ad l) (f : Fr S w w') (ho : Off S ad l) : NumsAt w' ad l := fun i hi => by
  obtain ⟨b, off, h1, h2, h3⟩ := h i hi
  exact ⟨b, off, h1, by have := f.size; omega, (World.cell?_of_block (f.block b h2 (ho b off h1 (by omega)))).trans h3⟩
theorem Bx.behind {B : Nat} {v : OpV} {o2 : Obj} (h : Bx (w.alloc o) w.heap.size v) (f : Fr (fun i => i = B) ((w.alloc o).alloc o2) w') (hB : w.heap.size < B := by omega) : Bx w' w.heap.size v := (h.kept ((Fr.refl _ _).alloc o2)).carry f (fun e => by omega)
theorem Cf.behind {B X : Nat} {n k : Int} {o2 : Obj} (h : Cf (w.alloc o) X n k) (f : Fr (fun i => i = B) ((w.alloc o).alloc o2) w') (hB : X < B) : Cf w' X n k := (h.kept ((Fr.refl _ _).alloc o2)).carry f (fun e => by omega)
/-- What the calls of either turn. -/
def ZT (Z : Nat → Prop) (t i : Nat) : Prop := Z i ∨ i = t
theorem n_each' {n q : Nat} (h : Mn W w a Z k has) (hn : has.length = n) (hq : n / k = q) : Calls Tryd.prog 24 #[.pointer (some ⟨a, 0, none⟩)] w fun e w' => e = .returned (.int .i64 (q : Int)) ∧ Mn W w' a Z k has ∧ Fr (fun _ => False) w w' := by subst hn hq; exact n_each h
theorem f_taken (h : Rf w r t k has) (p : Int) : Calls Tryd.prog 21 #[.pointer (some ⟨r, 0, none⟩), .int .i64 p] w fun e w' => e = .returned (.bool (isT has p)) ∧ Fr (fun _ => False) w w' := (e_taken h p).mono fun _ _ ⟨he, hw⟩ => ⟨he, hw ▸ Fr.refl _ _⟩
theorem f_colour (h : Rf w r t k has) (p : Int) : Calls Tryd.prog 23 #[.pointer (some ⟨r, 0, none⟩), .int .i64 p] w fun e w' => e = .returned (.int .i64 (colI has.length k p)) ∧ Fr (fun _ => False) w w' := (e_colour h p).mono fun _ _ ⟨he, hw⟩ => ⟨he, hw ▸ Fr.refl _ _⟩
/-- Both take, one behind the other. -/
theorem b_take (cap : Nat) (h : Bo W w a Z k has r t) (hl : NumsAt w ad l) (ho : Off Z ad l) (hl2 : NumsAt W ad2 l) (hm : l.length ≤ maxLen) : Calls Tryd.prog 13 #[.pointer (some ⟨a, 0, none⟩), .slice ad l.length cap] w fun e w' => e = .returned (.tuple #[.int .i64 (takV k has l), .int .i64 (takE k has l)]) ∧ Fr Z w w' ∧ ∀ w2 cap2, Fr (fun _ => False) w' w2 →
    Calls Tryd.prog 14 #[.pointer (some ⟨r, 0, none⟩), .slice ad2 l.length cap2] w2 fun e w3 => e = .returned (.tuple #[.int .i64 (takV k has l), .int .i64 (takE k has l)]) ∧ Bo W w3 a Z k (takS k has l) r t ∧ Fr (fun i => i = t) w2 w3 :=
  (n_take cap h.m hl ho hm).mono fun _ w1 ⟨he, hc, f⟩ => ⟨he, f, fun w2 cap2 f2 => by
    have hr1 : Rf w2 r t k has := (h.f.carry f h.zr h.zt).kept f2
    have hm1 : Mn W w2 a Z k (takS k has l) := hc.kept f2
    refine (e_take cap2 hr1 (hl2.fr hm1.nw.fr) hm).mono fun _ w3 ⟨he3, hr3, f3⟩ => ⟨he3, ⟨?_, hr3, h.lr, h.lt, h.zr, h.zt⟩, f3⟩
    exact ⟨hm1.m.carry f3 (fun i hi e => by subst e; exact h.zt hi) (fun e => by have := h.lt; have := hm1.nw.pos; omega), hm1.z, hm1.nw.on f3 (fun i e => by subst e; exact h.lt)⟩⟩
theorem b_give (h : Bo W w a Z k has r t) (p : Int) : Calls Tryd.prog 15 #[.pointer (some ⟨a, 0, none⟩), .int .i64 p] w fun e w' => e = .returned (.int .i64 (giE has p)) ∧ Fr Z w w' ∧ ∀ w2, Fr (fun _ => False) w' w2 →
    Calls Tryd.prog 16 #[.pointer (some ⟨r, 0, none⟩), .int .i64 p] w2 fun e w3 => e = .returned (.int .i64 (giE has p)) ∧ Bo W w3 a Z k (giS has p) r t ∧ Fr (fun i => i = t) w2 w3 :=
  (n_give h.m p).mono fun _ w1 ⟨he, hc, f⟩ => ⟨he, f, fun w2 f2 => by
    have hr1 : Rf w2 r t k has := (h.f.carry f h.zr h.zt).kept f2
    have hm1 : Mn W w2 a Z k (giS has p) := hc.kept f2
    refine (e_give hr1 p).mono fun _ w3 ⟨he3, hr3, f3⟩ => ⟨he3, ⟨?_, hr3, h.lr, h.lt, h.zr, h.zt⟩, f3⟩
    exact ⟨hm1.m.carry f3 (fun i hi e => by subst e; exact h.zt hi) (fun e => by have := h.lt; have := hm1.nw.pos; omega), hm1.z, hm1.nw.on f3 (fun i e => by subst e; exact h.lt)⟩⟩
/-- A copy is made, something is taken from what it was made of, and the copy goes on in its place. -/
theorem b_copy (cap : Nat) (h : Bo W w a Z k has r t) (hl : NumsAt w ad l) (ho : Off Z ad l) (hm : l.length ≤ maxLen) : Calls Tryd.prog 17 #[.pointer (some ⟨a, 0, none⟩)] w fun e w' => ∃ a' Z', e = .returned (.pointer (some ⟨a', 0, none⟩)) ∧ (∀ i, Z' i → w.heap.size ≤ i) ∧
    Calls Tryd.prog 13 #[.pointer (some ⟨a, 0, none⟩), .slice ad l.length cap] w' fun e w2 => ∃ x y, e = .returned (.tuple #[.int .i64 x, .int .i64 y]) ∧ Bo W w2 a' Z' k has r t ∧ Fr Z w w2 :=
  (c_copy h.m.m).mono fun _ w1 ⟨a', Z', he, hz, hc, f⟩ => ⟨a', Z', he, hz, by
    have g1 := h.f.ltr; have g2 := h.f.ltt; have g3 := h.m.nw.le
    refine (n_take cap (h.m.kept f) (hl.fr f) ho hm).mono fun _ w2 ⟨he2, hc2, f2⟩ => ⟨_, _, he2, ⟨⟨hc.carry f2 (fun i hi e => by have := hz i hi; have := h.m.m.zlt i e; omega) (fun e => by have := h.m.z 0 e; have := h.m.nw.pos; omega), fun i hi => Nat.le_trans g3 (hz i hi), hc2.nw⟩, (h.f.kept f).carry f2 h.zr h.zt, h.lr, h.lt, fun e => by have := hz _ e; omega, fun e => by have := hz _ e; omega⟩, (f.mono fun _ _ e => e.elim).trans f2⟩⟩
end
end Go.Proofs.YtcekpaicccmhkaaDoor
