/-
  The program's table and the document's side by side, and the handles that were given out.
-/
import Derived.Test.YtcleheapfgapaaaDoorCaOf
namespace Go.Proofs.YtcleheapfgapaaaDoor
open Go.RowKit

structure Pb (W w : World) (a : Nat) (Z : Nat → Prop) (r : Nat) (v : Value) (c d : Ct) (y : Value) (l : List Int) : Prop where
  k : Kn W w a Z c
  f : Rc w W.heap.size r v d
  g : Gv W w Z y l
  zr : ¬ Z r
  zv : ∀ q, v.ownBlock = some q → ¬ Z q
  yr : ∀ q, y.ownBlock = some q → q ≠ r ∧ v.ownBlock ≠ some q
section
variable {W w w' : World} {a r : Nat} {Z Z' : Nat → Prop} {v v' y : Value} {c c' d d' : Ct} {l : List Int}
theorem Pb.kept (h : Pb W w a Z r v c d y l) (f : Fr (fun _ => False) w w') : Pb W w' a Z r v c d y l := ⟨h.k.kept f, h.f.kept f, h.g.kept f, h.zr, h.zv, h.yr⟩
theorem Pb.alloc (h : Pb W w a Z r v c d y l) (o : Obj) : Pb W (w.alloc o) a Z r v c d y l := h.kept ((Fr.refl _ _).alloc o)
/-- The program's has turned. -/
theorem Pb.prog (h : Pb W w a Z r v c d y l) (k : Kn W w' a Z' c') (hz : ∀ i, Z' i → Z i ∨ w.heap.size ≤ i) (f : Fr Z w w') : Pb W w' a Z' r v c' d y l := by
  have hr := h.f.ltr
  refine ⟨k, h.f.carry f h.zr h.zv, h.g.on f hz, fun e => ?_, fun q hq e => ?_, h.yr⟩
  · rcases hz r e with e | e
    · exact h.zr e
    · omega
  · have hl := (h.f.row.lt q hq).2
    rcases hz q e with e | e
    · exact h.zv q hq e
    · omega
/-- The document's has turned. -/
theorem Pb.ref (h : Pb W w a Z r v c d y l) (hR : Rc w' W.heap.size r v' d') (hv : Fv w v v') (f : Fr (fun i => i = r) w w') : Pb W w' a Z r v' c d' y l := by
  refine ⟨h.k.other f fun i e => by subst e; exact ⟨h.f.lo, h.zr⟩, hR, ⟨own_carry h.g.row f (fun q hq e => (h.yr q hq).1 e), h.g.off, h.g.wd⟩, h.zr, fun q hq e => ?_, fun q hq => ⟨(h.yr q hq).1, fun e => ?_⟩⟩
  · rcases hv with rfl | hv
    · exact h.zv q hq e
    · have := hv q hq; have := h.k.m.zlt q e; omega
  · rcases hv with rfl | hv
    · exact (h.yr q hq).2 e
    · have := hv q e; have := (h.g.row.lt q hq).2; omega
/-- A copy goes on in its place, when the first one has turned. -/
theorem Pb.copied {a2 : Nat} {Z2 : Nat → Prop} {w1 : World} {c2 : Ct} (h : Pb W w a Z r v c d y l) (hK : Kn W w1 a2 Z2 c) (hz : ∀ i, Z2 i → w.heap.size ≤ i) (f1 : Fr (fun _ => False) w w1) (_hK2 : Kn W w' a Z' c2) (f2 : Fr Z w1 w') : Pb W w' a2 Z2 r v c d y l := by
  have h1 := h.kept f1
  have hr := h.f.ltr
  refine ⟨hK.other f2 fun i e => ⟨h.k.z i e, fun e2 => by have := hz i e2; have := h.k.m.zlt i e; omega⟩, h1.f.carry f2 h.zr h.zv, ⟨own_carry h1.g.row f2 h.g.off, fun q hq e => ?_, h.g.wd⟩, fun e => ?_, fun q hq e => ?_, h.yr⟩
  · have := hz q e; have := (h.g.row.lt q hq).2; omega
  · have := hz r e; omega
  · have := hz q e; have := (h.f.row.lt q hq).2; omega
/-- One more was given out. -/
theorem Pb.pushed {g cap : Nat} {z : Int} (h : Pb W w a Z r v c d y l) (hG : Gv W w' Z (.slice (some ⟨g, 0, none⟩) (l.length + 1) cap) (l ++ [z])) (hK : Kn W w' a Z c) (f : Fr (fun k => y.ownBlock = some k) w w') (hs : y.ownBlock = some g ∨ w.heap.size ≤ g) : Pb W w' a Z r v c d (.slice (some ⟨g, 0, none⟩) (l.length + 1) cap) (l ++ [z]) := by
  have hr := h.f.ltr
  refine ⟨hK, h.f.carry f (fun e => (h.yr r e).1 rfl) (fun q hq e => (h.yr q e).2 hq), hG, h.zr, h.zv, fun q hq => ?_⟩
  simp only [Value.ownBlock, Option.some.injEq] at hq
  subst hq
  rcases hs with e | e
  · exact h.yr g e
  · exact ⟨by omega, fun e2 => by have := (h.f.row.lt g e2).2; omega⟩
theorem b_serial (h : Pb W w a Z r v c d y l) : Calls Tryd.prog 22 #[.pointer (some ⟨a, 0, none⟩)] w fun e w' => e = .returned (.int .i64 c.nx) ∧ Pb W w' a Z r v c d y l :=
  (n_serial h.k).mono fun _ _ ⟨he, _, f⟩ => ⟨he, h.kept f⟩
theorem b_count (h : Pb W w a Z r v c d y l) : Calls Tryd.prog 23 #[.pointer (some ⟨a, 0, none⟩)] w fun e w' => e = .returned (.int .i64 (c.L.length : Int)) ∧ Pb W w' a Z r v c d y l :=
  (n_count h.k).mono fun _ _ ⟨he, _, f⟩ => ⟨he, h.kept f⟩
/-- The two, made one behind the other. -/
theorem Pb.start {w1 w2 w3 : World} (h : Kn W w1 a Z c) (hR : Rc w2 w1.heap.size w1.heap.size (.slice none 0 0) c) (f2 : Fr (fun _ => False) w1 w2) (f3 : Fr (fun _ => False) w2 w3) : Pb W w3 a Z w1.heap.size (.slice none 0 0) c c (.slice none 0 0) [] := by
  have hR3 := hR.kept f3
  refine ⟨(h.kept f2).kept f3, ⟨hR3.st, own_low hR3.row h.nw.le, hR3.ne, hR3.ok, hR3.len, h.nw.le⟩, Gv.fresh _ _ _, fun e => by have := h.m.zlt _ e; omega, (fun q e => by cases e), fun q e => by cases e⟩
end
end Go.Proofs.YtcleheapfgapaaaDoor
