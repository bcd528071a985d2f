/-
  Scripts of calls, each with a window; is there more than is played?
-/
import Derived.Test.YtcekpaicccmhkaaDoorCoState
namespace Go.Proofs.YtcekpaicccmhkaaDoor
open Go.RowKit

/-- A call as data: its kind, its page, where its window lies, the window, its room. -/
structure OpV where
  kind : Int
  page : Int
  ad : Option Addr
  win : List Int
  cap : Nat
def OpsAt (w : World) (ad : Option Addr) (ops : List OpV) : Prop := ∀ i (h : i < ops.length), ∃ b off, ad = some ⟨b, off, none⟩ ∧ b < w.heap.size ∧ w.cell? ⟨b, off + i * 3, none⟩ = some (.int .i64 ops[i].kind) ∧ w.cell? ⟨b, off + i * 3 + 1, none⟩ = some (.int .i64 ops[i].page) ∧ w.cell? ⟨b, off + i * 3 + 2, none⟩ = some (.slice ops[i].ad ops[i].win.length ops[i].cap) ∧ NumsAt w ops[i].ad ops[i].win
theorem OpsAt.fr {w w' : World} {ad : Option Addr} {ops : List OpV} (h : OpsAt w ad ops) (hf : Fr (fun _ => False) w w') : OpsAt w' ad ops := fun i hi => by
  obtain ⟨b, off, h1, h2, h3, h4, h5, h6⟩ := h i hi
  exact ⟨b, off, h1, by have := hf.size; omega, (World.cell?_of_block (hf.block b h2 (fun h => h))).trans h3, (World.cell?_of_block (hf.block b h2 (fun h => h))).trans h4, (World.cell?_of_block (hf.block b h2 (fun h => h))).trans h5, h6.fr hf⟩
/-- In block B lies a call. -/
structure Bx (w : World) (B : Nat) (o : OpV) : Prop where
  heap : w.heap[B]? = some (.cells #[.int .i64 o.kind, .int .i64 o.page, .slice o.ad o.win.length o.cap] 37 (0, 0))
section
variable {w w' : World} {B : Nat} {o : OpV}
theorem Bx.new (w : World) (o : OpV) : Bx (w.alloc (.cells #[.int .i64 o.kind, .int .i64 o.page, .slice o.ad o.win.length o.cap] 37)) w.heap.size o := ⟨heap_alloc_new w _⟩
theorem Bx.lt (h : Bx w B o) : B < w.heap.size := (Array.getElem?_eq_some_iff.1 h.heap).1
theorem Bx.carry {S : Nat → Prop} (h : Bx w B o) (f : Fr S w w') (hn : ¬ S B) : Bx w' B o := ⟨by rw [f.block B h.lt hn]; exact h.heap⟩
theorem Bx.kept (h : Bx w B o) (f : Fr (fun _ => False) w w') : Bx w' B o := h.carry f id
theorem Bx.c0 (h : Bx w B o) : w.cell? ⟨B, 0, none⟩ = some (.int .i64 o.kind) := by simp [World.cell?, h.heap]
theorem Bx.c1 (h : Bx w B o) : w.cell? ⟨B, 1, none⟩ = some (.int .i64 o.page) := by simp [World.cell?, h.heap]
theorem Bx.c2 (h : Bx w B o) : w.cell? ⟨B, 2, none⟩ = some (.slice o.ad o.win.length o.cap) := by simp [World.cell?, h.heap]
end
/-- Short enough to be played. -/
def Short (ops : List OpV) : Prop := ops.length ≤ 300 ∧ ∀ i (h : i < ops.length), ops[i].win.length ≤ 2000
set_option maxHeartbeats 1000000 in
theorem long_any (ad : Option Addr) (ops : List OpV) (cap : Nat) (w : World) (h : OpsAt w ad ops) (hb : ∀ i (h : i < ops.length), ops[i].win.length ≤ 1152921504606846976) (hl : ops.length ≤ maxLen) : Calls Tryd.prog 12 #[.slice ad ops.length cap] w fun e w' => ∃ v : Bool, e = .returned (.bool v) ∧ (v = false → Short ops) ∧ Fr (fun _ => False) w w' := by
  have HO := hid h
  have HB := hid hb
  have hlm : ops.length ≤ 9223372036854775807 := by simp only [maxLen] at hl; omega
  clear h hb hl
  go_enter Tryd.func12, Tryd.ntmps12
  go_wp2
  go_loopw [3, 8] (fun c i wr => ∃ (j : Nat) (q : Nat), j ≤ ops.length ∧ i = .int .i64 j ∧ c = .int .i64 (q : Int) ∧ q ≤ 2000 ∧ Hid (∀ i (h : i < ops.length), i < j → ops[i].win.length ≤ 2000) ∧ Hid (Fr (fun _ => False) w wr)) (fun _ i _ => ops.length - (intOf i).toNat)
  case atStart => exact ⟨0, 0, by omega, rfl, rfl, by omega, fun i _ hi => by omega, Fr.refl _ _⟩
  case round =>
    obtain ⟨j, q, hj, rfl, rfl, hq, HI, HF⟩ := hrel
    by_cases hlt : j < ops.length
    · obtain ⟨bb, off, rfl, hbb, hc1, hc2, hc3, _⟩ := HO.out.fr HF.out j hlt
      have hbj := HB.out j hlt
      have HIJ : Hid (∀ (hw : ops[j].win.length ≤ 2000) i (h : i < ops.length), i < j + 1 → ops[i].win.length ≤ 2000) := fun hw i hi hij => by
        by_cases e : i = j
        · subst e; exact hw
        · exact HI.out i hi (by omega)
      have HX := Bx.new wr ops[j]
      have c2 := HX.c2
      have HF2 : Hid (Fr (fun _ => False) w (wr.alloc (.cells #[.int .i64 ops[j].kind, .int .i64 ops[j].page, .slice ops[j].ad ops[j].win.length ops[j].cap] 37))) := HF.out.alloc _
      clear HX HO HB HI
      generalize ops[j] = o at *
      obtain ⟨kind, page, wad, win, wcap⟩ := o
      simp only at *
      by_cases hg : q + (1 + win.length) ≤ 2000
      · go_wp2
        go_roundw
        case rel => exact ⟨j + 1, q + (1 + win.length), by omega, by go_num, by go_num, hg, HIJ.out (by omega), HF2⟩
        case measure => simp [intOf]; omega
      · go_wp2
        go_ret
        exact ⟨true, by simp, fun e => (by cases e), HF2.out⟩
    · obtain rfl : j = ops.length := by omega
      clear HO HB
      go_wp2
      go_ret
      refine ⟨_, by simp; rfl, fun e => ?_, HF.out⟩
      refine ⟨?_, fun i hi => HI.out i hi hi⟩
      simp at e
      omega
end Go.Proofs.YtcekpaicccmhkaaDoor
