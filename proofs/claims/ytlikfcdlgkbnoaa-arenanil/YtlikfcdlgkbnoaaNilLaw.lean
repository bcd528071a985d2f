/-
  An arena that is none; the walk of the law ArenaNil.
-/
import Derived.Test.YtlikfcdlgkbnoaaGreat
namespace Go.Proofs.Ytlikfcdlgkbnoaa
open Go.RowKit

theorem load_nil (x : Int) (w : World) : Calls Try.prog 18 #[.pointer none, .int .i64 x] w fun e w' => e = .returned (.tuple #[.int .u64 0, .int .i64 11]) ∧ w' = w := by
  go_enter Try.func18, Try.ntmps18
  go_wp2
  go_step3
  go_wp2
  rw [Exit.noGoto_ret]
  go_ret2
  exact ⟨rfl, rfl⟩
theorem read_nil (x n : Int) (w : World) : Calls Try.prog 16 #[.pointer none, .int .i64 x, .int .i64 n] w fun e w' => e = .returned (.tuple #[.string ⟨#[]⟩, .int .i64 11]) ∧ w' = w := by
  go_enter Try.func16, Try.ntmps16
  go_wp2
  go_step3
  go_wp2
  rw [Exit.noGoto_ret]
  go_ret2
  exact ⟨rfl, rfl⟩
theorem store_nil (x u : Int) (w : World) : Calls Try.prog 17 #[.pointer none, .int .i64 x, .int .u64 u] w fun e w' => e = .returned (.int .i64 11) ∧ w' = w := by
  go_enter Try.func17, Try.ntmps17
  go_wp2
  go_step3
  go_wp2
  rw [Exit.noGoto_ret]
  go_ret
  exact ⟨rfl, rfl⟩
theorem write_nil (x : Int) (s : ByteArray) (w : World) : Calls Try.prog 19 #[.pointer none, .int .i64 x, .string s] w fun e w' => e = .returned (.int .i64 11) ∧ w' = w := by
  go_enter Try.func19, Try.ntmps19
  go_wp2
  go_step3
  go_wp2
  rw [Exit.noGoto_ret]
  go_ret
  exact ⟨rfl, rfl⟩
theorem zero_nil (x n : Int) (w : World) : Calls Try.prog 22 #[.pointer none, .int .i64 x, .int .i64 n] w fun e w' => e = .returned (.int .i64 11) ∧ w' = w := by
  go_enter Try.func22, Try.ntmps22
  go_wp2
  go_step3
  go_wp2
  rw [Exit.noGoto_ret]
  go_ret
  exact ⟨rfl, rfl⟩
theorem copy_nil (x y n : Int) (w : World) : Calls Try.prog 20 #[.pointer none, .int .i64 x, .int .i64 y, .int .i64 n] w fun e w' => e = .returned (.int .i64 11) ∧ w' = w := by
  go_enter Try.func20, Try.ntmps20
  go_wp2
  go_step3
  go_wp2
  rw [Exit.noGoto_ret]
  go_ret
  exact ⟨rfl, rfl⟩
theorem size_nil (w : World) : Calls Try.prog 23 #[.pointer none] w fun e w' => e = .returned (.int .i64 0) ∧ w' = w := by
  go_enter Try.func23, Try.ntmps23
  go_wp2
  go_ret
  exact ⟨rfl, rfl⟩
theorem touched_nil (w : World) : Calls Try.prog 15 #[.pointer none] w fun e w' => e = .returned (.slice none 0 0) ∧ w' = w := by
  go_enter Try.func15, Try.ntmps15
  go_wp2
  go_ret
  exact ⟨rfl, rfl⟩
theorem forget_nil (w : World) : Calls Try.prog 21 #[.pointer none] w fun e w' => e = .returned (.tuple #[]) ∧ w' = w := by
  go_enter Try.func21, Try.ntmps21
  go_wp2
  exact bodyPost_ret (results_none rfl _ _ _) rfl ⟨rfl, rfl⟩

/-- A call's box, and a list of that one call. -/
theorem one_great (o : OpV) (w : World) (hd : o.data.size ≤ maxLen) :
    Calls Try.prog 12 #[.slice (some ⟨w.heap.size + 1, 0, none⟩) 1 1] ((w.alloc (.cells #[.int .i64 o.kind, .int .i64 o.a, .int .i64 o.b, .int .i64 o.c, .int .u64 o.v, .string o.data] 34)).alloc (.cells #[.int .i64 o.kind, .int .i64 o.a, .int .i64 o.b, .int .i64 o.c, .int .u64 o.v, .string o.data] 34))
      fun e w' => e = .returned (.bool (greatL [o] 0)) ∧ Fr (fun _ => False) w w' ∧ w'.heap[w.heap.size]? = some (.cells #[.int .i64 o.kind, .int .i64 o.a, .int .i64 o.b, .int .i64 o.c, .int .u64 o.v, .string o.data] 34 (0, 0)) := by
  have h2 := heap_two w (.cells #[.int .i64 o.kind, .int .i64 o.a, .int .i64 o.b, .int .i64 o.c, .int .u64 o.v, .string o.data] 34) (.cells #[.int .i64 o.kind, .int .i64 o.a, .int .i64 o.b, .int .i64 o.c, .int .u64 o.v, .string o.data] 34)
  have h1 := heap_one w (.cells #[.int .i64 o.kind, .int .i64 o.a, .int .i64 o.b, .int .i64 o.c, .int .u64 o.v, .string o.data] 34) (.cells #[.int .i64 o.kind, .int .i64 o.a, .int .i64 o.b, .int .i64 o.c, .int .u64 o.v, .string o.data] 34)
  have hfr : Fr (fun _ => False) w ((w.alloc (.cells #[.int .i64 o.kind, .int .i64 o.a, .int .i64 o.b, .int .i64 o.c, .int .u64 o.v, .string o.data] 34)).alloc (.cells #[.int .i64 o.kind, .int .i64 o.a, .int .i64 o.b, .int .i64 o.c, .int .u64 o.v, .string o.data] 34)) := ((Fr.refl _ w).alloc _).alloc _
  have hsz : ((w.alloc (.cells #[.int .i64 o.kind, .int .i64 o.a, .int .i64 o.b, .int .i64 o.c, .int .u64 o.v, .string o.data] 34)).alloc (.cells #[.int .i64 o.kind, .int .i64 o.a, .int .i64 o.b, .int .i64 o.c, .int .u64 o.v, .string o.data] 34)).heap.size = w.heap.size + 2 := by simp
  generalize (w.alloc (.cells #[.int .i64 o.kind, .int .i64 o.a, .int .i64 o.b, .int .i64 o.c, .int .u64 o.v, .string o.data] 34)).alloc (.cells #[.int .i64 o.kind, .int .i64 o.a, .int .i64 o.b, .int .i64 o.c, .int .u64 o.v, .string o.data] 34) = W2 at *
  have hops : OpsAt W2 (w.heap.size + 1) 0 [o] := by
    intro i hi
    have h0 : i = 0 := by simpa using hi
    subst h0
    simp [World.cell?, h2]
  have hdd : ∀ i (hi : i < [o].length), ([o][i]).data.size ≤ maxLen := by
    intro i hi
    have h0 : i = 0 := by simpa using hi
    subst h0
    exact hd
  have := great_pos (cap := 1) hops (by omega) (by simp [maxLen]) hdd (by simp)
  simp only [List.length_singleton] at this
  refine this.mono fun e w' ⟨he, hf⟩ => ⟨by simpa using he, hfr.trans hf, ?_⟩
  rw [hf.block _ (by omega) (fun h => h)]
  exact h1

set_option maxHeartbeats 1000000 in
theorem nil_great (o : OpV) (w : World) (hd : o.data.size ≤ maxLen) (hg : greatL [o] 0 = true) :
    Calls Try.prog 7 #[.agg #[.int .i64 o.kind, .int .i64 o.a, .int .i64 o.b, .int .i64 o.c, .int .u64 o.v, .string o.data]] w fun e w' => e = .returned (.bool true) ∧ Fr (fun _ => False) w w' := by
  have HG := one_great o w hd
  rw [hg] at HG
  have HGG := HG
  obtain ⟨k, a, b, c, v, s⟩ := o
  simp only at HGG ⊢
  clear HG hg
  have H : Hid (Calls Try.prog 12 #[.slice (some ⟨w.heap.size + 1, 0, none⟩) 1 1] ((w.alloc (.cells #[.int .i64 k, .int .i64 a, .int .i64 b, .int .i64 c, .int .u64 v, .string s] 34)).alloc (.cells #[.int .i64 k, .int .i64 a, .int .i64 b, .int .i64 c, .int .u64 v, .string s] 34))
      fun e w' => e = .returned (.bool true) ∧ Fr (fun _ => False) w w' ∧ w'.heap[w.heap.size]? = some (.cells #[.int .i64 k, .int .i64 a, .int .i64 b, .int .i64 c, .int .u64 v, .string s] 34 (0, 0))) := HGG
  clear HGG
  go_enter Try.func7, Try.ntmps7
  go_wp2_with fail
  refine H.out.mono ?_
  rintro e w1 ⟨rfl, hf, _⟩
  have HF : Hid (Fr (fun _ => False) w w1) := hf
  clear hf H
  go_wp2_with fail
  refine (awake_any w1).mono ?_
  rintro e w2 ⟨rfl, hf⟩
  have HF2 : Hid (Fr (fun _ => False) w1 w2) := hf
  clear hf
  go_wp2
  go_ret
  exact ⟨rfl, HF.out.trans HF2.out⟩

set_option maxHeartbeats 2000000 in
theorem nil_small (o : OpV) (w : World) (hd : o.data.size ≤ maxLen) (hg : greatL [o] 0 = false) :
    Calls Try.prog 7 #[.agg #[.int .i64 o.kind, .int .i64 o.a, .int .i64 o.b, .int .i64 o.c, .int .u64 o.v, .string o.data]] w fun e w' => e = .returned (.bool true) ∧ Fr (fun _ => False) w w' := by
  have HG := one_great o w hd
  rw [hg] at HG
  have HGG := HG
  obtain ⟨k, a, b, c, v, s⟩ := o
  simp only at HGG ⊢
  clear HG hg
  have H : Hid (Calls Try.prog 12 #[.slice (some ⟨w.heap.size + 1, 0, none⟩) 1 1] ((w.alloc (.cells #[.int .i64 k, .int .i64 a, .int .i64 b, .int .i64 c, .int .u64 v, .string s] 34)).alloc (.cells #[.int .i64 k, .int .i64 a, .int .i64 b, .int .i64 c, .int .u64 v, .string s] 34))
      fun e w' => e = .returned (.bool false) ∧ Fr (fun _ => False) w w' ∧ w'.heap[w.heap.size]? = some (.cells #[.int .i64 k, .int .i64 a, .int .i64 b, .int .i64 c, .int .u64 v, .string s] 34 (0, 0))) := HGG
  clear HGG
  go_enter Try.func7, Try.ntmps7
  go_wp2_with fail
  refine H.out.mono ?_
  rintro e w1 ⟨rfl, hf, hb⟩
  have HF : Hid (Fr (fun _ => False) w w1) := hf
  have HB : Hid (w1.heap[w.heap.size]? = some (.cells #[.int .i64 k, .int .i64 a, .int .i64 b, .int .i64 c, .int .u64 v, .string s] 34 (0, 0))) := hb
  have q1 : w1.cell? ⟨w.heap.size, 1, none⟩ = some (.int .i64 a) := by simp [World.cell?, hb]
  have q2 : w1.cell? ⟨w.heap.size, 2, none⟩ = some (.int .i64 b) := by simp [World.cell?, hb]
  clear hf H hb
  go_wp2_with fail
  refine (forget_nil w1).mono ?_
  rintro e w' ⟨rfl, hw⟩
  obtain rfl := hw.symm
  go_wp2_with fail
  refine (load_nil a w1).mono ?_
  rintro e w' ⟨rfl, hw⟩
  obtain rfl := hw.symm
  go_wp2_with fail
  refine (read_nil a b w1).mono ?_
  rintro e w' ⟨rfl, hw⟩
  obtain rfl := hw.symm
  go_wp2_with fail
  refine (awake_any w1).mono ?_
  rintro e w2 ⟨rfl, hf⟩
  have HF2 : Hid (Fr (fun _ => False) w w2) := HF.out.trans hf
  have hb2 : w2.heap[w.heap.size]? = some (.cells #[.int .i64 k, .int .i64 a, .int .i64 b, .int .i64 c, .int .u64 v, .string s] 34 (0, 0)) := by
    rw [hf.block _ (Array.getElem?_eq_some_iff.1 HB.out).1 (fun h => h)]; exact HB.out
  have r1 : w2.cell? ⟨w.heap.size, 1, none⟩ = some (.int .i64 a) := by simp [World.cell?, hb2]
  have r2 : w2.cell? ⟨w.heap.size, 2, none⟩ = some (.int .i64 b) := by simp [World.cell?, hb2]
  have r3 : w2.cell? ⟨w.heap.size, 3, none⟩ = some (.int .i64 c) := by simp [World.cell?, hb2]
  have r4 : w2.cell? ⟨w.heap.size, 4, none⟩ = some (.int .u64 v) := by simp [World.cell?, hb2]
  have r5 : w2.cell? ⟨w.heap.size, 5, none⟩ = some (.string s) := by simp [World.cell?, hb2]
  clear hf hb2 q1 q2 HB HF
  go_wp2_with fail
  refine (store_nil a v w2).mono ?_
  rintro e w' ⟨rfl, hw⟩
  obtain rfl := hw.symm
  go_wp2_with fail
  refine (write_nil a s w2).mono ?_
  rintro e w' ⟨rfl, hw⟩
  obtain rfl := hw.symm
  go_wp2_with fail
  refine (zero_nil a b w2).mono ?_
  rintro e w' ⟨rfl, hw⟩
  obtain rfl := hw.symm
  go_wp2_with fail
  refine (copy_nil a b c w2).mono ?_
  rintro e w' ⟨rfl, hw⟩
  obtain rfl := hw.symm
  go_wp2_with fail
  refine (size_nil w2).mono ?_
  rintro e w' ⟨rfl, hw⟩
  obtain rfl := hw.symm
  go_wp2_with fail
  refine (touched_nil w2).mono ?_
  rintro e w' ⟨rfl, hw⟩
  obtain rfl := hw.symm
  go_wp2
  go_ret
  exact ⟨rfl, HF2.out⟩

theorem nil_any (o : OpV) (w : World) (hd : o.data.size ≤ maxLen) :
    Calls Try.prog 7 #[.agg #[.int .i64 o.kind, .int .i64 o.a, .int .i64 o.b, .int .i64 o.c, .int .u64 o.v, .string o.data]] w fun e w' => e = .returned (.bool true) ∧ Fr (fun _ => False) w w' := by
  cases hg : greatL [o] 0 with
  | true => exact nil_great o w hd hg
  | false => exact nil_small o w hd hg
end Go.Proofs.Ytlikfcdlgkbnoaa
