/-
  What the calls of package table do: found, Find, Holder, Len, isLocal, isPage, join, part; maps.Clone.
  What the calls of package table do: join, part.
-/
import Derived.Test.YtihaifnenjngpaaGreatDoorTaPrg
import Derived.Test.YtihaifnenjngpaaGreatDoorPtCalls
import Derived.Shelf.SlMaps.Clone
import Derived.Deep.RegionHeld3
namespace Go.Proofs.YtihaifnenjngpaaGreatDoor
open Go.RowKit

section
variable {w w0 : World} {t : Nat} {Z : Nat → Prop} {T : Tb} {m m1 m2 : Option Nat} {f : Int → Option Int} {cnt : Nat}
set_option maxRecDepth 20000 in
theorem u_found (o : Og w m f cnt) {k : Int} (hk : I64 k) : Calls Tryz.prog 59 #[.map m, .int .i64 k] w fun e w' => e = .returned (.int .i64 ((f k).getD (-1))) ∧ w' = w := by
  have hl := o.lookOk hk
  clear o hk
  cases hf : f k with
  | none =>
    rw [hf] at hl
    simp only [Option.getD_none, Option.isSome_none] at hl
    clear hf
    go_enter Tryz.func59, Tryz.ntmps59
    go_wp2
    go_ret
    exact ⟨by simp, rfl⟩
  | some y =>
    rw [hf] at hl
    simp only [Option.getD_some, Option.isSome_some] at hl
    clear hf
    go_enter Tryz.func59, Tryz.ntmps59
    go_wp2
    go_ret
    exact ⟨by simp, rfl⟩
set_option maxRecDepth 20000 in
theorem u_find (c : Tw w t m1 m2) (o : Og w m1 f cnt) {k : Int} (hk : I64 k) : Calls Tryz.prog 20 #[.pointer (some ⟨t, 0, none⟩), .int .i64 k] w fun e w' => e = .returned (.int .i64 ((f k).getD (-1))) ∧ w' = w := by
  have c0 := c.c0
  have H1 := hid (u_found o hk)
  clear o hk c
  generalize (f k).getD (-1) = y at *
  go_enter Tryz.func20, Tryz.ntmps20
  go_wp2_with fail
  refine H1.out.mono ?_
  rintro e w1 ⟨rfl, hw⟩
  obtain rfl := hw.symm
  go_wp2
  go_ret
  exact ⟨by simp, rfl⟩
set_option maxRecDepth 20000 in
theorem u_holder (c : Tw w t m1 m2) (o : Og w m2 f cnt) {k : Int} (hk : I64 k) : Calls Tryz.prog 201 #[.pointer (some ⟨t, 0, none⟩), .int .i64 k] w fun e w' => e = .returned (.int .i64 ((f k).getD (-1))) ∧ w' = w := by
  have c1 := c.c1
  have H1 := hid (u_found o hk)
  clear o hk c
  generalize (f k).getD (-1) = y at *
  go_enter Tryz.func201, Tryz.ntmps201
  go_wp2_with fail
  refine H1.out.mono ?_
  rintro e w1 ⟨rfl, hw⟩
  obtain rfl := hw.symm
  go_wp2
  go_ret
  exact ⟨by simp, rfl⟩
set_option maxRecDepth 20000 in
theorem u_len (c : Tw w t m1 m2) (o : Og w m1 f cnt) : Calls Tryz.prog 55 #[.pointer (some ⟨t, 0, none⟩)] w fun e w' => e = .returned (.int .i64 cnt) ∧ w' = w := by
  have c0 := c.c0
  have hl := fun ty => o.len ty
  clear c o
  go_enter Tryz.func55, Tryz.ntmps55
  go_wp2
  go_ret
  exact ⟨by simp, rfl⟩
set_option maxRecDepth 20000 in
theorem u_page (p : Int) (w : World) : Calls Tryz.prog 200 #[.int .i64 p] w fun e w' => e = .returned (.bool (decide (POk p))) ∧ w' = w := by
  by_cases h0 : 0 ≤ p
  · by_cases h1 : p ≤ 1048576
    · have hm : Hid (decide (POk p) = true) := decide_eq_true (p := POk p) ⟨h0, h1⟩
      generalize decide (POk p) = r at *
      go_enter Tryz.func200, Tryz.ntmps200
      go_wp2
      go_ret
      exact ⟨by rw [hm.out]; rfl, rfl⟩
    · have hm : Hid (decide (POk p) = false) := decide_eq_false (p := POk p) fun h => h1 h.2
      generalize decide (POk p) = r at *
      go_enter Tryz.func200, Tryz.ntmps200
      go_wp2
      go_ret
      exact ⟨by rw [hm.out]; rfl, rfl⟩
  · have hm : Hid (decide (POk p) = false) := decide_eq_false (p := POk p) fun h => h0 h.1
    generalize decide (POk p) = r at *
    go_enter Tryz.func200, Tryz.ntmps200
    go_wp2
    go_ret
    exact ⟨by rw [hm.out]; rfl, rfl⟩
set_option maxRecDepth 20000 in
theorem u_local {v : Int} (k : Pt.K w0 w) : Calls Tryz.prog 222 #[.int .i64 v] w fun e w' => e = .returned (.bool (decide (VOk v))) ∧ Pt.K w0 w' := by
  have hb := Pt.win_fb v
  by_cases h : VOk v
  · rw [decide_eq_true h] at hb
    have H1 : Hid (Calls Tryz.prog 233 #[.complex .f64 (floatOfInt .f64 v) 0] w fun e w' => e = .returned (.tuple #[.int .i64 (v * 512 + 0), .int .i64 0]) ∧ Pt.K w0 w') := Pt.l_addr hb (fb_int v (by omega)) (by rw [← fb_zero]; exact fb_int 0 (by decide)) k
    have hm : Hid (decide (VOk v) = true) := decide_eq_true h
    generalize decide (VOk v) = r at *
    clear hb h k
    go_enter Tryz.func222, Tryz.ntmps222
    go_wp2_with fail
    refine H1.out.mono ?_
    rintro e w1 ⟨rfl, hk⟩
    have HK := hid hk
    clear hk H1
    go_wp2
    go_ret
    exact ⟨by rw [hm.out]; rfl, HK.out⟩
  · rw [decide_eq_false h] at hb
    have H1 : Hid (Calls Tryz.prog 233 #[.complex .f64 (floatOfInt .f64 v) 0] w fun e w' => e = .returned (.tuple #[.int .i64 0, .int .i64 4]) ∧ Pt.K w0 w') := Pt.l_addr_no hb k
    have hm : Hid (decide (VOk v) = false) := decide_eq_false h
    generalize decide (VOk v) = r at *
    clear hb h k
    go_enter Tryz.func222, Tryz.ntmps222
    go_wp2_with fail
    refine H1.out.mono ?_
    rintro e w1 ⟨rfl, hk⟩
    have HK := hid hk
    clear hk H1
    go_wp2
    go_ret
    exact ⟨by rw [hm.out]; rfl, HK.out⟩
end
end Go.Proofs.YtihaifnenjngpaaGreatDoor

namespace Go.Proofs.YtihaifnenjngpaaGreatDoor
open Go.RowKit

section
variable {w w0 : World} {t : Nat} {Z : Nat → Prop} {T : Tb} {m m1 m2 : Option Nat} {f : Int → Option Int} {cnt : Nat}
/-- A table whose two maps are there: they turn, nothing else does. -/
theorem Tn.out {T' : Tb} {w' : World} {B1 B2 n1 n2 k1 k2 : Nat} {f1 f2 : Int → Option Int} (h : Tn t T w Z (some B1) (some B2)) (c : Tw w' t (some B1) (some B2)) (o1 : Oi w' B1 n1 f1 k1) (o2 : Oi w' B2 n2 f2 k2) (e1 : ∀ x, f1 x = fF T' x) (e2 : ∀ x, f2 x = fH T' x) (l1 : k1 = T'.length) (l2 : k2 = T'.length) (fr : Fr Z w w') : ∃ Z', Tm t T' w' Z' ∧ Gw w w' Z Z' :=
  ⟨Z, ⟨some B1, some B2, c, .inr ⟨B1, rfl, (o1.same e1).count l1⟩, .inr ⟨B2, rfl, (o2.same e2).count l2⟩, by simp, h.zt, h.z1, h.z2, h.ne, fun i hi => Nat.lt_of_lt_of_le (h.lt i hi) fr.size⟩, Gw.same h.lt fr⟩
theorem Tn.both (h : Tn t T w Z m1 m2) (hne : T ≠ []) : ∃ B1 B2, m1 = some B1 ∧ m2 = some B2 ∧ Oi w B1 T.length (fF T) T.length ∧ Oi w B2 T.length (fH T) T.length := by
  have hl : T.length ≠ 0 := fun e => hne (List.eq_nil_of_length_eq_zero e)
  rcases h.o1 with ⟨_, _, e⟩ | ⟨B1, e1, o1⟩
  · exact (hl e).elim
  rcases h.o2 with ⟨_, _, e⟩ | ⟨B2, e2, o2⟩
  · exact (hl e).elim
  exact ⟨B1, B2, e1, e2, o1, o2⟩
theorem some_of {v : Int} (h : ¬ tbF T v < 0) : (fF T v).isSome = true := by unfold fF; rw [if_neg h]; rfl
theorem some_of2 {p : Int} (h : ¬ tbH T p < 0) : (fH T p).isSome = true := by unfold fH; rw [if_neg h]; rfl
theorem none_of {v : Int} (h : tbF T v < 0) : (fF T v).isSome = false := by unfold fF; rw [if_pos h]; rfl
theorem none_of2 {p : Int} (h : tbH T p < 0) : (fH T p).isSome = false := by unfold fH; rw [if_pos h]; rfl
set_option maxRecDepth 20000 in
set_option maxHeartbeats 2000000 in
theorem u_part (h : Tm t T w Z) (ok : TbOk T) {v : Int} (hv : ¬ tbF T v < 0) : Calls Tryz.prog 202 #[.pointer (some ⟨t, 0, none⟩), .int .i64 v, .int .i64 (tbF T v)] w fun e w' => e = .returned (.tuple #[]) ∧ ∃ Z', Tm t (tbU T v) w' Z' ∧ Gw w w' Z Z' := by
  obtain ⟨m1, m2, h⟩ := h
  have hm := ok.f_some hv
  have hne : T ≠ [] := fun e => by subst e; simp at hm
  obtain ⟨B1, B2, rfl, rfl, o1, o2⟩ := h.both hne
  obtain ⟨zB1, n1⟩ := h.z1 _ rfl
  obtain ⟨zB2, n2⟩ := h.z2 _ rfl
  have hn : B1 ≠ B2 := fun e => h.ne _ rfl (by rw [e])
  have ha := ok.at_ _ hm
  simp only at ha
  have hw1 : (Lit.int .i64 v).wf = true := wf_small (by omega) (by omega)
  have hw2 : (Lit.int .i64 (tbF T v)).wf = true := wf_small (by omega) (by omega)
  obtain ⟨w1, r1, p1, f1⟩ := o1.drop hw1 0
  obtain ⟨w2, r2, p2, f2⟩ := (o2.carry f1 fun e => hn e.symm).drop hw2 0
  have c1 := h.c.carry f1 fun e => n1 e.symm
  have c2 := c1.carry f2 fun e => n2 e.symm
  have q1 := p1.carry f2 hn
  have fr : Fr Z w w2 := Fr.trans' (f1.mono fun i _ e => e ▸ zB1) f2 fun i _ e => e ▸ zB2
  have hh : ¬ tbH T (tbF T v) < 0 := by rw [tbH_mem ok hm]; omega
  rw [some_of hv, if_pos rfl] at q1
  rw [some_of2 hh, if_pos rfl] at p2
  have hl := tbU_less ok hv
  have HR := hid (h.out c2 q1 p2 (fun x => (fF_rem ok (ok.unmap v) x).symm) (fun x => (fH_rem ok (ok.unmap v) hv x).symm) (by omega) (by omega) fr)
  have c0 := h.c.c0
  have c1' := c1.c1
  clear h o1 o2 ok hm ha hw1 hw2 p1 p2 f1 f2 c1 c2 q1 fr hh hl hv hne zB1 zB2
  generalize tbF T v = p at *
  go_enter Tryz.func202, Tryz.ntmps202
  go_wp2
  go_end0
  exact ⟨rfl, HR.out⟩
set_option maxRecDepth 20000 in
set_option maxHeartbeats 2000000 in
theorem u_join (h : Tm t T w Z) (ok : TbOk T) {v p : Int} (hv : VOk v) (hp : POk p) (h1 : tbF T v < 0) (h2 : tbH T p < 0) : Calls Tryz.prog 203 #[.pointer (some ⟨t, 0, none⟩), .int .i64 v, .int .i64 p] w fun e w' => e = .returned (.tuple #[]) ∧ ∃ Z', Tm t (tbI T v p) w' Z' ∧ Gw w w' Z Z' := by
  obtain ⟨m1, m2, h⟩ := h
  have ok2 := ok.ins hv hp h1 h2
  have hw1 : (Lit.int .i64 v).wf = true := wf_small (by omega) (by omega)
  have hw2 : (Lit.int .i64 p).wf = true := wf_small (by omega) (by omega)
  have hq := fun w m => run_eql_map_nil_sl (P := Tryz.prog) w 114 _ _ m Tryz.underlying114
  have hlen := Tb.few ok
  rcases h.o1 with ⟨rfl, e1, e2⟩ | ⟨B1, rfl, o1⟩
  · obtain rfl : m2 = none := h.nn.1 rfl
    have eT : T = [] := List.eq_nil_of_length_eq_zero e2
    subst eT
    have htl := h.c.lt
    have L1 := h.c.carry (S := fun _ => False) (((Fr.refl _ w).alloc (.map #[] 0)).alloc (.map #[] 0)) id
    have L2 := (L1.set0 (some w.heap.size)).set1 (some (w.heap.size + 1))
    have fs : Fr (fun i => i = t) ((w.alloc (.map #[] 0)).alloc (.map #[] 0)) ((((w.alloc (.map #[] 0)).alloc (.map #[] 0)).setCell ⟨t, 0, none⟩ (.map (some w.heap.size))).setCell ⟨t, 1, none⟩ (.map (some (w.heap.size + 1)))) := Fr.setCell (S := fun i => i = t) (Fr.setCell (S := fun i => i = t) (Fr.refl _ _) (p := ⟨t, 0, none⟩) rfl _) (p := ⟨t, 1, none⟩) rfl _
    have O1 := ((Oi.new w).carry (S := fun _ => False) ((Fr.refl _ _).alloc (.map #[] 0)) id).carry fs (show w.heap.size ≠ t by omega)
    have O2 := (Oi.new (w.alloc (.map #[] 0))).carry fs (by simp; omega)
    rw [show (w.alloc (.map #[] 0)).heap.size = w.heap.size + 1 by simp] at O2
    obtain ⟨w3, r3, P1, F1⟩ := O1.store (by decide) hw1 hw2
    have L3 := L2.carry F1 (show t ≠ w.heap.size by omega)
    obtain ⟨w4, r4, P2, F2⟩ := (O2.carry F1 (by omega)).store (by decide) hw2 hw1
    have L4 := L3.carry F2 (by omega)
    have Q1 := P1.carry F2 (by omega)
    have F4 : Fr Z w w4 := Fr.trans' (Fr.trans' (Fr.setCell (Fr.setCell (((Fr.refl _ _).alloc _).alloc _) (p := ⟨t, 0, none⟩) h.zt _) (p := ⟨t, 1, none⟩) h.zt _) F1 fun i hi e => by omega) F2 fun i hi e => by omega
    have hs4 : w.heap.size + 1 < w4.heap.size := P2.lt
    have HR : Hid (∃ Z', Tm t (tbI [] v p) w4 Z' ∧ Gw w w4 Z Z') := by
      have hlt : ∀ i, (Z i ∨ i = w.heap.size ∨ i = w.heap.size + 1) → i < w4.heap.size := fun i e => by
        rcases e with e | e | e
        · exact Nat.lt_of_lt_of_le (h.lt i e) F4.size
        · omega
        · omega
      refine ⟨fun i => Z i ∨ i = w.heap.size ∨ i = w.heap.size + 1, ⟨some w.heap.size, some (w.heap.size + 1), L4, .inr ⟨_, rfl, (Q1.same fun z => ?_).count rfl⟩, .inr ⟨_, rfl, (P2.same fun z => ?_).count rfl⟩, by simp, .inl h.zt, fun B e => ?_, fun B e => ?_, fun B e => ?_, hlt⟩, fun i e => .inl e, fun i e => ?_, hlt, F4⟩
      · rw [fF_ins ok ok2 h1]; rfl
      · rw [fH_ins ok ok2 h2]; rfl
      · cases e; exact ⟨.inr (.inl rfl), by omega⟩
      · cases e; exact ⟨.inr (.inr rfl), by omega⟩
      · cases e; simp
      · rcases e with e | e | e
        · exact .inl e
        · exact .inr (by omega)
        · exact .inr (by omega)
    have c0 := h.c.c0
    have a0 := L1.c0
    have a1 := L1.c1
    have fa := L1.fz
    have a1' := (L1.set0 (some w.heap.size)).c1
    have fa' := (L1.set0 (some w.heap.size)).fz
    have b0 := L2.c0
    have b1 := L3.c1
    have hmm := @run_makeMap Tryz.prog
    clear htl
    clear h L1 L2 L3 L4 O1 O2 P1 P2 Q1 F1 F2 F4 fs hs4 ok ok2 hv hp h1 h2 hw1 hw2 e1 e2 hlen
    go_enter Tryz.func203, Tryz.ntmps203
    go_wp2
    go_end0
    exact ⟨rfl, HR.out⟩
  · obtain ⟨B2, rfl⟩ : ∃ B2, m2 = some B2 := by
      cases m2 with
      | none => exact absurd (h.nn.2 rfl) (by simp)
      | some B2 => exact ⟨B2, rfl⟩
    rcases h.o2 with ⟨e, _⟩ | ⟨B2', e, o2⟩
    · cases e
    obtain rfl : B2 = B2' := Option.some.inj e
    obtain ⟨zB1, n1⟩ := h.z1 _ rfl
    obtain ⟨zB2, n2⟩ := h.z2 _ rfl
    have hn : B1 ≠ B2 := fun e => h.ne _ rfl (by rw [e])
    obtain ⟨w1, r1, p1, f1⟩ := o1.store (by unfold maxLen; omega) hw1 hw2
    obtain ⟨w2, r2, p2, f2⟩ := (o2.carry f1 fun e => hn e.symm).store (by unfold maxLen; omega) hw2 hw1
    have c1 := h.c.carry f1 fun e => n1 e.symm
    have c2 := c1.carry f2 fun e => n2 e.symm
    have q1 := p1.carry f2 hn
    have fr : Fr Z w w2 := Fr.trans' (f1.mono fun i _ e => e ▸ zB1) f2 fun i _ e => e ▸ zB2
    rw [none_of h1, if_neg (by simp)] at q1
    rw [none_of2 h2, if_neg (by simp)] at p2
    have hl := tbI_len (v := v) (p := p) T
    have HR := hid (h.out c2 q1 p2 (fun x => (fF_ins ok ok2 h1 x).symm) (fun x => (fH_ins ok ok2 h2 x).symm) (by omega) (by omega) fr)
    have c0 := h.c.c0
    have c1' := c1.c1
    clear h o1 o2 ok ok2 hv hp h1 h2 hw1 hw2 p1 p2 f1 f2 c1 c2 q1 fr hl zB1 zB2 hlen
    go_enter Tryz.func203, Tryz.ntmps203
    go_wp2
    go_end0
    exact ⟨rfl, HR.out⟩
end
end Go.Proofs.YtihaifnenjngpaaGreatDoor
