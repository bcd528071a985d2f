/-
  Heaps apart: what a call of the law's own leaves and answers; how two arenas stand to each other; what is asked of tables and touches.
  The law's own 'call', over two heaps of one arena.
-/
import Derived.Test.YtihaifnenjngpaaGreatDoorHpTouch
import Derived.Test.YtihaifnenjngpaaGreatDoorHpLaws
import Derived.Test.YtihaifnenjngpaaGreatDoorTaCalls
import Derived.Test.YtihaifnenjngpaaGreatDoorHpMade
import Derived.Test.YtihaifnenjngpaaGreatDoorHpMade2
import Derived.Test.YtihaifnenjngpaaGreatDoorCqApp
namespace Go.Proofs.YtihaifnenjngpaaGreatDoor
open Go.RowKit
open An

/-- A call of the law's own: what it leaves and answers. -/
def hCa (k : Nat) (M : Ms) (H : Hp) (kd N c s i E : Int) : Ms × Hp × Int × Int :=
  if kd = 1 then hM k M H N
  else if kd = 2 ∨ kd = 3 then ((hFr M H c s i E).1, (hFr M H c s i E).2.1, 0, (hFr M H c s i E).2.2)
  else if kd = 4 then (M, H, (hUs H c s i E).1, (hUs H c s i E).2)
  else if kd = 6 then ((hDr M H).1, (hDr M H).2, 0, 0)
  else (M, H, 0, 0)
section
variable {C : Nat → Prop} {k : Nat} {M M' : Ms} {H : Hp}
theorem hCa_left (hC : ∀ q, Cq.inW k H.W q = true → C q) (h : HpOk C M H) (ok : MsOk M) (kd N c s i E : Int) : Left17 C M H (hCa k M H kd N c s i E).1 (hCa k M H kd N c s i E).2.1 ∧ (hCa k M H kd N c s i E).2.1.W = H.W ∧ (hCa k M H kd N c s i E).1.ss.length ≤ M.ss.length + 18 + M.has.length := by
  unfold hCa
  split
  · obtain ⟨a1, a2, a3⟩ := (hM_ways hC h ok N).ok h ok
    exact ⟨a1, a2, by omega⟩
  split
  · obtain ⟨a1, a2, a3⟩ := hFr_ok h ok c s i E
    exact ⟨a1, a2, by dsimp only; omega⟩
  split
  · exact ⟨h.left ok, rfl, by dsimp only; omega⟩
  split
  · obtain ⟨a1, a3⟩ := hDr_ok h ok
    have := h.tp.few
    exact ⟨a1, rfl, by dsimp only; omega⟩
  · exact ⟨h.left ok, rfl, by dsimp only; omega⟩
theorem hCa_touch (hC : ∀ q, Cq.inW k H.W q = true → C q) (h : HpOk C M H) (ok : MsOk M) (kd N c s i E : Int) : ∀ sp ∈ (hCa k M H kd N c s i E).1.ss, sp ∈ M.ss ∨ InP H.T sp := by
  unfold hCa
  split
  · exact hM_touch h (hM_ways hC h ok N)
  split
  · show ∀ sp ∈ (hFr M H c s i E).1.ss, _
    unfold hFr
    split
    · exact hF_touch h ok _ _ _
    · exact fun sp hsp => .inl hsp
  split
  · exact fun sp hsp => .inl hsp
  split
  · exact drA_touch H.T M h.tp ok
  · exact fun sp hsp => .inl hsp
theorem hCa_sim (hC : ∀ q, Cq.inW k H.W q = true → C q) (s : Sim k H.W M M' H.T) (h : HpOk C M H) (h' : HpOk C M' H) (ok : MsOk M) (ok' : MsOk M') (kd N c sl i E : Int) : (hCa k M H kd N c sl i E).2 = (hCa k M' H kd N c sl i E).2 ∧ Sim k H.W (hCa k M H kd N c sl i E).1 (hCa k M' H kd N c sl i E).1 (hCa k M H kd N c sl i E).2.1.T := by
  unfold hCa
  split
  · exact hM_sim hC s h h' ok ok' N
  split
  · obtain ⟨e1, e2⟩ := hFr_sim s h h' ok ok' c sl i E
    exact ⟨by dsimp only; rw [e1], e2⟩
  split
  · exact ⟨rfl, s⟩
  split
  · obtain ⟨e1, e2⟩ := hDr_sim s h h' ok ok'
    exact ⟨by dsimp only; rw [e1], e2⟩
  · exact ⟨rfl, s⟩
end
/-- Two arenas, two heaps in each; the first heaps are one, as far as they see. -/
structure Apr (n k b b' : Nat) (M : Ms) (H H1 : Hp) (M' : Ms) (H1' : Hp) (A B : List Int) : Prop where
  tw : Two k b M H H1
  tq : Two k b' M' H H1'
  sm : Sim k A M M' H.T
  wA : H.W = A
  wB : H1.W = B
  ap : ∀ q, Cq.inW k A q = true → Cq.inW k B q = false
  n1 : M.has.length = n
  n2 : M'.has.length = n
theorem Two.forget {k b b' : Nat} {M : Ms} {H H' : Hp} (h : Two k b M H H') {ss' : List Sp} (hs : ss'.length ≤ b') : Two k b' ⟨M.has, M.bs, ss'⟩ H H' :=
  ⟨⟨h.ok.tp, h.ok.nd, h.ok.at_, h.ok.dom, h.ok.cov, h.ok.sm, h.ok.ln⟩, ⟨h.ok'.tp, h.ok'.nd, h.ok'.at_, h.ok'.dom, h.ok'.cov, h.ok'.sm, h.ok'.ln⟩, ⟨h.ms.len, h.ms.cap, h.ms.cl⟩, h.k1, h.k2, hs, h.W, h.W', h.dj⟩
section
variable {n k b b' : Nat} {M M' : Ms} {H H1 H1' : Hp} {A B : List Int}
theorem Apr.forget (h : Apr n k b b' M H H1 M' H1' A B) : Apr n k 0 b' ⟨M.has, M.bs, []⟩ H H1 M' H1' A B :=
  ⟨h.tw.forget (by simp), h.tq, ⟨h.sm.len, h.sm.has, h.sm.win⟩, h.wA, h.wB, h.ap, h.n1, h.n2⟩
theorem Apr.less (h : Apr n k b b' M H H1 M' H1' A B) {c c' : Nat} (hb : b ≤ c) (hc : b' ≤ c') : Apr n k c c' M H H1 M' H1' A B :=
  ⟨h.tw.less hb, h.tq.less hc, h.sm, h.wA, h.wB, h.ap, h.n1, h.n2⟩
/-- The first heaps turn, both. -/
theorem Apr.one (h : Apr n k b b' M H H1 M' H1' A B) (kd N c s i E : Int) : (hCa k M H kd N c s i E).2 = (hCa k M' H kd N c s i E).2 ∧ Apr n k (b + 18 + n) (b' + 18 + n) (hCa k M H kd N c s i E).1 (hCa k M H kd N c s i E).2.1 H1 (hCa k M' H kd N c s i E).1 H1' A B := by
  have hC : ∀ q, Cq.inW k H.W q = true → (fun q => Cq.inW k H.W q = true) q := fun _ => id
  obtain ⟨l1, l2, l3⟩ := hCa_left hC h.tw.ok h.tw.ms kd N c s i E
  obtain ⟨m1, m2, m3⟩ := hCa_left hC h.tq.ok h.tq.ms kd N c s i E
  have hs := h.sm
  rw [← h.wA] at hs
  obtain ⟨e1, e2⟩ := hCa_sim hC hs h.tw.ok h.tq.ok h.tw.ms h.tq.ms kd N c s i E
  have s1 := h.tw.ss
  have s2 := h.tq.ss
  have n1 := h.n1
  have n2 := h.n2
  have t1 := h.tw.step l1 l2 h.tw.W (b' := b + 18 + n) (by omega)
  have t2 := h.tq.step m1 m2 h.tq.W (b' := b' + 18 + n) (by omega)
  rw [← e1] at t2
  refine ⟨e1, t1, t2, ?_, l2.trans h.wA, h.wB, h.ap, l1.stp.len.trans n1, m1.stp.len.trans n2⟩
  rw [← h.wA]; exact e2
/-- The second heap of the first arena turns. -/
theorem Apr.two (h : Apr n k b b' M H H1 M' H1' A B) (kd N c s i E : Int) : Apr n k (b + 18 + n) b' (hCa k M H1 kd N c s i E).1 H (hCa k M H1 kd N c s i E).2.1 M' H1' A B := by
  have hC : ∀ q, Cq.inW k H1.W q = true → (fun q => Cq.inW k H1.W q = true) q := fun _ => id
  obtain ⟨l1, l2, l3⟩ := hCa_left hC h.tw.ok' h.tw.ms kd N c s i E
  have s1 := h.tw.ss
  have n1 := h.n1
  have t1 := h.tw.swap.step l1 l2 h.tw.W' (b' := b + 18 + n) (by omega)
  have hB : ∀ {has : List Bool} {T : Tb}, TpOk (fun q => Cq.inW k H1.W q = true) has T → ∀ q, Pgs T q → Cq.inW k A q = false := fun ht q ⟨v, hv⟩ => by
    have := (ht.tk _ hv).2.2.2
    simp only [Int.toNat_natCast] at this
    rw [h.wB] at this
    cases e : Cq.inW k A q
    · rfl
    · rw [h.ap q e] at this; cases this
  refine ⟨t1.swap, h.tq, h.sm.other l1.stp (hB h.tw.ok'.tp) (hB l1.ok.tp) fun q ⟨v, hv⟩ => ?_, h.wA, l2.trans h.wB, h.ap, l1.stp.len.trans n1, h.n2⟩
  have := h.tw.ok.tp.tk _ hv
  simp only [Int.toNat_natCast] at this
  rw [h.wA] at this
  exact ⟨this.2.2.2, this.2.1⟩
/-- At the start: windows that have no colour in common. -/
theorem Apr.new (t1 : Two k 0 (mN n) (hN A) (hN B)) (hd : ∀ x ∈ A, ∀ y ∈ B, x ≠ y) : Apr n k 0 0 (mN n) (hN A) (hN B) (mN n) (hN B) A B := by
  refine ⟨t1, t1, ⟨rfl, fun _ _ => rfl, fun _ _ => rfl⟩, rfl, rfl, fun q hq => ?_, by simp [mN], by simp [mN]⟩
  unfold Cq.inW at hq ⊢
  rw [List.any_eq_true] at hq
  obtain ⟨x, hx, ex⟩ := hq
  rw [List.any_eq_false]
  intro y hy ey
  exact hd x hx y hy ((beq_iff_eq.1 ex).trans (beq_iff_eq.1 ey).symm)
/-- A local page's page is of the window. -/
theorem Two.of (h : Two k b M H H1) {v : Int} (hv : v ∈ H.T.map Prod.fst) : I64 v ∧ ∃ q : Nat, tbF H.T v = (q : Int) ∧ q < 4096 ∧ Cq.inW k H.W q = true ∧ Pgs H.T q := by
  obtain ⟨y, hy, rfl⟩ := List.mem_map.1 hv
  have h1 := h.ok.tp.tk y hy
  have h2 := (h.ok.tp.tb.at_ y hy).1
  have hc := h.ms.cap
  have hf := tbF_mem h.ok.tp.tb hy
  refine ⟨?_, y.2.toNat, by rw [hf]; omega, by omega, h1.2.2.2, ⟨y.1, ?_⟩⟩
  · unfold VOk at h2; exact ⟨by omega, by omega⟩
  · rw [Int.toNat_of_nonneg h1.1]; exact hy
end
section
variable {W w : World} {ts : List (World → (Nat → Prop) → Prop)} {a m k h t h' t' b : Nat} {M : Ms} {H H' : Hp}
theorem Things.tab (q : Things W w ts) (j : Nat) (hj : ts[j]? = some (S2 a m k M h t H h' t' H')) : ∃ Y, Tm t H.T w Y := by
  obtain ⟨U, h1, _⟩ := q.get j hj
  obtain ⟨V, v1, _⟩ := Both.snd h1
  obtain ⟨V2, v2, _⟩ := Both.fst' v1
  obtain ⟨Y, y1, _⟩ := Both.snd v2
  exact ⟨Y, y1⟩
theorem t_all (q : Things W w ts) (j : Nat) (hj : ts[j]? = some (S2 a m k M h t H h' t' H')) (tw : Two k b M H H') : Calls Tryz.prog 18 #[.pointer (some ⟨t, 0, none⟩)] w fun e w' => ∃ ad cap, e = .returned (.slice ad (H.T.map Prod.fst).length cap) ∧ Things W w' (ts ++ [Lv ad (H.T.map Prod.fst)]) := by
  obtain ⟨Y, y1⟩ := q.tab j hj
  refine (c_all y1 tw.ok.tp.tb).mono ?_
  rintro e w' ⟨ad, cap, he, hn, hw, hf⟩
  exact ⟨ad, cap, he, q.more (Lv.good _ _) (Lv.new hn) hf fun i ⟨⟨off, e⟩, h0⟩ => ⟨hw i off e h0, (Lv.new hn).2.2 i ⟨⟨off, e⟩, h0⟩⟩⟩
theorem t_find (q : Things W w ts) (j : Nat) (hj : ts[j]? = some (S2 a m k M h t H h' t' H')) (tw : Two k b M H H') {v : Int} (hv : I64 v) : Calls Tryz.prog 20 #[.pointer (some ⟨t, 0, none⟩), .int .i64 v] w fun e w' => e = .returned (.int .i64 (tbF H.T v)) ∧ Things W w' ts := by
  obtain ⟨Y, y1⟩ := q.tab j hj
  exact (c_find y1 tw.ok.tp.tb hv).mono fun e w' ⟨he, hf⟩ => ⟨he, q.kept hf⟩
theorem t_forget (q : Things W w ts) (j : Nat) (hj : ts[j]? = some (S2 a m k M h t H h' t' H')) : Calls Tryz.prog 36 #[.pointer (some ⟨a, 0, none⟩)] w fun e w' => e = .returned (.tuple #[]) ∧ Things W w' (ts.set j (S2 a m k ⟨M.has, M.bs, []⟩ h t H h' t' H')) :=
  q.arena j hj fun _ _ ⟨_, _, _, h1, k1, k2⟩ _ _ => (forget_any h1).mono fun _ _ ⟨he, hn⟩ => ⟨he, Am.noted k1 k2 hn⟩
theorem t_touched (q : Things W w ts) (j : Nat) (hj : ts[j]? = some (S2 a m k M h t H h' t' H')) (hk : M.ss.length ≤ 1000002) : Calls Tryz.prog 38 #[.pointer (some ⟨a, 0, none⟩)] w fun e w' => ∃ ad cap, e = .returned (.slice ad M.ss.length cap) ∧ Things W w' (ts ++ [Sv ad M.ss]) := by
  obtain ⟨U, h1, _⟩ := q.get j hj
  obtain ⟨V, v1, _⟩ := Both.fst' h1
  obtain ⟨Z, z1, _⟩ := Both.fst' v1
  refine (am_touched z1 hk).mono fun e w' ⟨ad, cap, he, hr, f⟩ => ⟨ad, cap, he, ?_⟩
  refine q.moreSpans (fun j hj => ?_) (fun b off e h0 => ?_) f
  · rcases hr.2 with ⟨e1, e2⟩ | ⟨g, cap', cur, e1, hb, hc, _⟩
    · omega
    · simp only [Value.slice.injEq] at e1
      obtain ⟨rfl, _, _⟩ := e1
      obtain ⟨a0, a1, a2⟩ := spcs_at M.ss j hj
      have hcell : ∀ j u, (spcs M.ss)[j]? = some u → w'.cell? ⟨g, j, none⟩ = some u := fun j u hu => by
        have := hr.cells (g := g) rfl j u hu
        rwa [add_plain, Nat.zero_add] at this
      refine ⟨g, 0, rfl, (Array.getElem?_eq_some_iff.1 hc).1, ?_, ?_, ?_⟩
      · rw [Nat.zero_add]; exact hcell _ _ a0
      · rw [Nat.zero_add]; exact hcell _ _ a1
      · rw [Nat.zero_add]; exact hcell _ _ a2
  · subst e
    exact (hr.lt b rfl).1
end
end Go.Proofs.YtihaifnenjngpaaGreatDoor

namespace Go.Proofs.YtihaifnenjngpaaGreatDoor
open Go.RowKit
open An

section
variable {W w : World} {ts : List (World → (Nat → Prop) → Prop)} {a m k h t h' t' b : Nat} {M : Ms} {H H' : Hp}
set_option maxRecDepth 20000 in
set_option maxHeartbeats 1000000 in
theorem t_call (q : Things W w ts) (gr : G17 W) (j : Nat) (hj : ts[j]? = some (S2 a m k M h t H h' t' H')) (tw : Two k b M H H') (hb : b ≤ 890000) {kd N c s i E : Int} (hN : I64 N) (hf : FindR N c s i E) : Calls Tryz.prog 37 #[.pointer (some ⟨h, 0, none⟩), .int .i64 kd, .int .i64 N] w fun e w' => e = .returned (.tuple #[.int .i64 (hCa k M H kd N c s i E).2.2.1, .int .i64 (hCa k M H kd N c s i E).2.2.2]) ∧ Things W w' (ts.set j (S2 a m k (hCa k M H kd N c s i E).1 h t (hCa k M H kd N c s i E).2.1 h' t' H')) := by
  have hself : ts.set j (S2 a m k M h t H h' t' H') = ts := by
    obtain ⟨hl, e⟩ := List.getElem?_eq_some_iff.1 hj
    rw [← e]
    exact List.set_getElem_self hl
  have HM := hid (t_malloc q gr j hj tw hb hN)
  have HF := hid (t_free q gr j hj tw hb hf hN)
  have HU := hid (t_usable q gr j hj tw hb hf hN)
  have HD := hid (t_drop q gr j hj tw hb)
  have T0 := hid q
  clear q gr tw hb hN hf
  unfold hCa
  by_cases h1 : kd = 1
  · subst h1
    rw [if_pos rfl]
    clear HF HU HD T0
    generalize (hM k M H N).2.2.1 = x at *
    generalize (hM k M H N).2.2.2 = y at *
    go_enter Tryz.func37, Tryz.ntmps37
    go_wp2_with fail
    refine HM.out.mono ?_
    rintro e w1 ⟨rfl, g⟩
    have T1 := hid g
    clear g
    go_wp2
    go_ret2
    exact ⟨by simp, T1.out⟩
  have k1 : (kd == 1) = false := by simp [h1]
  rw [if_neg h1]
  by_cases h2 : kd = 2 ∨ kd = 3
  · rw [if_pos h2]
    dsimp only
    clear HM HU HD T0
    generalize (hFr M H c s i E).2.2 = y at *
    rcases h2 with rfl | rfl
    · clear k1 h1
      go_enter Tryz.func37, Tryz.ntmps37
      go_wp2_with fail
      refine HF.out.mono ?_
      rintro e w1 ⟨rfl, g⟩
      have T1 := hid g
      clear g
      go_wp2
      go_ret2
      exact ⟨by simp, T1.out⟩
    · clear k1 h1
      go_enter Tryz.func37, Tryz.ntmps37
      go_wp2_with fail
      refine HF.out.mono ?_
      rintro e w1 ⟨rfl, g⟩
      have T1 := hid g
      clear g
      go_wp2
      go_ret2
      exact ⟨by simp, T1.out⟩
  have k2 : (kd == 2) = false := by simp; omega
  have k3 : (kd == 3) = false := by simp; omega
  rw [if_neg h2]
  by_cases h4 : kd = 4
  · subst h4
    rw [if_pos rfl]
    dsimp only
    rw [hself]
    clear HM HF HD T0 k1 k2 k3 h1 h2
    generalize (hUs H c s i E).1 = x at *
    generalize (hUs H c s i E).2 = y at *
    go_enter Tryz.func37, Tryz.ntmps37
    go_wp2_with fail
    refine HU.out.mono ?_
    rintro e w1 ⟨rfl, g⟩
    have T1 := hid g
    clear g
    go_wp2
    go_ret2
    exact ⟨by simp, T1.out⟩
  have k4 : (kd == 4) = false := by simp [h4]
  rw [if_neg h4]
  by_cases h6 : kd = 6
  · subst h6
    rw [if_pos rfl]
    dsimp only
    clear HM HF HU T0 k1 k2 k3 k4 h1 h2 h4
    go_enter Tryz.func37, Tryz.ntmps37
    go_wp2_with fail
    refine HD.out.mono ?_
    rintro e w1 ⟨rfl, g⟩
    have T1 := hid g
    clear g
    go_wp2
    go_ret2
    exact ⟨by simp, T1.out⟩
  have k6 : (kd == 6) = false := by simp [h6]
  rw [if_neg h6]
  dsimp only
  rw [hself]
  clear HM HF HU HD h1 h2 h4 h6
  go_enter Tryz.func37, Tryz.ntmps37
  go_wp2
  go_ret2
  exact ⟨by simp, T0.out⟩
theorem t_of {x y r r' : Nat} (q : Things W w ts) (j : Nat) (hj : ts[j]? = some (D2 x y k M r H r' H')) {ad : Option Addr} {l : List Int} (cap : Nat) (hn : NumsAt w ad l) (hm : l.length ≤ maxLen) {p : Nat} (hp : p ≤ 65536) : Calls Tryz.prog 39 #[.pointer (some ⟨y, 0, none⟩), .int .i64 (p : Int), .slice ad l.length cap] w fun e w' => e = .returned (.bool (Cq.inW k l p)) ∧ Things W w' ts := by
  obtain ⟨U, h1, _⟩ := q.get j hj
  obtain ⟨V, v1, _⟩ := Both.fst' h1
  obtain ⟨Z, ⟨t, z1, _⟩, _⟩ := Both.snd v1
  exact (Cq.e_of' cap z1 hp hn hm).mono fun e w' ⟨he, m, hw⟩ => ⟨he, hw ▸ q.kept ((Fr.refl _ _).drewN m)⟩
set_option maxRecDepth 20000 in
/-- Two lists that are the same. -/
theorem same_big {w : World} {ad1 ad2 : Option Addr} {l : List Int} (c1 c2 : Nat) (h1 : NumsAt w ad1 l) (h2 : NumsAt w ad2 l) (hl : l.length ≤ 4000000) : Calls Tryz.prog 15 #[.slice ad1 l.length c1, .slice ad2 l.length c2] w fun e w' => e = .returned (.bool true) ∧ Fr (fun _ => False) w w' := by
  have H1 := hid h1
  have H2 := hid h2
  clear h1 h2
  go_enter Tryz.func15, Tryz.ntmps15
  go_wp2
  go_loopw [5] (fun i wr => ∃ j : Nat, j ≤ l.length ∧ i = .int .i64 j ∧ Hid (Fr (fun _ => False) w wr)) (fun i _ => l.length - (intOf i).toNat)
  case atStart => exact ⟨0, by omega, rfl, Fr.refl _ _⟩
  case round =>
    obtain ⟨j, hj, rfl, HF⟩ := hrel
    by_cases hlt : j < l.length
    · obtain ⟨b1, o1, rfl, _, k1⟩ := H1.out.fr HF.out j hlt
      obtain ⟨b2, o2, rfl, _, k2⟩ := H2.out.fr HF.out j hlt
      have HF2 := hid (fun n => HF.out.drewN n)
      clear HF H1 H2
      generalize l[j] = x at *
      go_wp2
      go_quiet (fail)
      go_wp2
      go_roundw
      case rel => exact ⟨j + 1, by omega, by go_num, HF2.out _⟩
      case measure => simp [intOf]; omega
    · obtain rfl : j = l.length := by omega
      go_wp2
      go_ret
      exact ⟨by simp, HF.out⟩
/-- Pages that a table's keys name. -/
theorem own_mem {C : Nat → Prop} {has : List Bool} {T : Tb} (h : TpOk C has T) {ml : List Int} (hm : ∀ v ∈ T.map Prod.fst, tbF T v ∈ ml) {sp : Sp} (hs : InP T sp) : ∃ q : Nat, sp.1.tdiv 512 = (q : Int) ∧ q < has.length ∧ (q : Int) ∈ ml ∧ 0 ≤ sp.1.tmod 512 ∧ sp.1.tmod 512 + sp.2.1 ≤ 512 ∧ sp.1.tmod 512 < 512 ∧ 0 ≤ sp.2.1 := by
  obtain ⟨q, ⟨v, hv⟩, h1, h2, h3⟩ := hs
  have h0 : 0 ≤ sp.1 := by omega
  have e := hm v (List.mem_map.2 ⟨_, hv, rfl⟩)
  rw [tbF_mem h.tb hv] at e
  refine ⟨q, by rw [Int.tdiv_eq_ediv_of_nonneg h0]; exact h1, h.lt ⟨v, hv⟩, e, ?_, ?_, ?_, h3⟩
  · rw [Int.tmod_eq_emod_of_nonneg h0]; omega
  · rw [Int.tmod_eq_emod_of_nonneg h0]; exact h2
  · rw [Int.tmod_eq_emod_of_nonneg h0]; omega
end
end Go.Proofs.YtihaifnenjngpaaGreatDoor
