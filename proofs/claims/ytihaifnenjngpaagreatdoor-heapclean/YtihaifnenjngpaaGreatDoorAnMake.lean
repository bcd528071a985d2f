/-
  Blocks stay as their owners wrote them: mathematics.
  The arena, the map and the views of two heaps, asked and turned by the laws themselves.
  Small laws that the walks of the heap's laws share.
  A heap's calls hang on its own window alone; behind all blocks nothing is left: mathematics.
  Blocks given back one by one, till none is left: mathematics.
  Two heaps of one arena, of which nothing is taken but what they hold: what their calls leave.
  Bytes that 'make' lays, read as text.
-/
import Derived.Test.YtihaifnenjngpaaGreatDoorHpHad
import Derived.Test.YtihaifnenjngpaaGreatDoorViBase
import Derived.Test.YtihaifnenjngpaaGreatDoorViCalls
import Derived.Test.YtihaifnenjngpaaGreatDoorAnArena
namespace Go.Proofs.YtihaifnenjngpaaGreatDoor
open Go.RowKit
open An

section
variable {C : Nat → Prop} {k : Nat} {M M' : Ms} {H : Hp} {T T' : Tb} {bs bs' : List UInt8}
end
end Go.Proofs.YtihaifnenjngpaaGreatDoor

namespace Go.Proofs.YtihaifnenjngpaaGreatDoor
open Go.RowKit
open An

theorem Both.left2 {P Q : World → (Nat → Prop) → Prop} {w : World} {U : Nat → Prop} (h : Both P Q w U) (hQ : Good Q) : ∃ Z Y, P w Z ∧ Q w Y ∧ (∀ i, Z i → ¬ Y i) ∧ ∀ {P' : World → (Nat → Prop) → Prop} {w' : World} {Z' : Nat → Prop}, P' w' Z' → Gw w w' Z Z' → ∃ U', Both P' Q w' U' ∧ Gw w w' U U' := by
  obtain ⟨Z, Y, h1, h2, h3, h4, h5, h6⟩ := h
  refine ⟨Z, Y, h1, h2, h3, fun {P' w' Z'} k1 g => ?_⟩
  have hs := g.fr.size
  refine ⟨fun i => Z' i ∨ U i, ⟨Z', Y, k1, hQ.carry h2 g.fr fun i a b => h3 i b a, fun i a b => ?_, fun i a => .inl a, fun i a => .inr (h5 i a), fun i a => a.elim (g.lt i) fun a => Nat.lt_of_lt_of_le (h6 i a) hs⟩, ⟨fun i a => .inr a, fun i a => ?_, fun i a => a.elim (g.lt i) fun a => Nat.lt_of_lt_of_le (h6 i a) hs, g.fr.mono fun i _ => h4 i⟩⟩
  · rcases g.new i a with e | e
    · exact h3 i e b
    · have := h6 i (h5 i b); omega
  · rcases a with a | a
    · rcases g.new i a with e | e
      · exact .inl (h4 i e)
      · exact .inr e
    · exact .inl a
section
variable {W w : World} {ts : List (World → (Nat → Prop) → Prop)} {a m k h t h' t' b : Nat} {M : Ms} {H H' : Hp}
/-- The arena of two heaps turns. -/
theorem Things.arena {Pr : Program} {F : Nat} {args : Array Value} {R : Ending → Prop} {bs' : List UInt8} {ss' : List Sp} (q : Things W w ts) (j : Nat) (hj : ts[j]? = some (S2 a m k M h t H h' t' H'))
    (call : ∀ Z Y, Am 128 a M.bs M.ss w Z → Tm t H.T w Y → (∀ i, Z i → ¬ Y i) → Calls Pr F args w fun e w' => R e ∧ ∃ Z', Am 128 a bs' ss' w' Z' ∧ Gw w w' Z Z') : Calls Pr F args w fun e w' => R e ∧ Things W w' (ts.set j (S2 a m k ⟨M.has, bs', ss'⟩ h t H h' t' H')) := by
  obtain ⟨U, h1, h2, h3⟩ := q.turn j hj
  obtain ⟨V, Y0, v1, w0, v2, v3⟩ := Both.left2 h1 (Both.good (Hm.good ..) (Hm.good ..))
  obtain ⟨Z, z1, z2, z3⟩ := Both.left v1 (Ct.good ..)
  obtain ⟨Y1, y3, y4⟩ := Both.fst' w0
  obtain ⟨Y, y1, y5⟩ := Both.snd y3
  have y2 : ∀ i, Z i → ¬ Y i := fun i a b => v2 i (z2 i a) (y4 i (y5 i b))
  refine (call Z Y z1 y1 y2).mono ?_
  rintro e w' ⟨he, Z', k1, k2⟩
  obtain ⟨V', a1, a2⟩ := z3 k1 k2
  obtain ⟨U', b1, b2⟩ := v3 (P' := Ac a m k ⟨M.has, bs', ss'⟩) a1 a2
  exact ⟨he, h3 _ w' U' (S2.good ..) b1 b2⟩
theorem t_write (q : Things W w ts) (j : Nat) (hj : ts[j]? = some (S2 a m k M h t H h' t' H')) (tw : Two k b M H H') (hb : b ≤ 890000) {x : Int} (hx : I64 x) (s : ByteArray) (hs : s.size ≤ 16384) : Calls Tryz.prog 33 #[.pointer (some ⟨a, 0, none⟩), .pointer (some ⟨t, 0, none⟩), .int .i64 x, .string s] w fun e w' => e = .returned (.int .i64 (vwE H.T M.bs.length x s.size)) ∧ Things W w' (ts.set j (S2 a m k ⟨M.has, vwB H.T M.bs x s.data.toList, vwT H.T M.bs.length M.ss x s.size⟩ h t H h' t' H')) :=
  q.arena j hj fun _ _ h1 h2 h3 => v_write h1 h2 h3 tw.ok.tp.tb hx s hs (by have := tw.ss; omega)
theorem t_aread (q : Things W w ts) (j : Nat) (hj : ts[j]? = some (S2 a m k M h t H h' t' H')) (p n : Nat) (hin : p + n ≤ M.bs.length) (hk : M.ss.length ≤ 1000000) : Calls Tryz.prog 24 #[.pointer (some ⟨a, 0, none⟩), .int .i64 p, .int .i64 n] w fun e w' => e = .returned (.tuple #[.string ⟨((M.bs.drop p).take n).toArray⟩, .int .i64 0]) ∧ Things W w' (ts.set j (S2 a m k ⟨M.has, M.bs, noted M.ss p n false⟩ h t H h' t' H')) :=
  q.arena j hj fun _ _ h1 _ _ => am_read h1 p n hin hk
theorem t_size (q : Things W w ts) (j : Nat) (hj : ts[j]? = some (S2 a m k M h t H h' t' H')) : Calls Tryz.prog 25 #[.pointer (some ⟨a, 0, none⟩)] w fun e w' => e = .returned (.int .i64 M.bs.length) ∧ Things W w' ts := by
  obtain ⟨U, h1, _, _⟩ := q.turn j hj
  obtain ⟨V, v1, _⟩ := Both.fst' h1
  obtain ⟨Z, z1, _⟩ := Both.fst' v1
  exact (am_size z1).mono fun e w' ⟨he, hw⟩ => ⟨he, hw ▸ q⟩
theorem t_mfree (q : Things W w ts) (gr : G17 W) (j : Nat) (hj : ts[j]? = some (S2 a m k M h t H h' t' H')) (i : Nat) {base n : Nat} {ad : Option Addr} {l : List Int} {cap : Nat} (hi : ts[i]? = some (Rw base (.slice ad n cap) l)) (hne : j ≠ i) (hn : n = l.length) (hm : l.length ≤ 100000) : Calls Tryz.prog 41 #[.pointer (some ⟨m, 0, none⟩), .slice ad l.length cap] w fun e w' => e = .returned (.int .i64 (Cq.frI k M.has l : Int)) ∧ Things W w' ts := by
  have hjl := (List.getElem?_eq_some_iff.1 hj).1
  have h1 := q.merge j i hj hi hne
  obtain ⟨U, hU, _⟩ := h1.get j (by rw [List.getElem?_set_ne (fun e => hne e.symm), List.getElem?_set_self hjl])
  obtain ⟨Z, Y, k1, k2, k3, _⟩ := hU
  obtain ⟨V, v1, v2⟩ := Both.fst' k1
  obtain ⟨X, z1, z2⟩ := Both.snd v1
  subst hn
  refine (ct_free (ad := ad) (cap := cap) z1 (gr.fr q.nw.fr) (q.rowNums i hi) (fun b off e h0 hz => k3 b (v2 b (z2 b hz)) (k2.2.1 b ?_)) (by unfold maxLen; omega)).mono fun e w' ⟨he, hw⟩ => ⟨he, q.kept hw⟩
  rcases k2.1.2 with ⟨e1, e2⟩ | ⟨g, cap', cur, e1, _⟩
  · omega
  · rw [e1]
    rw [e] at e1
    simp only [Value.slice.injEq, Option.some.injEq, Addr.mk.injEq] at e1
    simp only [Value.ownBlock, Option.some.injEq]
    exact e1.1.1.symm
/-- What is written into a block that is had leaves both right. -/
theorem Two.write (tw : Two k b M H H') {c s j : Nat} (hb : HadB H.L c s j) {ds : List UInt8} (hd : ds.length = (unitI c).toNat) {ss' : List Sp} (hs : ss'.length ≤ b) : Two k b ⟨M.has, vwB H.T M.bs (adI c s j) ds, ss'⟩ H H' := by
  obtain ⟨x, hx, rfl, rfl, hh, hj⟩ := hb
  exact tw.step (tw.ok.write tw.ms hx hj hh hd) rfl tw.W hs
end
end Go.Proofs.YtihaifnenjngpaaGreatDoor

namespace Go.Proofs.YtihaifnenjngpaaGreatDoor
open Go.RowKit
open An

theorem modu (x : Int) (m : Nat) (M : Int) (hM : M = (m : Int)) (h0 : 0 < m) (h1 : m ≤ 4000000) : ∃ n : Nat, wrap64 ((IntKind.u64.wrap x).tmod M) = (n : Int) ∧ n < m := by
  subst hM
  have hu : 0 ≤ IntKind.u64.wrap x := by rw [IntKind.wrap_u64]; omega
  have he : (IntKind.u64.wrap x).tmod (m : Int) = (IntKind.u64.wrap x) % (m : Int) := Int.tmod_eq_emod_of_nonneg hu
  have h2 := Int.emod_nonneg (IntKind.u64.wrap x) (b := (m : Int)) (by omega)
  have h3 := Int.emod_lt_of_pos (IntKind.u64.wrap x) (b := (m : Int)) (by omega)
  refine ⟨((IntKind.u64.wrap x) % (m : Int)).toNat, ?_, by omega⟩
  rw [he]
  generalize (IntKind.u64.wrap x) % (m : Int) = z at *
  unfold wrap64
  omega
theorem hBl_len (L : List Hd) : (hBl L).length ≤ 4000000 := by
  have hin : ∀ a ∈ hBl L, 0 ≤ a ∧ a < 4000000 := fun a ha => by
    unfold hBl at ha
    obtain ⟨c, hc, ha⟩ := List.mem_flatMap.1 ha
    obtain ⟨s, hs, ha⟩ := List.mem_flatMap.1 ha
    have hc := List.mem_range.1 hc
    have hs := List.mem_range.1 hs
    cases e : hAt L c s with
    | none => rw [e] at ha; cases ha
    | some x =>
      rw [e] at ha
      obtain ⟨j, hj, h⟩ := List.mem_filterMap.1 ha
      have hj := List.mem_range.1 hj
      obtain ⟨_, _, _, _, p5, _⟩ := pn_facts (show c ≤ 23 by omega)
      have f := pl_facts (c := c) (by omega) (by omega)
      have pt : PlT c s j := ⟨by omega, by rw [p5]; omega, by omega, by have := f.2.2.1; omega⟩
      have := pt.inside
      have := f.2.2.2.1
      split at h
      · cases h; omega
      · cases h
  have hn : ((hBl L).map Int.toNat).Nodup := by
    rw [List.nodup_iff_pairwise_ne, List.pairwise_map]
    refine List.Pairwise.imp_of_mem ?_ (hBl_up L)
    intro x y hx hy hlt e
    have := hin x hx
    have := hin y hy
    omega
  have := nodup_short 4000000 _ hn fun x hx => by
    obtain ⟨y, hy, rfl⟩ := List.mem_map.1 hx
    have := hin y hy
    omega
  rwa [List.length_map] at this
theorem had_us {C : Nat → Prop} {M : Ms} {H : Hp} (h : HpOk C M H) {c s j : Nat} (hb : HadB H.L c s j) : hUs H c s j 0 = (unitI c, 0) := by
  obtain ⟨x, hx, rfl, rfl, hh, hj⟩ := hb
  unfold hUs
  rw [if_pos rfl, Int.toNat_natCast, Int.toNat_natCast]
  have hhad : hHad H.L x.kind x.slot j = some x := by
    unfold hHad
    rw [hAt_mem h.nd hx]
    dsimp only
    rw [if_neg]
    rintro ⟨h7, hn⟩
    have hs := h.sm x hx h7
    exact hn ⟨⟨by omega, by rw [hs.kd, ← nu_small h7]; omega⟩, by simpa using hh h7⟩
  rw [hhad]
end Go.Proofs.YtihaifnenjngpaaGreatDoor

namespace Go.Proofs.YtihaifnenjngpaaGreatDoor
open Go.RowKit
open An

/-- What is taken is held. -/
def Own2 (M : Ms) (H H' : Hp) : Prop := ∀ q, q < M.has.length → M.has.getD q true = true → Pgs H.T q ∨ Pgs H'.T q
section
variable {M M1 : Ms} {H H' H1 : Hp}
theorem Own2.swap (h : Own2 M H H') : Own2 M H' H := fun q a b => (h q a b).symm
theorem Own2.step (h : Own2 M H H') (st : Stp M H.T M1 H1.T) : Own2 M1 H1 H' := fun q hq ht => by
  by_cases e : Pgs H1.T q
  · exact .inl e
  · by_cases e2 : Pgs H.T q
    · rw [st.old q e2 e] at ht; cases ht
    · have hq' : q < M.has.length := by rw [← st.len]; exact hq
      rw [(st.out q hq' e2 e).1] at ht
      rcases h q hq' ht with e3 | e3
      · exact (e2 e3).elim
      · exact .inr e3
theorem clean_end (ms : MsOk M) (own : Own2 M H H') (h1 : H.T = []) (h2 : H'.T = []) : M.has = List.replicate M.has.length false ∧ M.bs = List.replicate (M.has.length * 512) 0 := by
  have hf : ∀ q, q < M.has.length → M.has.getD q true = false := fun q hq => by
    cases e : M.has.getD q true with
    | false => rfl
    | true =>
      rcases own q hq e with ⟨v, hv⟩ | ⟨v, hv⟩
      · rw [h1] at hv; cases hv
      · rw [h2] at hv; cases hv
  refine ⟨?_, ?_⟩
  · apply List.ext_getElem (by simp)
    intro i h3 h4
    have := hf i h3
    rw [List.getElem_replicate]
    simpa [List.getD_eq_getElem?_getD, h3] using this
  · apply List.ext_getElem (by rw [List.length_replicate]; exact ms.len)
    intro i h3 h4
    rw [List.getElem_replicate]
    have hl := ms.len
    have hq : i / 512 < M.has.length := by omega
    have hw := ms.cl _ hq (hf _ hq)
    have e1 := win_get? M.bs (i / 512 * 512) (i % 512) (by omega)
    rw [show i / 512 * 512 + i % 512 = i by omega, hw, List.getElem?_eq_getElem h3] at e1
    have e2 := nz_get 512 (i % 512)
    rw [e1] at e2
    exact e2
theorem free_all {n k : Nat} (hk : 0 < k) {l : List Int} (hl : ∀ c : Nat, c < k → (c : Int) ∈ l) : Cq.frI k (List.replicate n false) l = n := by
  have : ∀ m, m ≤ n → Cq.cnt (Cq.meant k (List.replicate n false) l) m = m := fun m => by
    induction m with
    | zero => intro _; rfl
    | succ m ih =>
      intro hm
      rw [Cq.cnt_succ, ih (by omega), if_pos]
      unfold Cq.meant Cq.inW
      have h1 : (List.replicate n false).getD m true = false := by simp [List.getD_eq_getElem?_getD, show m < n by omega]
      rw [h1]
      have h2 : (l.any fun x => x == ((m % k : Nat) : Int)) = true := by
        rw [List.any_eq_true]
        exact ⟨((m % k : Nat) : Int), hl (m % k) (Nat.mod_lt _ hk), by simp⟩
      simp only [Bool.not_false, Bool.true_and]
      exact h2
  unfold Cq.frI
  rw [List.length_replicate]
  exact this n (Nat.le_refl _)
end
/-- Two states that are one to a heap of that window. -/
structure Sim (k : Nat) (W : List Int) (M M' : Ms) (T : Tb) : Prop where
  len : M.has.length = M'.has.length
  has : ∀ q, Cq.inW k W q = true → M.has.getD q true = M'.has.getD q true
  win : ∀ q, Pgs T q → win M.bs (q * 512) = win M'.bs (q * 512)
section
variable {k : Nat} {W : List Int} {M M' M1 : Ms} {H H1 : Hp} {T T1 : Tb} {C : Nat → Prop}
theorem Sim.meant (h : Sim k W M M' T) (q : Nat) : Cq.meant k M.has W q = Cq.meant k M'.has W q := by
  unfold Cq.meant
  cases e : Cq.inW k W q
  · simp
  · rw [h.has q e]
theorem Sim.fr (h : Sim k W M M' T) : Cq.frI k M.has W = Cq.frI k M'.has W := by
  unfold Cq.frI
  rw [← h.len]
  exact Cq.cnt_ext _ fun q _ => h.meant q
/-- Another heap turns, of colours apart. -/
theorem Sim.other (h : Sim k W M M' T) (st : Stp M T1 M1 H1.T) (h1 : ∀ q, Pgs T1 q → Cq.inW k W q = false) (h2 : ∀ q, Pgs H1.T q → Cq.inW k W q = false) (hT : ∀ q, Pgs T q → Cq.inW k W q = true ∧ q < M.has.length) : Sim k W M1 M' T := by
  have hn : ∀ q, Cq.inW k W q = true → ¬ Pgs T1 q ∧ ¬ Pgs H1.T q := fun q hq => ⟨fun e => (by rw [h1 q e] at hq; cases hq), fun e => (by rw [h2 q e] at hq; cases hq)⟩
  refine ⟨st.len.trans h.len, fun q hq => ?_, fun q hq => ?_⟩
  · by_cases hl : q < M.has.length
    · rw [(st.out q hl (hn q hq).1 (hn q hq).2).1]; exact h.has q hq
    · rw [List.getD_eq_getElem?_getD, List.getElem?_eq_none (by rw [st.len]; omega), List.getD_eq_getElem?_getD, List.getElem?_eq_none (by rw [← h.len]; omega)]
  · obtain ⟨a1, a2⟩ := hT q hq
    rw [(st.out q a2 (hn q a1).1 (hn q a1).2).2]; exact h.win q hq
theorem Like.both {g : Pg} {bs bs' : List UInt8} (h : g.Ok bs) (hw : win bs g.base = win bs' g.base) : Like g g bs bs' := ⟨rfl, rfl, rfl, rfl, hw, h.mod, h.fit⟩
end
end Go.Proofs.YtihaifnenjngpaaGreatDoor

namespace Go.Proofs.YtihaifnenjngpaaGreatDoor
open Go.RowKit
open An

theorem nodup_sub : ∀ (l l' : List Int), l.Nodup → (∀ a ∈ l, a ∈ l') → l.length ≤ l'.length
  | [], l', _, _ => Nat.zero_le _
  | x :: r, l', hn, h => by
    have hx : x ∈ l' := h x (by simp)
    have hn' := List.nodup_cons.1 hn
    have h1 := nodup_sub r (l'.erase x) hn'.2 fun a ha => (List.mem_erase_of_ne (by rintro rfl; exact hn'.1 ha)).2 (h a (List.mem_cons_of_mem _ ha))
    rw [List.length_erase_of_mem hx] at h1
    have := List.length_pos_of_mem hx
    simp only [List.length_cons]
    omega
theorem bl_nodup (L : List Hd) : (hBl L).Nodup := (hBl_up L).imp fun h e => by omega
theorem bl_nil : hBl [] = [] := by
  cases e : hBl [] with
  | nil => rfl
  | cons a r =>
    obtain ⟨c, s, j, ⟨x, hx, _⟩, _⟩ := (mem_hBl (L := []) (a := a) List.nodup_nil fun x hx => by cases hx).1 (by rw [e]; simp)
    cases hx
section
variable {C : Nat → Prop} {k : Nat} {M : Ms} {H : Hp} {c s j : Nat}
theorem hM_bl (h : HpOk C M H) (ok : MsOk M) {n : Int} {r : Ms × Hp × Int × Int} (w : MWay C k M H n r) : (hBl r.2.1.L).length ≤ (hBl H.L).length + 1 := by
  have ok' := (w.ok h ok).1.ok
  rcases hM_had h ok w with e | ⟨_, c, s, j, g⟩
  · rw [e.2.2.1]; omega
  · have := nodup_sub (hBl r.2.1.L) (adI c s j :: hBl H.L) (bl_nodup _) fun a ha => by
      obtain ⟨c', s', j', hb, rfl⟩ := (mem_hBl ok'.nd ok'.at_).1 ha
      rcases (g.had c' s' j').1 hb with e | ⟨rfl, rfl, rfl⟩
      · exact List.mem_cons_of_mem _ ((mem_hBl h.nd h.at_).2 ⟨c', s', j', e, rfl⟩)
      · simp
    simpa using this
theorem hF_bl (h : HpOk C M H) (ok : MsOk M) (hb : HadB H.L c s j) : (hBl (hF M H c s j).2.1.L).length ≤ (hBl H.L).length := by
  have ok' := (hF_ok h ok c s j).1.ok
  exact nodup_sub _ _ (bl_nodup _) fun a ha => by
    obtain ⟨c', s', j', hb', rfl⟩ := (mem_hBl ok'.nd ok'.at_).1 ha
    exact (mem_hBl h.nd h.at_).2 ⟨c', s', j', (((hF_had h hb).2 c' s' j').1 hb').1, rfl⟩
end
/-- So many of the blocks are given back. -/
structure Gone (LB : List Int) (z : Nat) (H : Hp) : Prop where
  sub : ∀ c s j, HadB H.L c s j → (adI c s j : Int) ∈ LB.drop z
  all : ∀ a ∈ LB.drop z, ∃ c s j : Nat, HadB H.L c s j ∧ a = adI c s j
section
variable {C : Nat → Prop} {k z : Nat} {LB : List Int} {M : Ms} {H : Hp} {c s j : Nat}
theorem Gone.start (h : HpOk C M H) : Gone (hBl H.L) 0 H :=
  ⟨fun c s j hb => (mem_hBl h.nd h.at_).2 ⟨c, s, j, hb, rfl⟩, fun _ ha => (mem_hBl h.nd h.at_).1 ha⟩
theorem Gone.step (g : Gone LB z H) (h : HpOk C M H) (hu : LB.Nodup) (hz : z < LB.length) (hb : HadB H.L c s j) (e : LB[z] = adI c s j) : Gone LB (z + 1) (hF M H c s j).2.1 := by
  have hd : LB.drop z = LB[z] :: LB.drop (z + 1) := List.drop_eq_getElem_cons hz
  have hnd : LB[z] ∉ LB.drop (z + 1) := by
    have := hu.sublist (List.drop_sublist z LB)
    rw [hd] at this
    exact (List.nodup_cons.1 this).1
  have hp := (hb.there h).1
  have hF := (hF_had h hb).2
  refine ⟨fun c' s' j' hb' => ?_, fun a ha => ?_⟩
  · obtain ⟨h1, h2⟩ := (hF c' s' j').1 hb'
    have h3 := g.sub c' s' j' h1
    rw [hd] at h3
    rcases List.mem_cons.1 h3 with e2 | e2
    · have := (h1.there h).1.same hp (e2.trans e)
      exact (h2 ⟨by omega, by omega, by omega⟩).elim
    · exact e2
  · obtain ⟨c', s', j', h1, rfl⟩ := g.all a (by rw [hd]; exact List.mem_cons_of_mem _ ha)
    refine ⟨c', s', j', (hF c' s' j').2 ⟨h1, ?_⟩, rfl⟩
    rintro ⟨rfl, rfl, rfl⟩
    rw [← e] at ha
    exact hnd ha
theorem Gone.done (g : Gone LB LB.length H) (h : HpOk C M H) (us : Us H.L) : H.T = [] := by
  refine (h.nothing us fun c s j hb => ?_).2
  have := g.sub c s j hb
  rw [List.drop_length] at this
  cases this
end
end Go.Proofs.YtihaifnenjngpaaGreatDoor

namespace Go.Proofs.YtihaifnenjngpaaGreatDoor
open Go.RowKit
open An

theorem vwT_few {T : Tb} (ok : TbOk T) (N : Nat) (ss : List Sp) (a n : Int) : (vwT T N ss a n).length ≤ ss.length + n.toNat / 512 + 2 := by
  unfold vwT
  split
  · rename_i hv
    have := (hv.apt ok).2.2.1
    simp only [List.length_append, tch, List.length_map]
    omega
  · omega
structure Cln (n k b j : Nat) (M : Ms) (H H' : Hp) : Prop where
  tw : Two k b M H H'
  ow : Own2 M H H'
  u1 : Us H.L
  u2 : Us H'.L
  ln : M.has.length = n
  b1 : (hBl H.L).length ≤ j
  b2 : (hBl H'.L).length ≤ j
section
variable {n k b j : Nat} {M : Ms} {H H' : Hp}
theorem Cln.swap (h : Cln n k b j M H H') : Cln n k b j M H' H := ⟨h.tw.swap, h.ow.swap, h.u2, h.u1, h.ln, h.b2, h.b1⟩
theorem Cln.less (h : Cln n k b j M H H') {b' j' : Nat} (hb : b ≤ b') (hj : j ≤ j') : Cln n k b' j' M H H' := ⟨h.tw.less hb, h.ow, h.u1, h.u2, h.ln, Nat.le_trans h.b1 hj, Nat.le_trans h.b2 hj⟩
theorem Cln.new (tw : Two k b (mN n) H H') (h1 : H.L = []) (h2 : H'.L = []) : Cln n k b 0 (mN n) H H' := by
  refine ⟨tw, fun q hq ht => ?_, fun x hx => (by rw [h1] at hx; cases hx), fun x hx => (by rw [h2] at hx; cases hx), by simp [mN], by rw [h1, bl_nil]; simp, by rw [h2, bl_nil]; simp⟩
  have hq : q < (List.replicate n false).length := hq
  have ht : (List.replicate n false).getD q true = true := ht
  simp at hq
  simp [List.getD_eq_getElem?_getD, hq] at ht
theorem Cln.malloc (h : Cln n k b j M H H') (x : Int) : Cln n k (b + 2) (j + 1) (hM k M H x).1 (hM k M H x).2.1 H' := by
  have w : MWay (fun q => Cq.inW k H.W q = true) k M H x (hM k M H x) := hM_ways (fun _ => id) h.tw.ok h.tw.ms x
  have l := (w.ok h.tw.ok h.tw.ms).1
  have := hM_bl h.tw.ok h.tw.ms w
  have := h.b1
  have := h.b2
  exact ⟨h.tw.malloc x, h.ow.step l.stp, l.us h.u1, h.u2, l.stp.len.trans h.ln, by omega, by omega⟩
theorem Cln.free (h : Cln n k b j M H H') {c s i : Nat} (hb : HadB H.L c s i) : Cln n k (b + 18) j (hF M H c s i).1 (hF M H c s i).2.1 H' := by
  have l := (hF_ok h.tw.ok h.tw.ms c s i).1
  have t := h.tw.free c s i 0
  have hfr : hFr M H c s i 0 = hF M H c s i := by unfold hFr; rw [if_pos rfl, Int.toNat_natCast, Int.toNat_natCast]
  rw [hfr] at t
  exact ⟨t, h.ow.step l.stp, l.us h.u1, h.u2, l.stp.len.trans h.ln, Nat.le_trans (hF_bl h.tw.ok h.tw.ms hb) h.b1, h.b2⟩
theorem Cln.drop (h : Cln n k b j M H H') : Cln n k (b + 4096) j (hDr M H).1 (hDr M H).2 H' := by
  have l := (hDr_ok h.tw.ok h.tw.ms).1
  have := h.tw.ms.cap
  exact ⟨h.tw.drop.less (by omega), h.ow.step l.stp, l.us h.u1, h.u2, l.stp.len.trans h.ln, by show (hBl []).length ≤ j; rw [bl_nil]; simp, h.b2⟩
theorem Cln.wrote (h : Cln n k b j M H H') {c s i : Nat} (hb : HadB H.L c s i) {ds : List UInt8} (hd : ds.length = (unitI c).toNat) : Cln n k (b + 20) j ⟨M.has, vwB H.T M.bs (adI c s i) ds, vwT H.T M.bs.length M.ss (adI c s i) (unitI c)⟩ H H' := by
  obtain ⟨_, hcc, _⟩ := hb.there h.tw.ok
  have hun := unitI_range c (by omega) (by omega)
  have h1 := vwT_few h.tw.ok.tp.tb M.bs.length M.ss (adI c s i) (unitI c)
  have h2 := h.tw.ss
  exact ⟨(h.tw.less (b' := b + 20) (by omega)).write hb hd (by omega), h.ow, h.u1, h.u2, h.ln, h.b1, h.b2⟩
/-- The end: all free, all 0. -/
theorem Cln.clean (h : Cln n k b j M H H') (h1 : H.T = []) (h2 : H'.T = []) : M.has = List.replicate n false ∧ M.bs = List.replicate (n * 512) 0 := by
  have := clean_end h.tw.ms h.ow h1 h2
  rw [h.ln] at this
  exact this
end
end Go.Proofs.YtihaifnenjngpaaGreatDoor

namespace Go.Proofs.YtihaifnenjngpaaGreatDoor.An
open Go.RowKit

/-- So many noughts: a name that the walk leaves standing. -/
def zs (n : Nat) : List UInt8 := List.replicate n 0
theorem zs_length (n : Nat) : (zs n).length = n := by simp [zs]
/-- 'make([]byte, n)'. -/
theorem run_make_bytes (w : World) (n : Nat) (hn : n ≤ 2097152) : (Instr.makeSlice 65 (.int .i64 n) (.int .i64 n)).run Tryz.prog w = .ok (.slice (some ⟨w.heap.size, 0, none⟩) n n) (w.alloc (.cells (bc (zs n)).toArray 5)) := by
  obtain ⟨i0, hi, hz0, hz1, hz2⟩ := info_parts Tryz.info5
  have hmk := run_make (P := Tryz.prog) w 65 5 i0 (.int .u8 0) Tryz.underlying65 hi hz0 .i64 .i64 (n : Int) (n : Int) (by omega) (by omega) (by rw [hz2]; omega) (by omega)
  rw [hz1] at hmk
  simp only [Int.toNat_natCast, Nat.mul_one, Value.cells, made_bytes] at hmk
  exact hmk
/-- 'string(make([]byte, n))'. -/
theorem run_made_text (w : World) (n : Nat) : (convert 65 9 (.slice (some ⟨w.heap.size, 0, none⟩) n n)).run Tryz.prog (w.alloc (.cells (bc (zs n)).toArray 5)) = .ok (.string ⟨(zs n).toArray⟩) (w.alloc (.cells (bc (zs n)).toArray 5)) := by
  have := run_bytes_string (P := Tryz.prog) 65 5 9 Tryz.underlying65 Tryz.underlying5 Tryz.underlying9 (w := w.alloc (.cells (bc (zs n)).toArray 5)) (b := w.heap.size) (l := zs n) (heap_alloc_new w _) 0 n n (by simp [zs_length])
  rw [List.drop_zero, List.take_of_length_le (by simp [zs_length])] at this
  exact this
end Go.Proofs.YtihaifnenjngpaaGreatDoor.An
