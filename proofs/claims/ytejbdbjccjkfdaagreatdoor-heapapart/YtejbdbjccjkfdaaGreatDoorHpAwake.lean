/-
  New; and the map of pages as a thing.
  The calls of package heap, over the landed code.
  Two heaps of one arena and one map: mathematics; and in memory.
  What the calls of a heap leave of things side by side.
  The document's own examples stand, so the laws are awake.
-/
import Derived.Test.YtejbdbjccjkfdaaGreatDoorHpTopF
namespace Go.Proofs.YtejbdbjccjkfdaaGreatDoor
open Go.RowKit
open An

theorem ct_new {w : World} {n k : Nat} (h : Cq.Cfg n k) (gr : G17 w) : Calls Tryz.prog 32 #[.agg #[.int .i64 (n : Int), .int .i64 (k : Int)]] w fun e w' => ∃ m Z, e = .returned (.tuple #[.pointer (some ⟨m, 0, none⟩), .int .i64 0]) ∧ Ct m k (List.replicate n false) w' Z ∧ Fr (fun _ => False) w w' ∧ ∀ i, Z i → w.heap.size ≤ i ∧ i < w'.heap.size :=
  (Cq.c_new h w gr.2).mono fun _ w' ⟨a, Z, he, h1, h2, h3⟩ => ⟨a, Z, he, ⟨w', Z, h2, fun _ hi => ⟨hi, rfl⟩, h2.zlt⟩, h3, fun i hi => ⟨h1 i hi, h2.zlt i hi⟩⟩
theorem ct_new_no {n k : Int} (h : ¬ Cq.Cfg n k) (w : World) : Calls Tryz.prog 32 #[.agg #[.int .i64 n, .int .i64 k]] w fun e w' => e = .returned (.tuple #[.pointer none, .int .i64 12]) ∧ Fr (fun _ => False) w w' := Cq.c_new_no h w
section
variable {w : World} {a m k : Nat} {U : Nat → Prop} {M : Ms} {W : List Int} {ad : Option Addr} {cap : Nat}
set_option maxRecDepth 20000 in
set_option maxHeartbeats 4000000 in
theorem y_new (h : Both (Ac a m k M) (Lv ad W) w U) (gr : G17 w) (fu : Apart17 U) (_ms : MsOk M) (_h1 : 1 ≤ k) (_h2 : k ≤ 32) (hW : W.length ≤ 17592186044416) : Calls Tryz.prog 36 #[.pointer (some ⟨a, 0, none⟩), .pointer (some ⟨m, 0, none⟩), .slice ad W.length cap] w fun e w' => ∃ h t U', e = .returned (.tuple #[.pointer (some ⟨h, 0, none⟩), .int .i64 0]) ∧ Hs a m h t k M ⟨W, [], [], fun _ => []⟩ w' U' ∧ Gw w w' U U' := by
  have cx := cx_old gr fu
  have hlt := h.lt
  have T0 := (Things.begin (Both.good (Ac.good ..) (Lv.good ..)) h hlt).open2 0 (P := Ac a m k M) (Q := Lv ad W) rfl (Ac.good ..) (Lv.good ..)
  have H1 : Hid (Calls Tryz.prog 56 #[.slice ad W.length cap] w fun e w' => ∃ ad' cap', e = .returned (.slice ad' W.length cap') ∧ Things (Bare w) w' [Ac a m k M, Old w U, Lv ad W, Lv ad' W]) := (cl17 cap (T0.nums 2 rfl) hW).mono fun e w' ⟨⟨ad', cap', he, hn, hb⟩, f⟩ => ⟨ad', cap', he, T0.more (Lv.good _ _) (Lv.new hn) f fun i ⟨⟨off, e⟩, h0⟩ => ⟨hb i off e, (Lv.new hn).2.2 i ⟨⟨off, e⟩, h0⟩⟩⟩
  have H2 : Hid (∀ w1 ad', Things (Bare w) w1 [Ac a m k M, Old w U, Lv ad W, Lv ad' W] → Calls Tryz.prog 82 #[] w1 fun e w' => ∃ t, e = .returned (.pointer (some ⟨t, 0, none⟩)) ∧ Things (Bare w) w' [Ac a m k M, Old w U, Lv ad W, Lv ad' W, Tm t []]) := fun w1 ad' h1 => (c_new w1).mono fun e w' ⟨t, Z, he, k1, k2, k3⟩ => ⟨t, he, h1.more (Tm.good t []) k1 k2 k3⟩
  have H3 : Hid (∀ w1 ad' cap' t, Things (Bare w) w1 [Ac a m k M, Old w U, Lv ad W, Lv ad' W, Tm t []] → Calls Tryz.prog 83 #[.pointer (some ⟨w1.heap.size, 0, none⟩)] (w1.alloc (gob (.pointer (some ⟨a, 0, none⟩)) (.pointer (some ⟨m, 0, none⟩)) (.slice ad' W.length cap') (.pointer (some ⟨t, 0, none⟩)) (fun _ => .pointer none) (fun _ => .pointer none) (.map none))) fun e w' => e = .returned (.int .i64 0) ∧ ∃ U', Hs a m w1.heap.size t k M ⟨W, [], [], fun _ => []⟩ w' U' ∧ Gw w w' U U') := fun w1 ad' cap' t h1 => by
    have h2 := (h1.blk (gob (.pointer (some ⟨a, 0, none⟩)) (.pointer (some ⟨m, 0, none⟩)) (.slice ad' W.length cap') (.pointer (some ⟨t, 0, none⟩)) (fun _ => .pointer none) (fun _ => .pointer none) (.map none))).swapAt 2 5 rfl rfl (by decide)
    refine (i_begin cx (b := w1.heap.size) h2).mono ?_
    rintro e w' ⟨he, A, B, N', pb, h3⟩
    refine ⟨he, ?_⟩
    have h4 := h3.open2 0 (P := Am 144 a M.bs M.ss) (Q := Ct m k M.has) rfl (Am.good ..) (Ct.good ..)
    have h5 := h4.swapAt 3 9 rfl rfl (by decide)
    have h6 := h5.swapAt 5 9 rfl rfl (by decide)
    have h7 : Things (Bare w) w' ([Am 144 a M.bs M.ss, Old w U, Blk w1.heap.size (gob (.pointer (some ⟨a, 0, none⟩)) (.pointer (some ⟨m, 0, none⟩)) (.slice ad' W.length cap') (.pointer (some ⟨t, 0, none⟩)) (pvp 24 A (fun _ => .pointer none)) (pvp 8 N' (fun _ => .pointer none)) (.map (some pb))), Ct m k M.has, Tm t [], Lv ad' W, Fam 24 (shp 24 A B), Fam 8 (lnp 8 N'), Mg pb 0 (fun _ => none)] ++ [Lv ad W]) := h6
    obtain ⟨x', ⟨e1, e2, e3, e4, e5⟩, h8⟩ := begun (x := ⟨a, m, w1.heap.size, t, k, ad', cap', A, B, N', pb⟩) h7.less
    have := Hz.finish h8 hlt (rep_empty (Wd := W))
    rw [e1, e2, e3, e4, e5] at this
    exact this
  clear T0 cx hlt h gr fu hW
  generalize W.length = wl at *
  go_enter Tryz.func36, Tryz.ntmps36
  go_wp2_with fail
  refine H1.out.mono ?_
  rintro e w1 ⟨ad', cap', rfl, h1⟩
  have H4 := hid (H2.out _ _ h1)
  clear h1 H1 H2
  go_wp2_with fail
  refine H4.out.mono ?_
  rintro e w2 ⟨t, rfl, h2⟩
  have H5 := hid (H3.out _ _ cap' _ h2)
  clear h2 H3 H4
  go_wp2_with fail
  refine H5.out.mono ?_
  rintro e w3 ⟨rfl, U', k1, k2⟩
  have T3 := hid (And.intro k1 k2)
  clear k1 k2 H5
  go_wp2
  go_ret2
  exact ⟨w2.heap.size, t, U', by simp, T3.out⟩
end
end Go.Proofs.YtejbdbjccjkfdaaGreatDoor



namespace Go.Proofs.YtejbdbjccjkfdaaGreatDoor
open Go.RowKit
open An

/-- Two heaps that share an arena, each right, with no page in common; at most b touches. -/
structure Two (k b : Nat) (M : Ms) (H H' : Hp) : Prop where
  ok : HpOk (fun q => Cq.inW k H.W q = true) M H
  ok' : HpOk (fun q => Cq.inW k H'.W q = true) M H'
  ms : MsOk M
  k1 : 1 ≤ k
  k2 : k ≤ 32
  ss : M.ss.length ≤ b
  W : H.W.length ≤ 17592186044416
  W' : H'.W.length ≤ 17592186044416
  dj : ∀ q, Pgs H.T q → ¬ Pgs H'.T q
section
variable {k b : Nat} {M M1 : Ms} {H H' H1 : Hp}
theorem Two.swap (h : Two k b M H H') : Two k b M H' H := ⟨h.ok', h.ok, h.ms, h.k1, h.k2, h.ss, h.W', h.W, fun q a c => h.dj q c a⟩
theorem Two.hc (h : Two k b M H H') (hb : b ≤ 890000) : Hc k M H := ⟨h.ok, h.ms, h.k1, h.k2, Nat.le_trans h.ss hb, h.W⟩
theorem Two.less (h : Two k b M H H') {b' : Nat} (hb : b ≤ b') : Two k b' M H H' := ⟨h.ok, h.ok', h.ms, h.k1, h.k2, Nat.le_trans h.ss hb, h.W, h.W', h.dj⟩
theorem Two.step (h : Two k b M H H') {b' : Nat} {Wn : List Int} (hl : Left17 (fun q => Cq.inW k Wn q = true) M H M1 H1) (e : H1.W = Wn) (hW : Wn.length ≤ 17592186044416) (hs : M1.ss.length ≤ b') : Two k b' M1 H1 H' := by
  subst e
  obtain ⟨o1, o2⟩ := h.ok'.other hl.stp fun q a c => h.dj q c a
  exact ⟨hl.ok, o1, hl.ms, h.k1, h.k2, hs, hW, h.W', fun q a c => o2 q c a⟩
/-- Pages are no more than there are. -/
theorem TpOk.few {C : Nat → Prop} {has : List Bool} {T : Tb} (h : TpOk C has T) : T.length ≤ has.length := by
  have hn : (T.map fun y => y.2.toNat).Nodup := by
    rw [List.nodup_iff_pairwise_ne, List.pairwise_map]
    have h2 := h.tb.inj
    refine List.Pairwise.imp_of_mem ?_ h2
    intro x y hx hy hne e
    have h3 := (h.tk x hx).1
    have h4 := (h.tk y hy).1
    exact hne (by omega)
  have := nodup_short has.length _ hn fun x hx => by
    obtain ⟨y, hy, rfl⟩ := List.mem_map.1 hx
    exact (h.tk y hy).2.1
  rwa [List.length_map] at this
theorem Two.malloc (h : Two k b M H H') (n : Int) : Two k (b + 2) (hM k M H n).1 (hM k M H n).2.1 H' := by
  obtain ⟨l, lW, ls⟩ := (hM_ways (fun _ => id) h.ok h.ms n).ok h.ok h.ms
  have := h.ss
  exact h.step l lW h.W (by omega)
theorem hFr_ok {C : Nat → Prop} (h : HpOk C M H) (ok : MsOk M) (c s j E : Int) : Left17 C M H (hFr M H c s j E).1 (hFr M H c s j E).2.1 ∧ (hFr M H c s j E).2.1.W = H.W ∧ (hFr M H c s j E).1.ss.length ≤ M.ss.length + 18 := by
  unfold hFr
  split
  · exact hF_ok h ok _ _ _
  · exact ⟨h.left ok, rfl, by simp⟩
theorem Two.free (h : Two k b M H H') (c s j E : Int) : Two k (b + 18) (hFr M H c s j E).1 (hFr M H c s j E).2.1 H' := by
  obtain ⟨l, lW, ls⟩ := hFr_ok h.ok h.ms c s j E
  have := h.ss
  exact h.step l lW h.W (by omega)
theorem Two.move (h : Two k b M H H') {W : List Int} (hW : W.length ≤ 17592186044416) : Two k (b + 3 * M.has.length) (hMo k M H W).1 (hMo k M H W).2.1 H' := by
  have hs := h.ss
  have hf := h.ok.tp.few
  by_cases e : (hMo k M H W).2.2 = 0
  · obtain ⟨l, lW, ls⟩ := hMo_ok h.ok h.ms W e
    exact h.step l lW hW (by omega)
  · obtain ⟨e1, e2, _⟩ := hMo_no e
    rw [e1, e2]
    exact h.less (by omega)
theorem Two.drop (h : Two k b M H H') : Two k (b + M.has.length) (hDr M H).1 (hDr M H).2 H' := by
  have hs := h.ss
  have hf := h.ok.tp.few
  obtain ⟨l, ls⟩ := hDr_ok h.ok h.ms
  exact h.step l rfl h.W (by omega)
theorem Two.len (_ : Two k b M H H') {M1 : Ms} {H1 : Hp} (hl : Stp M H.T M1 H1.T) : M1.has.length = M.has.length := hl.len
end
/-- Both in memory. -/
def S2 (a m k : Nat) (M : Ms) (h t : Nat) (H : Hp) (h' t' : Nat) (H' : Hp) : World → (Nat → Prop) → Prop := Both (Ac a m k M) (Both (Hm h a m t k H) (Hm h' a m t' k H'))
section
variable {W w : World} {ts : List (World → (Nat → Prop) → Prop)} {a m k h t h' t' b : Nat} {M : Ms} {H H' : Hp} {U : Nat → Prop}
theorem S2.good (a m k : Nat) (M : Ms) (h t : Nat) (H : Hp) (h' t' : Nat) (H' : Hp) : Good (S2 a m k M h t H h' t' H') := Both.good (Ac.good ..) (Both.good (Hm.good ..) (Hm.good ..))
theorem S2.swap (q : S2 a m k M h t H h' t' H' w U) : S2 a m k M h' t' H' h t H w U := Both.imp q fun _ => Both.swap
/-- What is new since W is none of the tables'. -/
theorem apart_of {U : Nat → Prop} (gr : G17 W) (h : ∀ i, U i → W.heap.size ≤ i) : Apart17 U := ⟨fun e => by have := h _ e; have := Tab.pos gr.1; omega, fun e => by have := h _ e; have := Sf.Tab.pos gr.2; omega⟩
theorem Things.liftA {P P' : World → (Nat → Prop) → Prop} (q : Things W w ts) (gr : G17 W) (j : Nat) (hj : ts[j]? = some P) (hP : Good P') {Pg : Program} {F : Nat} {args : Array Value} {R : Ending → Prop}
    (base : ∀ U, P w U → Apart17 U → Calls Pg F args w fun e w' => R e ∧ ∃ U', P' w' U' ∧ Gw w w' U U') : Calls Pg F args w fun e w' => R e ∧ Things W w' (ts.set j P') := by
  obtain ⟨U, h1, h0, h2⟩ := q.turn j hj
  exact (base U h1 (apart_of gr fun i hi => (h0 i hi).1)).mono fun e w' ⟨he, U', g1, g2⟩ => ⟨he, h2 P' w' U' hP g1 g2⟩
/-- A call of the first one. -/
theorem Things.one {Pr : Program} {F : Nat} {args : Array Value} {R : Ending → Prop} {M1 : Ms} {H1 : Hp} (q : Things W w ts) (gr : G17 W) (j : Nat) (hj : ts[j]? = some (S2 a m k M h t H h' t' H'))
    (call : ∀ V, Hs a m h t k M H w V → Apart17 V → Calls Pr F args w fun e w' => R e ∧ ∃ V', Hs a m h t k M1 H1 w' V' ∧ Gw w w' V V') : Calls Pr F args w fun e w' => R e ∧ Things W w' (ts.set j (S2 a m k M1 h t H1 h' t' H')) := by
  obtain ⟨U, h1, h2, h3⟩ := q.turn j hj
  obtain ⟨V, v1, v2, v3⟩ := Both.rest h1 (Hm.good ..)
  refine (call V v1 (apart_of gr fun i hi => (h2 i (v2 i hi)).1)).mono ?_
  rintro e w' ⟨he, V', k1, k2⟩
  obtain ⟨U', u1, u2⟩ := v3 k1 k2
  exact ⟨he, h3 _ w' U' (S2.good ..) u1 u2⟩
/-- It is asked. -/
theorem Things.asked {Pr : Program} {F : Nat} {args : Array Value} {R : World → Ending → World → Prop} (q : Things W w ts) (j : Nat) (hj : ts[j]? = some (S2 a m k M h t H h' t' H'))
    (call : ∀ V, Hs a m h t k M H w V → Calls Pr F args w fun e w' => R w e w' ∧ Fr (fun _ => False) w w') : Calls Pr F args w fun e w' => R w e w' ∧ Fr (fun _ => False) w w' ∧ Things W w' ts := by
  obtain ⟨U, h1, _, _⟩ := q.turn j hj
  obtain ⟨V, v1, _, _⟩ := Both.rest h1 (Hm.good ..)
  refine (call V v1).mono ?_
  rintro e w' ⟨he, hf⟩
  exact ⟨he, hf, q.kept hf⟩
end
end Go.Proofs.YtejbdbjccjkfdaaGreatDoor

namespace Go.Proofs.YtejbdbjccjkfdaaGreatDoor
open Go.RowKit
open An

section
variable {W w : World} {ts : List (World → (Nat → Prop) → Prop)} {a m k h t h' t' b : Nat} {M : Ms} {H H' : Hp} {l : List Int} {ad : Option Addr} {cap : Nat}
theorem q_arena (q : Things W w ts) (n : Nat) (hn : n ≤ 2097152) : Calls Tryz.prog 34 #[.int .i64 n] w fun e w' => ∃ a, e = .returned (.tuple #[.pointer (some ⟨a, 0, none⟩), .int .i64 0]) ∧ Things W w' (ts ++ [Am 144 a (List.replicate n 0) []]) :=
  (am_new n w hn).mono fun _ _ ⟨a, _, he, hm, hz, f⟩ => ⟨a, he, q.more (Am.good _ _ _ _) hm f fun i hi => ⟨hz i hi, hm.lt i hi⟩⟩
theorem q_map (q : Things W w ts) (gr : G17 W) {n k : Nat} (hc : Cq.Cfg n k) : Calls Tryz.prog 32 #[.agg #[.int .i64 (n : Int), .int .i64 (k : Int)]] w fun e w' => ∃ m, e = .returned (.tuple #[.pointer (some ⟨m, 0, none⟩), .int .i64 0]) ∧ Things W w' (ts ++ [Ct m k (List.replicate n false)]) :=
  (ct_new hc (gr.fr q.nw.fr)).mono fun _ _ ⟨m, _, he, hm, f, hz⟩ => ⟨m, he, q.more (Ct.good ..) hm f hz⟩
/-- New numbers, as a thing. -/
theorem Things.list (q : Things W w ts) (l : List Int) {T : TypeId} (_ : l ≠ []) : Things W (w.alloc (.cells (ic l).toArray T)) (ts ++ [Lv (some ⟨w.heap.size, 0, none⟩) l]) := by
  have f : Fr (fun _ => False) w (w.alloc (.cells (ic l).toArray T)) := (Fr.refl _ _).alloc _
  refine q.more (Lv.good _ _) (Z := fun i => i = w.heap.size) ⟨nums_new (heap_alloc_new w _) (Fr.refl _ _), fun b off e _ => ?_, fun i e => by subst e; simp⟩ f fun i e => by subst e; simp
  simp only [Option.some.injEq, Addr.mk.injEq] at e
  exact e.1.symm
/-- One heap. -/
theorem q_new (q : Things W w ts) (gr : G17 W) (j : Nat) (hj : ts[j]? = some (Both (Ac a m k M) (Lv ad l))) (ms : MsOk M) (h1 : 1 ≤ k) (h2 : k ≤ 32) (hl : l.length ≤ 17592186044416) : Calls Tryz.prog 36 #[.pointer (some ⟨a, 0, none⟩), .pointer (some ⟨m, 0, none⟩), .slice ad l.length cap] w fun e w' => ∃ h t, e = .returned (.tuple #[.pointer (some ⟨h, 0, none⟩), .int .i64 0]) ∧ Things W w' (ts.set j (Hs a m h t k M ⟨l, [], [], fun _ => []⟩)) := by
  obtain ⟨Z, p1, p0, p2⟩ := q.turn j hj
  exact (y_new p1 (gr.fr q.nw.fr) (apart_of gr fun i hi => (p0 i hi).1) ms h1 h2 hl).mono fun e w' ⟨h, t, U', he, r, f⟩ => ⟨h, t, he, p2 _ w' U' (Hs.good ..) r f⟩
theorem q_malloc (q : Things W w ts) (gr : G17 W) (j : Nat) (hj : ts[j]? = some (Hs a m h t k M H)) (c : Hc k M H) {n : Int} (hn : I64 n) : Calls Tryz.prog 8 #[.pointer (some ⟨h, 0, none⟩), .int .i64 n] w fun e w' => e = .returned (.tuple #[.int .i64 (hM k M H n).2.2.1, .int .i64 (hM k M H n).2.2.2]) ∧ Things W w' (ts.set j (Hs a m h t k (hM k M H n).1 (hM k M H n).2.1)) :=
  q.liftA gr j hj (Hs.good ..) fun _ p u => y_malloc p (gr.fr q.nw.fr) u c hn
theorem q_free (q : Things W w ts) (gr : G17 W) (j : Nat) (hj : ts[j]? = some (Hs a m h t k M H)) (c : Hc k M H) {x kd s i E : Int} (hf : FindR x kd s i E) (hx : I64 x) : Calls Tryz.prog 19 #[.pointer (some ⟨h, 0, none⟩), .int .i64 x] w fun e w' => e = .returned (.int .i64 (hFr M H kd s i E).2.2) ∧ Things W w' (ts.set j (Hs a m h t k (hFr M H kd s i E).1 (hFr M H kd s i E).2.1)) :=
  q.liftA gr j hj (Hs.good ..) fun _ p u => y_free p (gr.fr q.nw.fr) u c hf hx
theorem q_usable (q : Things W w ts) (gr : G17 W) (j : Nat) (hj : ts[j]? = some (Hs a m h t k M H)) (c : Hc k M H) {x kd s i E : Int} (hf : FindR x kd s i E) (hx : I64 x) : Calls Tryz.prog 9 #[.pointer (some ⟨h, 0, none⟩), .int .i64 x] w fun e w' => e = .returned (.tuple #[.int .i64 (hUs H kd s i E).1, .int .i64 (hUs H kd s i E).2]) ∧ Things W w' ts :=
  q.ask j hj fun _ p => y_usable p (gr.fr q.nw.fr) c hf hx
theorem q_pages (q : Things W w ts) (j : Nat) (hj : ts[j]? = some (Hs a m h t k M H)) (c : Hc k M H) : Calls Tryz.prog 22 #[.pointer (some ⟨h, 0, none⟩)] w fun e w' => e = .returned (.int .i64 H.T.length) ∧ Things W w' ts :=
  q.ask j hj fun _ p => y_pages p c
end
/-- One heap that holds nothing, over an arena of n pages. -/
theorem hc_new {n k : Nat} (hc : Cq.Cfg n k) {l : List Int} (hl : l.length ≤ 17592186044416) : Hc k ⟨List.replicate n false, List.replicate (n * 512) 0, []⟩ ⟨l, [], [], fun _ => []⟩ := by
  obtain ⟨c1, c2, c3, c4, _⟩ := hc
  refine ⟨⟨⟨TbOk.none, fun y hy => (by cases hy)⟩, List.nodup_nil, fun y hy => (by cases hy), fun y hy => (by cases hy), fun y hy => (by cases hy), fun y hy => (by cases hy), fun c => ⟨List.nodup_nil, fun v => ⟨fun e => (by cases e), fun ⟨y, hy, _⟩ => (by cases hy)⟩⟩⟩, ⟨by simp, by simp; omega, fun q hq _ => ?_⟩, by omega, by omega, by simp, hl⟩
  simp only [List.length_replicate] at hq
  unfold win nz
  rw [List.drop_replicate, List.take_replicate]
  congr 1
  omega
theorem Hc.malloc {k : Nat} {M : Ms} {H : Hp} (c : Hc k M H) (n : Int) (hs : M.ss.length ≤ 800000) : Hc k (hM k M H n).1 (hM k M H n).2.1 ∧ (hM k M H n).1.ss.length ≤ M.ss.length + 2 := by
  obtain ⟨l, lW, ls⟩ := (hM_ways (fun _ => id) c.ok c.ms n).ok c.ok c.ms
  refine ⟨⟨?_, l.ms, c.k1, c.k2, by omega, by rw [lW]; exact c.W⟩, ls⟩
  rw [lW]; exact l.ok
theorem Hc.free {k : Nat} {M : Ms} {H : Hp} (c : Hc k M H) (kd s i E : Int) (hs : M.ss.length ≤ 800000) : Hc k (hFr M H kd s i E).1 (hFr M H kd s i E).2.1 ∧ (hFr M H kd s i E).1.ss.length ≤ M.ss.length + 18 := by
  obtain ⟨l, lW, ls⟩ := hFr_ok c.ok c.ms kd s i E
  refine ⟨⟨?_, l.ms, c.k1, c.k2, by omega, by rw [lW]; exact c.W⟩, ls⟩
  rw [lW]; exact l.ok
end Go.Proofs.YtejbdbjccjkfdaaGreatDoor

namespace Go.Proofs.YtejbdbjccjkfdaaGreatDoor
open Go.RowKit
open An

def m0 : Ms := ⟨List.replicate 8 false, List.replicate (8 * 512) 0, []⟩
def h0 : Hp := ⟨[0], [], [], fun _ => []⟩
def a1 : Ms × Hp × Int × Int := hM 1 m0 h0 10
def a2 : Ms × Hp × Int × Int := hM 1 a1.1 a1.2.1 10
def a3 : Ms × Hp × Int × Int := hM 1 a2.1 a2.2.1 600
def a4 : Ms × Hp × Int := hFr a3.1 a3.2.1 0 0 0 0
def a5 : Ms × Hp × Int := hFr a4.1 a4.2.1 0 0 1 0
theorem a1_is : a1.2.2.1 = 131072 := by decide +kernel
theorem a2_is : a2.2.2.1 = 131088 := by decide +kernel
theorem a3_is : a3.2.2.1 = 1310720 ∧ a3.2.1.T.length = 3 := by decide +kernel
theorem a4_is : a4.2.2 = 0 := by decide +kernel
theorem a5_is : a5.2.2 = 0 ∧ a5.2.1.T.length = 2 ∧ (hUs a5.2.1 0 0 0 0).2 = 13 := by decide +kernel
theorem c0 : Hc 1 m0 h0 := hc_new (n := 8) (k := 1) (by decide) (by simp)
theorem c1 : Hc 1 a1.1 a1.2.1 ∧ a1.1.ss.length ≤ 2 := c0.malloc 10 (Nat.zero_le _)
theorem c2 : Hc 1 a2.1 a2.2.1 ∧ a2.1.ss.length ≤ 4 := by have h := c1; have := h.1.malloc 10 (by omega); exact ⟨this.1, Nat.le_trans this.2 (by omega)⟩
theorem c3 : Hc 1 a3.1 a3.2.1 ∧ a3.1.ss.length ≤ 6 := by have h := c2; have := h.1.malloc 600 (by omega); exact ⟨this.1, Nat.le_trans this.2 (by omega)⟩
theorem c4 : Hc 1 a4.1 a4.2.1 ∧ a4.1.ss.length ≤ 24 := by have h := c3; have := h.1.free 0 0 0 0 (by omega); exact ⟨this.1, Nat.le_trans this.2 (by omega)⟩
theorem c5 : Hc 1 a5.1 a5.2.1 := by have h := c4; exact (h.1.free 0 0 1 0 (by omega)).1
set_option maxRecDepth 20000 in
set_option maxHeartbeats 1000000 in
theorem awake_any {W w : World} (h : Nw W w) (gr : G17 W) : Calls Tryz.prog 6 #[] w fun e w' => e = .returned (.bool true) ∧ Nw W w' := by
  have HT := hid (Things.start h)
  have H0 : Hid (∀ w, Things W w [] → Calls Tryz.prog 34 #[.int .i64 4096] w fun e w' => ∃ a, e = .returned (.tuple #[.pointer (some ⟨a, 0, none⟩), .int .i64 0]) ∧ Things W w' [Am 144 a m0.bs m0.ss]) := fun w h => q_arena h 4096 (by omega)
  have H1 : Hid (∀ w a, Things W w [Am 144 a m0.bs m0.ss] → Calls Tryz.prog 32 #[.agg #[.int .i64 8, .int .i64 1]] w fun e w' => ∃ m, e = .returned (.tuple #[.pointer (some ⟨m, 0, none⟩), .int .i64 0]) ∧ Things W w' [Ac a m 1 m0]) := fun w a h => (q_map h gr (n := 8) (k := 1) (by decide)).mono fun e w' ⟨m, he, h2⟩ => ⟨m, he, Things.join (ts := [Am 144 a m0.bs m0.ss]) h2 0 rfl⟩
  have H2 : Hid (∀ w a m, Things W w [Ac a m 1 m0] → Calls Tryz.prog 36 #[.pointer (some ⟨a, 0, none⟩), .pointer (some ⟨m, 0, none⟩), .slice (some ⟨w.heap.size, 0, none⟩) 1 1] (w.alloc (.cells #[.int .i64 0] 3)) fun e w' => ∃ h t, e = .returned (.tuple #[.pointer (some ⟨h, 0, none⟩), .int .i64 0]) ∧ Things W w' [Hs a m h t 1 m0 h0]) := fun w a m h => by
    have q := Things.list h [0] (T := 3) (by simp)
    have q := Things.join (ts := [Ac a m 1 m0]) q 0 rfl
    exact q_new q gr 0 rfl c0.ms (by omega) (by omega) (l := [0]) (by simp)
  have H3 : Hid (∀ w a m h t, Things W w [Hs a m h t 1 m0 h0] → Calls Tryz.prog 8 #[.pointer (some ⟨h, 0, none⟩), .int .i64 10] w fun e w' => (∃ y, e = .returned (.tuple #[.int .i64 131072, .int .i64 y])) ∧ Things W w' [Hs a m h t 1 a1.1 a1.2.1]) := fun w a m h t q => (q_malloc q gr 0 rfl c0 (n := 10) (by decide)).mono fun e w' ⟨he, h2⟩ => ⟨⟨_, he.trans (by rw [show (hM 1 m0 h0 10).2.2.1 = 131072 from a1_is])⟩, h2⟩
  have H4 : Hid (∀ w a m h t, Things W w [Hs a m h t 1 a1.1 a1.2.1] → Calls Tryz.prog 8 #[.pointer (some ⟨h, 0, none⟩), .int .i64 10] w fun e w' => (∃ y, e = .returned (.tuple #[.int .i64 131088, .int .i64 y])) ∧ Things W w' [Hs a m h t 1 a2.1 a2.2.1]) := fun w a m h t q => (q_malloc q gr 0 rfl c1.1 (n := 10) (by decide)).mono fun e w' ⟨he, h2⟩ => ⟨⟨_, he.trans (by rw [show (hM 1 a1.1 a1.2.1 10).2.2.1 = 131088 from a2_is])⟩, h2⟩
  have H5 : Hid (∀ w a m h t, Things W w [Hs a m h t 1 a2.1 a2.2.1] → Calls Tryz.prog 8 #[.pointer (some ⟨h, 0, none⟩), .int .i64 600] w fun e w' => (∃ y, e = .returned (.tuple #[.int .i64 1310720, .int .i64 y])) ∧ Things W w' [Hs a m h t 1 a3.1 a3.2.1]) := fun w a m h t q => (q_malloc q gr 0 rfl c2.1 (n := 600) (by decide)).mono fun e w' ⟨he, h2⟩ => ⟨⟨_, he.trans (by rw [show (hM 1 a2.1 a2.2.1 600).2.2.1 = 1310720 from a3_is.1])⟩, h2⟩
  have H6 : Hid (∀ w a m h t, Things W w [Hs a m h t 1 a3.1 a3.2.1] → Calls Tryz.prog 22 #[.pointer (some ⟨h, 0, none⟩)] w fun e w' => e = .returned (.int .i64 3) ∧ Things W w' [Hs a m h t 1 a3.1 a3.2.1]) := fun w a m h t q => (q_pages q 0 rfl c3.1).mono fun e w' ⟨he, h2⟩ => ⟨he.trans (by rw [a3_is.2]; rfl), h2⟩
  have H7 : Hid (∀ w a m h t, Things W w [Hs a m h t 1 a3.1 a3.2.1] → Calls Tryz.prog 19 #[.pointer (some ⟨h, 0, none⟩), .int .i64 131072] w fun e w' => e = .returned (.int .i64 0) ∧ Things W w' [Hs a m h t 1 a4.1 a4.2.1]) := fun w a m h t q => (q_free q gr 0 rfl c3.1 (x := 131072) (kd := 0) (s := 0) (i := 0) (E := 0) (.inl ⟨rfl, by decide, by decide⟩) (by decide)).mono fun e w' ⟨he, h2⟩ => ⟨he.trans (by rw [show (hFr a3.1 a3.2.1 0 0 0 0).2.2 = 0 from a4_is]), h2⟩
  have H8 : Hid (∀ w a m h t, Things W w [Hs a m h t 1 a4.1 a4.2.1] → Calls Tryz.prog 19 #[.pointer (some ⟨h, 0, none⟩), .int .i64 131088] w fun e w' => e = .returned (.int .i64 0) ∧ Things W w' [Hs a m h t 1 a5.1 a5.2.1]) := fun w a m h t q => (q_free q gr 0 rfl c4.1 (x := 131088) (kd := 0) (s := 0) (i := 1) (E := 0) (.inl ⟨rfl, by decide, by decide⟩) (by decide)).mono fun e w' ⟨he, h2⟩ => ⟨he.trans (by rw [show (hFr a4.1 a4.2.1 0 0 1 0).2.2 = 0 from a5_is.1]), h2⟩
  have H9 : Hid (∀ w a m h t, Things W w [Hs a m h t 1 a5.1 a5.2.1] → Calls Tryz.prog 9 #[.pointer (some ⟨h, 0, none⟩), .int .i64 131072] w fun e w' => (∃ y, e = .returned (.tuple #[.int .i64 y, .int .i64 13])) ∧ Things W w' [Hs a m h t 1 a5.1 a5.2.1]) := fun w a m h t q => (q_usable q gr 0 rfl c5 (x := 131072) (kd := 0) (s := 0) (i := 0) (E := 0) (.inl ⟨rfl, by decide, by decide⟩) (by decide)).mono fun e w' ⟨he, h2⟩ => ⟨⟨_, he.trans (by rw [a5_is.2.2])⟩, h2⟩
  have HA : Hid (∀ w a m h t, Things W w [Hs a m h t 1 a5.1 a5.2.1] → Calls Tryz.prog 22 #[.pointer (some ⟨h, 0, none⟩)] w fun e w' => e = .returned (.int .i64 2) ∧ Things W w' [Hs a m h t 1 a5.1 a5.2.1]) := fun w a m h t q => (q_pages q 0 rfl c5).mono fun e w' ⟨he, h2⟩ => ⟨he.trans (by rw [a5_is.2.1]; rfl), h2⟩
  have HN : Hid (∀ w a m h t, Things W w [Hs a m h t 1 a5.1 a5.2.1] → Nw W w) := fun w a m h t q => q.nw
  clear h gr
  go_enter Tryz.func6, Tryz.ntmps6
  go_wp2_with fail
  refine (H0.out _ HT.out).mono ?_
  rintro e w1 ⟨a, rfl, h1⟩
  have T1 := hid h1
  clear h1 HT H0
  go_wp2_with fail
  refine (H1.out _ _ T1.out).mono ?_
  rintro e w2 ⟨m, rfl, h2⟩
  have T2 := hid h2
  clear h2 T1 H1
  go_wp2_with fail
  refine (H2.out _ _ _ T2.out).mono ?_
  rintro e w3 ⟨h, t, rfl, h3⟩
  have T3 := hid h3
  clear h3 T2 H2
  go_wp2_with fail
  refine (H3.out _ _ _ _ _ T3.out).mono ?_
  rintro e w4 ⟨⟨y, rfl⟩, h4⟩
  have T4 := hid h4
  clear h4 T3 H3
  go_wp2_with fail
  refine (H4.out _ _ _ _ _ T4.out).mono ?_
  rintro e w5 ⟨⟨y5, rfl⟩, h5⟩
  have T5 := hid h5
  clear h5 T4 H4
  go_wp2_with fail
  refine (H5.out _ _ _ _ _ T5.out).mono ?_
  rintro e w6 ⟨⟨y6, rfl⟩, h6⟩
  have T6 := hid h6
  clear h6 T5 H5
  go_wp2_with fail
  refine (H6.out _ _ _ _ _ T6.out).mono ?_
  rintro e w7 ⟨rfl, h7⟩
  have T7 := hid h7
  clear h7 T6 H6
  go_wp2_with fail
  refine (H7.out _ _ _ _ _ T7.out).mono ?_
  rintro e w8 ⟨rfl, h8⟩
  have T8 := hid h8
  clear h8 T7 H7
  go_wp2_with fail
  refine (H8.out _ _ _ _ _ T8.out).mono ?_
  rintro e w9 ⟨rfl, h9⟩
  have T9 := hid h9
  clear h9 T8 H8
  go_wp2_with fail
  refine (H9.out _ _ _ _ _ T9.out).mono ?_
  rintro e w10 ⟨⟨y10, rfl⟩, h10⟩
  have T10 := hid h10
  clear h10 T9 H9
  go_wp2_with fail
  refine (HA.out _ _ _ _ _ T10.out).mono ?_
  rintro e w11 ⟨rfl, h11⟩
  have T11 := hid h11
  clear h11 T10 HA
  go_wp2
  go_ret
  exact ⟨by simp, HN.out _ _ _ _ _ T11.out⟩
end Go.Proofs.YtejbdbjccjkfdaaGreatDoor
