/-
  In every order of calls chains answer as the document says: the walk of the law ChainPlays.
-/
import Derived.Test.YtjgkcaibapffhaaChDone
import Derived.Deep.RegionHeld3
namespace Go.Proofs.Ytjgkcaibapffhaa
open Go.RowKit
open An

/-- In the middle of a region one may go on with a condition that says more. -/
theorem held_switch {P : Program} {md : Region.Mode} {ops : Array Oper} {Q : Exit → Act → World → Prop} {S S2 : World → Prop} (hs : ∀ w, S2 w → S w) : ∀ (fuel : Nat) (listed : Array Bool) (a : Act) (w : World), wpAnyH P md ops Q S2 fuel listed a w → wpAnyH P md ops Q S fuel listed a w
  | 0, _, _, _, h => h
  | fuel + 1, _, _, _, h => ⟨h.1, fun i hi => wpOp_mono (fun a' w' h' => ⟨hs w' h'.1, held_switch hs fuel _ a' w' h'.2⟩) (h.2 i hi)⟩
/-- One thing, and a block beside it. -/
def Also (X : World → (Nat → Prop) → Prop) (B : Nat) (ob : Obj) (w : World) (Z : Nat → Prop) : Prop := X w Z ∧ Blk B ob w Z
theorem Also.good {X : World → (Nat → Prop) → Prop} (h : Good X) (B : Nat) (ob : Obj) : Good (Also X B ob) :=
  ⟨fun k f hs => ⟨h.carry k.1 f hs, (Blk.good B ob).carry k.2 f hs⟩, fun k h1 h2 => ⟨h.mono k.1 h1 h2, (Blk.good B ob).mono k.2 h1 h2⟩⟩
theorem Things.goodAt {W w : World} {ts : List (World → (Nat → Prop) → Prop)} (h : Things W w ts) (j : Nat) {X : World → (Nat → Prop) → Prop} (hj : ts[j]? = some X) : Good X := by
  obtain ⟨o, _, _, h3, _⟩ := h
  exact h3 X (List.mem_of_getElem? hj)
theorem Things.also {W w : World} {ts : List (World → (Nat → Prop) → Prop)} (h : Things W w ts) (j : Nat) {X : World → (Nat → Prop) → Prop} (hj : ts[j]? = some X) (ob : Obj) : Things W (w.alloc ob) (ts.set j (Also X w.heap.size ob)) := by
  have hg := h.goodAt j hj
  obtain ⟨U, h1, h0, h2⟩ := h.turn j hj
  have f : Fr (fun _ => False) w (w.alloc ob) := (Fr.refl _ _).alloc ob
  have hlt : ∀ i, (U i ∨ i = w.heap.size) → i < (w.alloc ob).heap.size := fun i hi => by
    rw [World.size_alloc]
    rcases hi with hi | rfl
    · have := (h0 i hi).2; omega
    · omega
  refine h2 (Also X w.heap.size ob) (w.alloc ob) (fun i => U i ∨ i = w.heap.size) (Also.good hg _ _) ⟨hg.mono (hg.kept h1 f) (fun _ => .inl) hlt, heap_alloc_new w ob, .inr rfl, hlt⟩ ⟨fun _ => .inl, fun i hi => ?_, hlt, f.mono fun _ _ e => e.elim⟩
  rcases hi with hi | rfl
  · exact .inl hi
  · exact .inr (Nat.le_refl _)
theorem Things.also_cells {W w : World} {ts : List (World → (Nat → Prop) → Prop)} {X : World → (Nat → Prop) → Prop} {B : Nat} {ob : Obj} (h : Things W w (Also X B ob :: ts)) : w.heap[B]? = some ob := by
  obtain ⟨U, h1, _⟩ := h.get 0 rfl
  exact h1.2.1
/-- A row of touches of the call's own. -/
def Spn (base : Nat) (y : Value) (ss : List Sp) (w : World) (Z : Nat → Prop) : Prop := w.ownsRow base 67 3 y ss.length (spcs ss) ∧ (∀ g, y.ownBlock = some g → Z g) ∧ ∀ i, Z i → i < w.heap.size
theorem Spn.good (base : Nat) (y : Value) (ss : List Sp) : Good (Spn base y ss) :=
  ⟨fun h f hs => ⟨row_turn h.1 f fun x e => hs x (h.2.1 x e), h.2.1, fun i hi => Nat.lt_of_lt_of_le (h.2.2 i hi) f.size⟩, fun h h1 h2 => ⟨h.1, fun g e => h1 g (h.2.1 g e), h2⟩⟩
theorem g_touched {W w : World} {ts : List (World → (Nat → Prop) → Prop)} {a : Nat} {bs : List UInt8} {ss : List Sp} {L : List (Nat × Ck)} (h : Things W w ts) (j : Nat) (hj : ts[j]? = some (Pc a bs ss L)) (hk : ss.length ≤ 1000002) : Calls Try.prog 12 #[.pointer (some ⟨a, 0, none⟩)] w fun e w' => ∃ base ad cap, e = .returned (.slice ad ss.length cap) ∧ Things W w' (ts ++ [Spn base (.slice ad ss.length cap) ss]) := by
  obtain ⟨U, h1, _⟩ := h.get j hj
  refine (k_touched h1 hk).mono fun e w' ⟨ad, cap, he, ho, f⟩ => ⟨w.heap.size, ad, cap, he, h.more (Z := fun g => (Value.slice ad ss.length cap).ownBlock = some g) (Spn.good _ _ _) ⟨ho, fun _ => id, fun i hi => (ho.lt i hi).2⟩ f fun i hi => ho.lt i hi⟩
theorem Things.spans {W w : World} {ts : List (World → (Nat → Prop) → Prop)} (h : Things W w ts) (j : Nat) {base : Nat} {y : Value} {ss : List Sp} (hj : ts[j]? = some (Spn base y ss)) : w.ownsRow base 67 3 y ss.length (spcs ss) := by
  obtain ⟨U, h1, _⟩ := h.get j hj
  exact h1.1
/-- Any call. -/
theorem done_any {W w : World} {X : World → (Nat → Prop) → Prop} {P a r c0 c1 x0 x1 : Nat} {bs : List UInt8} {ss : List Sp} {k0 k1 : Ck} (h : PlayS W w X P a r c0 c1 x0 x1 bs ss k0 k1) (hp : k1.per = k0.per) (hk : ss.length ≤ 800000) (kd x v : Int) (tw : Bool) (hx : x ≤ 9223372036854775807) (hv : 0 ≤ v ∧ v ≤ 18446744073709551615) : Calls Try.prog 10 #[.pointer (some ⟨P, 0, none⟩), .agg #[.int .i64 kd, .int .i64 x, .bool tw, .int .u64 v]] w fun e w' => e = .returned (.bool true) ∧ After W w' X P a r c0 c1 x0 x1 bs.length (ss.length + 64) := by
  by_cases h1 : kd = 1
  · subst h1
    cases tw
    · exact done_1_0 h hp hk x v
    · exact done_1_1 h hp hk x v
  by_cases h2 : kd = 2
  · subst h2
    cases tw
    · exact done_2_0 h hp hk x v
    · exact done_2_1 h hp hk x v
  by_cases h3 : kd = 3
  · subst h3
    cases tw
    · exact done_3_0 h hp hk x v
    · exact done_3_1 h hp hk x v
  by_cases h4 : kd = 4
  · subst h4
    cases tw
    · exact done_4_0 h hp hk x v
    · exact done_4_1 h hp hk x v
  by_cases h5 : kd = 5
  · subst h5
    cases tw
    · exact done_5_0 h hp hk x v hx
    · exact done_5_1 h hp hk x v hx
  by_cases h6 : kd = 6
  · subst h6
    cases tw
    · exact done_6_0 h hp hk x v hx hv
    · exact done_6_1 h hp hk x v hx hv
  have hn : ∀ i : Int, 1 ≤ i → i ≤ 6 → kd ≠ i := fun i hi1 hi2 e => by omega
  cases tw
  · exact done_n_0 h hp hk hn x v
  · exact done_n_1 h hp hk hn x v
/-- Of things side by side one is the document's: where its bytes and touches lie, and its chains. -/
theorem Things.ref {W w : World} {ts : List (World → (Nat → Prop) → Prop)} (h : Things W w ts) (j : Nat) {r : Nat} {bs : List UInt8} {ss : List Sp} {R : List (Nat × Ck)} (hj : ts[j]? = some (Rf r bs ss R)) : ∃ B b v, Ar w 50 B r b bs v ss := by
  obtain ⟨U, h1, _⟩ := h.get j hj
  obtain ⟨Z, ⟨B, b, v, h2, _⟩, _⟩ := h1
  exact ⟨B, b, v, h2⟩
theorem Things.refHead {W w : World} {ts : List (World → (Nat → Prop) → Prop)} (h : Things W w ts) (j : Nat) {r x : Nat} {k : Ck} {bs : List UInt8} {ss : List Sp} {R : List (Nat × Ck)} (hj : ts[j]? = some (Rf r bs ss R)) (i : Nat) (hi : R[i]? = some (x, k)) : w.cell? ⟨x, 4, none⟩ = some (.int .i64 ((k.hd : Int) - 1)) := by
  obtain ⟨U, h1, _⟩ := h.get j hj
  obtain ⟨Z, _, q, _⟩ := h1.one Rch.chain i hi
  exact q.c4
set_option maxRecDepth 20000 in
set_option maxHeartbeats 4000000 in
theorem plays_walk (z b0 b1 u p : Int) (hb : b0 ≤ 9223372036854775807 ∧ b1 ≤ 9223372036854775807) (sv : Value) (w : World) (h : ∃ ad cap l, sv = .slice ad (List.length l) cap ∧ OpsAt w ad l ∧ l.length ≤ maxLen) : Calls Try.prog 3 #[.int .i64 z, .agg #[.int .i64 b0, .int .i64 b1], .int .i64 u, .int .i64 p, sv] w fun e w' => e = .returned (.bool true) ∧ Fr (fun _ => False) w w' := by
  obtain ⟨ad, cap, l, rfl, hops, hmax⟩ := h
  obtain ⟨N, hN, n1, n2⟩ := modU z 2048 (by omega)
  have n1 : Int.tmod (IntKind.u64.wrap z) 2048 = (N : Int) := n1
  have n2 : IntKind.u64.wrap z % 2048 = (N : Int) := n2
  have n3 := wrapI (N : Int) (by omega) (by omega)
  have HM : Hid (∀ w0, Nw w w0 → Calls Try.prog 8 #[.int .i64 N, .agg #[.int .i64 b0, .int .i64 b1], .int .i64 u, .int .i64 p] w0 fun e w' => ∃ Bb P a r o0 o1 r0 r1, e = .returned (.tuple #[.pointer (some ⟨P, 0, none⟩), .bool true]) ∧ MadeS w w' Bb P a r N b0 b1 u p o0 o1 r0 r1 ∧ o0.isSome = r0.isSome ∧ o1.isSome = r1.isSome) := fun w0 h => made_any h N (by omega) b0 b1 u p hb
  have HA : Hid (∀ w0 ts, Things w w0 ts → Calls Try.prog 9 #[] w0 fun e w' => e = .returned (.bool true) ∧ Things w w' ts) := fun w0 ts h => awake_t h
  have HOP := hid hops
  clear hops hb
  go_enter Try.func3, Try.ntmps3
  go_wp2_with fail
  refine (HM.out _ ((Nw.start w).alloc _)).mono ?_
  rintro e w1 ⟨Bb, P, a, r, o0, o1, r0, r1, rfl, h1, hs0, hs1⟩
  have T1 := hid h1
  clear h1 HM
  go_wp2_with fail
  refine (HA.out _ _ T1.out).mono ?_
  rintro e w2 ⟨rfl, h2⟩
  have T2 : Hid (MadeS w w2 Bb P a r N b0 b1 u p o0 o1 r0 r1) := h2
  clear h2 T1
  by_cases hl : 400 < l.length
  · have hl' : 400 < (l.length : Int) := by omega
    go_wp2_with fail
    refine (HA.out _ _ T2.out).mono ?_
    rintro e w3 ⟨rfl, h3⟩
    have T3 := hid (Things.nw h3)
    clear h3 T2
    go_wp2
    go_ret
    exact ⟨by simp, T3.out.fr⟩
  · have hl' : (l.length : Int) ≤ 400 := by omega
    obtain ⟨⟨q0, q1, q2⟩, ⟨q3, q4, q5⟩, _⟩ := pcell ((show Things _ _ _ from T2.out).cells 1 rfl)
    clear HA hl
    cases o0 with
    | none =>
      change w2.cell? ⟨P, 1, none⟩ = some (.pointer none) at q1
      clear q2
      go_wp2
      go_ret
      exact ⟨by simp, (Things.nw T2.out).fr⟩
    | some c0 =>
      change w2.cell? ⟨P, 1, none⟩ = some (.pointer (some ⟨c0, 0, none⟩)) at q1
      cases o1 with
      | none =>
        change w2.cell? ⟨P, 2, none⟩ = some (.pointer none) at q2
        go_wp2
        go_ret
        exact ⟨by simp, (Things.nw T2.out).fr⟩
      | some c1 =>
        change w2.cell? ⟨P, 2, none⟩ = some (.pointer (some ⟨c1, 0, none⟩)) at q2
        obtain ⟨x0, rfl⟩ : ∃ x, r0 = some x := by cases r0 with | none => simp at hs0 | some x => exact ⟨x, rfl⟩
        obtain ⟨x1, rfl⟩ : ∃ x, r1 = some x := by cases r1 with | none => simp at hs1 | some x => exact ⟨x, rfl⟩
        have T3 : Hid (After w w2 (Blk Bb (.cells #[.int .i64 b0, .int .i64 b1] 22 (0, 0))) P a r c0 c1 x0 x1 N 0) := ⟨List.replicate N 0, [], ⟨b0.toNat, u.toNat, p.toNat, 0⟩, ⟨b1.toNat, u.toNat, p.toNat, 0⟩, List.length_replicate, Nat.le_refl _, rfl, T2.out⟩
        clear q0 q3 q4 q5 T2 hs0 hs1
        generalize Blk Bb (.cells #[.int .i64 b0, .int .i64 b1] 22 (0, 0)) = X at *
        have HPC : Hid (∀ w0 X0 bs ss k0 k1 kd x v tw, k1.per = k0.per → ss.length ≤ 800000 → x ≤ 9223372036854775807 → (0 ≤ v ∧ v ≤ 18446744073709551615) → PlayS w w0 X0 P a r c0 c1 x0 x1 bs ss k0 k1 → Calls Try.prog 10 #[.pointer (some ⟨P, 0, none⟩), .agg #[.int .i64 kd, .int .i64 x, .bool tw, .int .u64 v]] w0 fun e w' => e = .returned (.bool true) ∧ After w w' X0 P a r c0 c1 x0 x1 bs.length (ss.length + 64)) := fun w0 X0 bs ss k0 k1 kd x v tw hp hk hx hv h => done_any h hp hk kd x v tw hx hv
        go_wp2
        clear q1 q2
        go_loopw [61] (fun i wr => ∃ (j : Nat) (X : World → (Nat → Prop) → Prop), j ≤ l.length ∧ i = .int .i64 j ∧ Hid (After w wr X P a r c0 c1 x0 x1 N (64 * j))) (fun i _ => l.length - (intOf i).toNat)
        case atStart => exact ⟨0, X, by omega, rfl, T3⟩
        case round =>
          obtain ⟨j, X, hj, rfl, HA⟩ := hrel
          clear T3
          obtain ⟨bs, ss, k0, k1, hb, hs, hp, ht⟩ := HA.out
          have T := hid ht
          have HBS := hid hb
          clear ht hb HA
          by_cases hlt : j < l.length
          · obtain ⟨bb, off, rfl, hbb, hc1, hc2, hc3, hc4, hB⟩ := HOP.out.fr (Things.nw T.out).fr j hlt
            generalize hk : l[j] = o at hc1 hc2 hc3 hc4 hB
            obtain ⟨kind, x, two, v⟩ := o
            simp only at hc1 hc2 hc3 hc4 hB
            have T0 : Hid (PlayS w (wr.alloc (.cells #[.int .i64 kind, .int .i64 x, .bool two, .int .u64 v] 39)) (Also X wr.heap.size (.cells #[.int .i64 kind, .int .i64 x, .bool two, .int .u64 v] 39)) P a r c0 c1 x0 x1 bs ss k0 k1) := Things.also T.out 0 rfl _
            have HD : Hid (∀ w0, PlayS w w0 (Also X wr.heap.size (.cells #[.int .i64 kind, .int .i64 x, .bool two, .int .u64 v] 39)) P a r c0 c1 x0 x1 bs ss k0 k1 → Calls Try.prog 10 #[.pointer (some ⟨P, 0, none⟩), .agg #[.int .i64 kind, .int .i64 x, .bool two, .int .u64 v]] w0 fun e w' => e = .returned (.bool true) ∧ After w w' (Also X wr.heap.size (.cells #[.int .i64 kind, .int .i64 x, .bool two, .int .u64 v] 39)) P a r c0 c1 x0 x1 N (64 * (j + 1))) := fun w0 h => (HPC.out w0 _ bs ss k0 k1 kind x v two hp (by omega) hB.2.1.2 hB.2.2 h).mono fun e w' ⟨he, bs', ss', k0', k1', g1, g2, g3, g4⟩ => ⟨he, bs', ss', k0', k1', by rw [g1]; exact HBS.out, by omega, g3, g4⟩
            obtain ⟨o0, o1, o2, o3⟩ := ocell (Things.also_cells T0.out)
            clear hk HOP T HPC hB hs hp HBS
            go_wp2_with fail
            refine wp_region_held_drew (S := fun w' => w'.cell? ⟨wr.heap.size, 0, none⟩ = some (.int .i64 kind) ∧ w'.cell? ⟨wr.heap.size, 1, none⟩ = some (.int .i64 x) ∧ w'.cell? ⟨wr.heap.size, 2, none⟩ = some (.bool two) ∧ w'.cell? ⟨wr.heap.size, 3, none⟩ = some (.int .u64 v)) (by kernel_rfl) ?_ (fun hHeld => ?_)
            · go_keep
            refine wpAnyH_take (i := 0) (oi := ⟨some 65, _, _, _, _, _⟩) (v := ?v1) rfl (by kernel_rfl) (by kernel_rfl) (by kernel_rfl) (fun _ _ _ h => h) (Or.inl ⟨by rfl, ?hy1⟩) (by assumption) ?rest1
            case hy1 => (intro w hSw; (try dsimp only at hSw); go_simp; try with_reducible rfl)
            simp only [Act.put, List.setIfInBounds_toArray, List.set_cons_zero, List.set_cons_succ]
            refine wpAnyH_take (i := 1) (oi := ⟨some 66, _, _, _, _, _⟩) (v := ?v2) rfl (by kernel_rfl) (by kernel_rfl) (by kernel_rfl) (fun _ _ _ h => h) (Or.inl ⟨by rfl, ?hy2⟩) (by assumption) ?rest2
            case hy2 => (intro w hSw; (try dsimp only at hSw); go_simp; try with_reducible rfl)
            simp only [Act.put, List.setIfInBounds_toArray, List.set_cons_zero, List.set_cons_succ]
            refine wpAnyH_ready (rs := [2]) (by kernel_rfl) (by simp) ?_
            refine AllReadyH.cons (o := ⟨some 67, _, _, _, _, _⟩) rfl (fun K hK => ?_) AllReadyH.nil
            go_simp
            go_wp2_with (go_at_call 10; refine (HD.out _ (Things.kept T0.out (Fr.refl _ _).drew)).mono ?_; rintro e w5 ⟨rfl, bs5, ss5, m0, m1, hb5, hs5, hp5, h5⟩; have T5 := hid h5; obtain ⟨p50, p51, p52, p53⟩ := ocell (Things.also_cells h5); clear h5)
            refine hK.out _ _ ?_ (fun hHeld => ?_)
            · exact ⟨p50, p51, p52, p53⟩
            clear hK K
            obtain ⟨z0, hz0⟩ : ∃ z : Int, z = (m0.hd : Int) - 1 := ⟨_, rfl⟩
            obtain ⟨z1, hz1⟩ : ∃ z : Int, z = (m1.hd : Int) - 1 := ⟨_, rfl⟩
            have HZ0 : Hid (∀ w0, PlayS w w0 (Also X wr.heap.size (.cells #[.int .i64 kind, .int .i64 x, .bool two, .int .u64 v] 39)) P a r c0 c1 x0 x1 bs5 ss5 m0 m1 → w0.cell? ⟨x0, 4, none⟩ = some (.int .i64 z0)) := fun w0 h => by rw [hz0]; exact Things.refHead h 3 rfl 0 rfl
            have HZ1 : Hid (∀ w0, PlayS w w0 (Also X wr.heap.size (.cells #[.int .i64 kind, .int .i64 x, .bool two, .int .u64 v] 39)) P a r c0 c1 x0 x1 bs5 ss5 m0 m1 → w0.cell? ⟨x1, 4, none⟩ = some (.int .i64 z1)) := fun w0 h => by rw [hz1]; exact Things.refHead h 3 rfl 1 rfl
            obtain ⟨e0, he0⟩ : ∃ b : Bool, b = decide (m0.hd = 0) := ⟨_, rfl⟩
            obtain ⟨e1, he1⟩ : ∃ b : Bool, b = decide (m1.hd = 0) := ⟨_, rfl⟩
            have l0 : decide (z0 < 0) = e0 := by rw [hz0, he0]; exact decide_eq_decide.2 (by omega)
            have l1 : decide (z1 < 0) = e1 := by rw [hz1, he1]; exact decide_eq_decide.2 (by omega)
            have HE0 : Hid (∀ w0, PlayS w w0 (Also X wr.heap.size (.cells #[.int .i64 kind, .int .i64 x, .bool two, .int .u64 v] 39)) P a r c0 c1 x0 x1 bs5 ss5 m0 m1 → Calls Try.prog 11 #[.pointer (some ⟨c0, 0, none⟩)] w0 fun e w' => e = .returned (.bool e0) ∧ PlayS w w' (Also X wr.heap.size (.cells #[.int .i64 kind, .int .i64 x, .bool two, .int .u64 v] 39)) P a r c0 c1 x0 x1 bs5 ss5 m0 m1) := fun w0 h => by rw [he0]; exact g_empty (show Things _ _ _ from h) 2 rfl 0 rfl
            have HE1 : Hid (∀ w0, PlayS w w0 (Also X wr.heap.size (.cells #[.int .i64 kind, .int .i64 x, .bool two, .int .u64 v] 39)) P a r c0 c1 x0 x1 bs5 ss5 m0 m1 → Calls Try.prog 11 #[.pointer (some ⟨c1, 0, none⟩)] w0 fun e w' => e = .returned (.bool e1) ∧ PlayS w w' (Also X wr.heap.size (.cells #[.int .i64 kind, .int .i64 x, .bool two, .int .u64 v] 39)) P a r c0 c1 x0 x1 bs5 ss5 m0 m1) := fun w0 h => by rw [he1]; exact g_empty (show Things _ _ _ from h) 2 rfl 1 rfl
            clear hz0 hz1 he0 he1
            obtain ⟨⟨q50, q51, q52⟩, ⟨q53, q54, q55⟩, _⟩ := pcell (Things.cells T5.out 1 rfl)
            have y50 := HZ0.out _ T5.out
            have y51 := HZ1.out _ T5.out
            refine held_switch (S2 := fun w' => (w'.cell? ⟨wr.heap.size, 0, none⟩ = some (.int .i64 kind) ∧ w'.cell? ⟨wr.heap.size, 1, none⟩ = some (.int .i64 x) ∧ w'.cell? ⟨wr.heap.size, 2, none⟩ = some (.bool two) ∧ w'.cell? ⟨wr.heap.size, 3, none⟩ = some (.int .u64 v)) ∧ (w'.cell? ⟨P, 1, none⟩ = some (.pointer (some ⟨c0, 0, none⟩)) ∧ w'.cell? ⟨P, 2, none⟩ = some (.pointer (some ⟨c1, 0, none⟩)) ∧ w'.cell? ⟨P, 4, none⟩ = some (.pointer (some ⟨x0, 0, none⟩)) ∧ w'.cell? ⟨P, 5, none⟩ = some (.pointer (some ⟨x1, 0, none⟩)) ∧ w'.cell? ⟨x0, 4, none⟩ = some (.int .i64 z0) ∧ w'.cell? ⟨x1, 4, none⟩ = some (.int .i64 z1))) (fun _ h => h.1) _ _ _ _ ?_
            have hHeld2 : (w5.cell? ⟨wr.heap.size, 0, none⟩ = some (.int .i64 kind) ∧ w5.cell? ⟨wr.heap.size, 1, none⟩ = some (.int .i64 x) ∧ w5.cell? ⟨wr.heap.size, 2, none⟩ = some (.bool two) ∧ w5.cell? ⟨wr.heap.size, 3, none⟩ = some (.int .u64 v)) ∧ (w5.cell? ⟨P, 1, none⟩ = some (.pointer (some ⟨c0, 0, none⟩)) ∧ w5.cell? ⟨P, 2, none⟩ = some (.pointer (some ⟨c1, 0, none⟩)) ∧ w5.cell? ⟨P, 4, none⟩ = some (.pointer (some ⟨x0, 0, none⟩)) ∧ w5.cell? ⟨P, 5, none⟩ = some (.pointer (some ⟨x1, 0, none⟩)) ∧ w5.cell? ⟨x0, 4, none⟩ = some (.int .i64 z0) ∧ w5.cell? ⟨x1, 4, none⟩ = some (.int .i64 z1)) := ⟨⟨p50, p51, p52, p53⟩, q51, q52, q54, q55, y50, y51⟩
            clear hHeld
            refine wpAnyH_take (i := 3) (oi := ⟨some 68, _, _, _, _, _⟩) (v := ?v3) rfl (by kernel_rfl) (by kernel_rfl) (by kernel_rfl) (fun _ _ _ h => h) (Or.inl ⟨by rfl, ?hy3⟩) (by assumption) ?rest3
            case hy3 => (intro w hSw; (try dsimp only at hSw); go_simp; try with_reducible rfl)
            simp only [Act.put, List.setIfInBounds_toArray, List.set_cons_zero, List.set_cons_succ]
            refine wpAnyH_take (i := 4) (oi := ⟨some 69, _, _, _, _, _⟩) (v := ?v4) rfl (by kernel_rfl) (by kernel_rfl) (by kernel_rfl) (fun _ _ _ h => h) (Or.inl ⟨by rfl, ?hy4⟩) (by assumption) ?rest4
            case hy4 => (intro w hSw; (try dsimp only at hSw); go_simp; try with_reducible rfl)
            simp only [Act.put, List.setIfInBounds_toArray, List.set_cons_zero, List.set_cons_succ]
            refine wpAnyH_take (i := 5) (oi := ⟨some 70, _, _, _, _, _⟩) (v := ?v5) rfl (by kernel_rfl) (by kernel_rfl) (by kernel_rfl) (fun _ _ _ h => h) (Or.inl ⟨by rfl, ?hy5⟩) (by assumption) ?rest5
            case hy5 => (intro w hSw; (try dsimp only at hSw); go_simp; try with_reducible rfl)
            simp only [Act.put, List.setIfInBounds_toArray, List.set_cons_zero, List.set_cons_succ]
            refine wpAnyH_take (i := 6) (oi := ⟨some 71, _, _, _, _, _⟩) (v := ?v6) rfl (by kernel_rfl) (by kernel_rfl) (by kernel_rfl) (fun _ _ _ h => h) (Or.inl ⟨by rfl, ?hy6⟩) (by assumption) ?rest6
            case hy6 => (intro w hSw; (try dsimp only at hSw); go_simp; try with_reducible rfl)
            simp only [Act.put, List.setIfInBounds_toArray, List.set_cons_zero, List.set_cons_succ]
            refine wpAnyH_take (i := 7) (oi := ⟨some 72, _, _, _, _, _⟩) (v := ?v7) rfl (by kernel_rfl) (by kernel_rfl) (by kernel_rfl) (fun _ _ _ h => h) (Or.inl ⟨by rfl, ?hy7⟩) (by assumption) ?rest7
            case hy7 => (intro w hSw; (try dsimp only at hSw); go_simp; try with_reducible rfl)
            simp only [Act.put, List.setIfInBounds_toArray, List.set_cons_zero, List.set_cons_succ]
            refine wpAnyH_take (i := 8) (oi := ⟨some 73, _, _, _, _, _⟩) (v := ?v8) rfl (by kernel_rfl) (by kernel_rfl) (by kernel_rfl) (fun _ _ _ h => h) (Or.inl ⟨by rfl, ?hy8⟩) (by assumption) ?rest8
            case hy8 => (intro w hSw; (try dsimp only at hSw); go_simp; try with_reducible rfl)
            simp only [Act.put, List.setIfInBounds_toArray, List.set_cons_zero, List.set_cons_succ]
            refine wpAnyH_take (i := 9) (oi := ⟨some 74, _, _, _, _, _⟩) (v := ?v9) rfl (by kernel_rfl) (by kernel_rfl) (by kernel_rfl) (fun _ _ _ h => h) (Or.inl ⟨by rfl, ?hy9⟩) (by assumption) ?rest9
            case hy9 => (intro w hSw; (try dsimp only at hSw); go_simp; try with_reducible rfl)
            simp only [Act.put, List.setIfInBounds_toArray, List.set_cons_zero, List.set_cons_succ]
            refine wpAnyH_take (i := 11) (oi := ⟨some 76, _, _, _, _, _⟩) (v := ?v10) rfl (by kernel_rfl) (by kernel_rfl) (by kernel_rfl) (fun _ _ _ h => h) (Or.inl ⟨by rfl, ?hy10⟩) (by assumption) ?rest10
            case hy10 => (intro w hSw; (try dsimp only at hSw); go_simp; try with_reducible rfl)
            simp only [Act.put, List.setIfInBounds_toArray, List.set_cons_zero, List.set_cons_succ]
            refine wpAnyH_take (i := 12) (oi := ⟨some 77, _, _, _, _, _⟩) (v := ?v11) rfl (by kernel_rfl) (by kernel_rfl) (by kernel_rfl) (fun _ _ _ h => h) (Or.inl ⟨by rfl, ?hy11⟩) (by assumption) ?rest11
            case hy11 => (intro w hSw; (try dsimp only at hSw); go_simp; try with_reducible rfl)
            simp only [Act.put, List.setIfInBounds_toArray, List.set_cons_zero, List.set_cons_succ]
            refine wpAnyH_take (i := 13) (oi := ⟨some 78, _, _, _, _, _⟩) (v := ?v12) rfl (by kernel_rfl) (by kernel_rfl) (by kernel_rfl) (fun _ _ _ h => h) (Or.inl ⟨by rfl, ?hy12⟩) (by assumption) ?rest12
            case hy12 => (intro w hSw; (try dsimp only at hSw); go_simp; try with_reducible rfl)
            simp only [Act.put, List.setIfInBounds_toArray, List.set_cons_zero, List.set_cons_succ]
            refine wpAnyH_take (i := 14) (oi := ⟨some 79, _, _, _, _, _⟩) (v := ?v13) rfl (by kernel_rfl) (by kernel_rfl) (by kernel_rfl) (fun _ _ _ h => h) (Or.inl ⟨by rfl, ?hy13⟩) (by assumption) ?rest13
            case hy13 => (intro w hSw; (try dsimp only at hSw); go_simp; try with_reducible rfl)
            simp only [Act.put, List.setIfInBounds_toArray, List.set_cons_zero, List.set_cons_succ]
            refine wpAnyH_take (i := 15) (oi := ⟨some 80, _, _, _, _, _⟩) (v := ?v14) rfl (by kernel_rfl) (by kernel_rfl) (by kernel_rfl) (fun _ _ _ h => h) (Or.inl ⟨by rfl, ?hy14⟩) (by assumption) ?rest14
            case hy14 => (intro w hSw; (try dsimp only at hSw); go_simp; try with_reducible rfl)
            simp only [Act.put, List.setIfInBounds_toArray, List.set_cons_zero, List.set_cons_succ]
            refine wpAnyH_take (i := 16) (oi := ⟨some 81, _, _, _, _, _⟩) (v := ?v15) rfl (by kernel_rfl) (by kernel_rfl) (by kernel_rfl) (fun _ _ _ h => h) (Or.inl ⟨by rfl, ?hy15⟩) (by assumption) ?rest15
            case hy15 => (intro w hSw; (try dsimp only at hSw); go_simp; try with_reducible rfl)
            simp only [Act.put, List.setIfInBounds_toArray, List.set_cons_zero, List.set_cons_succ]
            refine wpAnyH_take (i := 17) (oi := ⟨some 82, _, _, _, _, _⟩) (v := ?v16) rfl (by kernel_rfl) (by kernel_rfl) (by kernel_rfl) (fun _ _ _ h => h) (Or.inl ⟨by rfl, ?hy16⟩) (by assumption) ?rest16
            case hy16 => (intro w hSw; (try dsimp only at hSw); go_simp; try with_reducible rfl)
            simp only [Act.put, List.setIfInBounds_toArray, List.set_cons_zero, List.set_cons_succ]
            refine wpAnyH_take (i := 18) (oi := ⟨some 83, _, _, _, _, _⟩) (v := ?v17) rfl (by kernel_rfl) (by kernel_rfl) (by kernel_rfl) (fun _ _ _ h => h) (Or.inl ⟨by rfl, ?hy17⟩) (by assumption) ?rest17
            case hy17 => (intro w hSw; (try dsimp only at hSw); go_simp; try with_reducible rfl)
            simp only [Act.put, List.setIfInBounds_toArray, List.set_cons_zero, List.set_cons_succ]
            refine wpAnyH_take (i := 19) (oi := ⟨some 84, _, _, _, _, _⟩) (v := ?v18) rfl (by kernel_rfl) (by kernel_rfl) (by kernel_rfl) (fun _ _ _ h => h) (Or.inl ⟨by rfl, ?hy18⟩) (by assumption) ?rest18
            case hy18 => (intro w hSw; (try dsimp only at hSw); go_simp; try with_reducible rfl)
            simp only [Act.put, List.setIfInBounds_toArray, List.set_cons_zero, List.set_cons_succ]
            refine wpAnyH_ready (rs := [10]) (by kernel_rfl) (by simp) ?_
            refine AllReadyH.cons (o := ⟨some 75, _, _, _, _, _⟩) rfl (fun K hK => ?_) AllReadyH.nil
            go_simp
            go_wp2_with (go_at_call 11; refine (HE0.out _ T5.out).mono ?_; rintro e w6 ⟨rfl, h6⟩; have T6 := hid h6; obtain ⟨p60, p61, p62, p63⟩ := ocell (Things.also_cells h6); obtain ⟨⟨q60, q61, q62⟩, ⟨q63, q64, q65⟩, _⟩ := pcell (Things.cells h6 1 rfl); have y60 := HZ0.out _ h6; have y61 := HZ1.out _ h6; clear h6)
            refine hK.out _ _ ?_ (fun hHeld => ?_)
            · exact ⟨⟨p60, p61, p62, p63⟩, q61, q62, q64, q65, y60, y61⟩
            clear hK K
            refine wpAnyH_take (i := 20) (oi := ⟨some 85, _, _, _, _, _⟩) (v := ?v19) rfl (by kernel_rfl) (by kernel_rfl) (by kernel_rfl) (fun _ _ _ h => h) (Or.inl ⟨by rfl, ?hy19⟩) (by assumption) ?rest19
            case hy19 => (intro w hSw; (try dsimp only at hSw); go_simp; try with_reducible rfl)
            simp only [Act.put, List.setIfInBounds_toArray, List.set_cons_zero, List.set_cons_succ]
            refine wpAnyH_take (i := 21) (oi := ⟨some 86, _, _, _, _, _⟩) (v := ?v20) rfl (by kernel_rfl) (by kernel_rfl) (by kernel_rfl) (fun _ _ _ h => h) (Or.inl ⟨by rfl, ?hy20⟩) (by assumption) ?rest20
            case hy20 => (intro w hSw; (try dsimp only at hSw); go_simp; try with_reducible rfl)
            simp only [Act.put, List.setIfInBounds_toArray, List.set_cons_zero, List.set_cons_succ]
            refine wpAnyH_take (i := 22) (oi := ⟨some 87, _, _, _, _, _⟩) (v := ?v21) rfl (by kernel_rfl) (by kernel_rfl) (by kernel_rfl) (fun _ _ _ h => h) (Or.inl ⟨by rfl, ?hy21⟩) (by assumption) ?rest21
            case hy21 => (intro w hSw; (try dsimp only at hSw); go_simp; try with_reducible rfl)
            simp only [Act.put, List.setIfInBounds_toArray, List.set_cons_zero, List.set_cons_succ]
            refine wpAnyH_take (i := 23) (oi := ⟨some 88, _, _, _, _, _⟩) (v := ?v22) rfl (by kernel_rfl) (by kernel_rfl) (by kernel_rfl) (fun _ _ _ h => h) (Or.inl ⟨by rfl, ?hy22⟩) (by assumption) ?rest22
            case hy22 => (intro w hSw; (try dsimp only at hSw); go_simp; try with_reducible rfl)
            simp only [Act.put, List.setIfInBounds_toArray, List.set_cons_zero, List.set_cons_succ]
            refine wpAnyH_take (i := 24) (oi := ⟨some 89, _, _, _, _, _⟩) (v := ?v23) rfl (by kernel_rfl) (by kernel_rfl) (by kernel_rfl) (fun _ _ _ h => h) (Or.inl ⟨by rfl, ?hy23⟩) (by assumption) ?rest23
            case hy23 => (intro w hSw; (try dsimp only at hSw); go_simp; try with_reducible rfl)
            simp only [Act.put, List.setIfInBounds_toArray, List.set_cons_zero, List.set_cons_succ]
            refine wpAnyH_take (i := 25) (oi := ⟨some 90, _, _, _, _, _⟩) (v := ?v24) rfl (by kernel_rfl) (by kernel_rfl) (by kernel_rfl) (fun _ _ _ h => h) (Or.inl ⟨by rfl, ?hy24⟩) (by assumption) ?rest24
            case hy24 => (intro w hSw; (try dsimp only at hSw); go_simp; try with_reducible rfl)
            simp only [Act.put, List.setIfInBounds_toArray, List.set_cons_zero, List.set_cons_succ]
            refine wpAnyH_take (i := 26) (oi := ⟨some 91, _, _, _, _, _⟩) (v := ?v25) rfl (by kernel_rfl) (by kernel_rfl) (by kernel_rfl) (fun _ _ _ h => h) (Or.inl ⟨by rfl, ?hy25⟩) (by assumption) ?rest25
            case hy25 => (intro w hSw; (try dsimp only at hSw); go_simp; try with_reducible rfl)
            simp only [Act.put, List.setIfInBounds_toArray, List.set_cons_zero, List.set_cons_succ]
            refine wpAnyH_take (i := 27) (oi := ⟨some 92, _, _, _, _, _⟩) (v := ?v26) rfl (by kernel_rfl) (by kernel_rfl) (by kernel_rfl) (fun _ _ _ h => h) (Or.inl ⟨by rfl, ?hy26⟩) (by assumption) ?rest26
            case hy26 => (intro w hSw; (try dsimp only at hSw); go_simp; try with_reducible rfl)
            simp only [Act.put, List.setIfInBounds_toArray, List.set_cons_zero, List.set_cons_succ]
            refine wpAnyH_take (i := 29) (oi := ⟨some 94, _, _, _, _, _⟩) (v := ?v27) rfl (by kernel_rfl) (by kernel_rfl) (by kernel_rfl) (fun _ _ _ h => h) (Or.inl ⟨by rfl, ?hy27⟩) (by assumption) ?rest27
            case hy27 => (intro w hSw; (try dsimp only at hSw); go_simp; try with_reducible rfl)
            simp only [Act.put, List.setIfInBounds_toArray, List.set_cons_zero, List.set_cons_succ]
            refine wpAnyH_take (i := 30) (oi := ⟨some 95, _, _, _, _, _⟩) (v := ?v28) rfl (by kernel_rfl) (by kernel_rfl) (by kernel_rfl) (fun _ _ _ h => h) (Or.inl ⟨by rfl, ?hy28⟩) (by assumption) ?rest28
            case hy28 => (intro w hSw; (try dsimp only at hSw); go_simp; try with_reducible rfl)
            simp only [Act.put, List.setIfInBounds_toArray, List.set_cons_zero, List.set_cons_succ]
            refine wpAnyH_take (i := 31) (oi := ⟨some 96, _, _, _, _, _⟩) (v := ?v29) rfl (by kernel_rfl) (by kernel_rfl) (by kernel_rfl) (fun _ _ _ h => h) (Or.inl ⟨by rfl, ?hy29⟩) (by assumption) ?rest29
            case hy29 => (intro w hSw; (try dsimp only at hSw); go_simp; try with_reducible rfl)
            simp only [Act.put, List.setIfInBounds_toArray, List.set_cons_zero, List.set_cons_succ]
            refine wpAnyH_take (i := 32) (oi := ⟨some 97, _, _, _, _, _⟩) (v := ?v30) rfl (by kernel_rfl) (by kernel_rfl) (by kernel_rfl) (fun _ _ _ h => h) (Or.inl ⟨by rfl, ?hy30⟩) (by assumption) ?rest30
            case hy30 => (intro w hSw; (try dsimp only at hSw); go_simp; try with_reducible rfl)
            simp only [Act.put, List.setIfInBounds_toArray, List.set_cons_zero, List.set_cons_succ]
            refine wpAnyH_take (i := 33) (oi := ⟨some 98, _, _, _, _, _⟩) (v := ?v31) rfl (by kernel_rfl) (by kernel_rfl) (by kernel_rfl) (fun _ _ _ h => h) (Or.inl ⟨by rfl, ?hy31⟩) (by assumption) ?rest31
            case hy31 => (intro w hSw; (try dsimp only at hSw); go_simp; try with_reducible rfl)
            simp only [Act.put, List.setIfInBounds_toArray, List.set_cons_zero, List.set_cons_succ]
            refine wpAnyH_take (i := 34) (oi := ⟨some 99, _, _, _, _, _⟩) (v := ?v32) rfl (by kernel_rfl) (by kernel_rfl) (by kernel_rfl) (fun _ _ _ h => h) (Or.inl ⟨by rfl, ?hy32⟩) (by assumption) ?rest32
            case hy32 => (intro w hSw; (try dsimp only at hSw); go_simp; try with_reducible rfl)
            simp only [Act.put, List.setIfInBounds_toArray, List.set_cons_zero, List.set_cons_succ]
            refine wpAnyH_take (i := 35) (oi := ⟨some 100, _, _, _, _, _⟩) (v := ?v33) rfl (by kernel_rfl) (by kernel_rfl) (by kernel_rfl) (fun _ _ _ h => h) (Or.inl ⟨by rfl, ?hy33⟩) (by assumption) ?rest33
            case hy33 => (intro w hSw; (try dsimp only at hSw); go_simp; try with_reducible rfl)
            simp only [Act.put, List.setIfInBounds_toArray, List.set_cons_zero, List.set_cons_succ]
            refine wpAnyH_take (i := 36) (oi := ⟨some 101, _, _, _, _, _⟩) (v := ?v34) rfl (by kernel_rfl) (by kernel_rfl) (by kernel_rfl) (fun _ _ _ h => h) (Or.inl ⟨by rfl, ?hy34⟩) (by assumption) ?rest34
            case hy34 => (intro w hSw; (try dsimp only at hSw); go_simp; try with_reducible rfl)
            simp only [Act.put, List.setIfInBounds_toArray, List.set_cons_zero, List.set_cons_succ]
            refine wpAnyH_take (i := 37) (oi := ⟨some 102, _, _, _, _, _⟩) (v := ?v35) rfl (by kernel_rfl) (by kernel_rfl) (by kernel_rfl) (fun _ _ _ h => h) (Or.inl ⟨by rfl, ?hy35⟩) (by assumption) ?rest35
            case hy35 => (intro w hSw; (try dsimp only at hSw); go_simp; try with_reducible rfl)
            simp only [Act.put, List.setIfInBounds_toArray, List.set_cons_zero, List.set_cons_succ]
            refine wpAnyH_ready (rs := [28]) (by kernel_rfl) (by simp) ?_
            refine AllReadyH.cons (o := ⟨some 93, _, _, _, _, _⟩) rfl (fun K hK => ?_) AllReadyH.nil
            go_simp
            go_wp2_with (go_at_call 11; refine (HE1.out _ T6.out).mono ?_; rintro e w7 ⟨rfl, h7⟩; have T7 := hid h7; obtain ⟨p70, p71, p72, p73⟩ := ocell (Things.also_cells h7); obtain ⟨⟨q70, q71, q72⟩, ⟨q73, q74, q75⟩, _⟩ := pcell (Things.cells h7 1 rfl); have y70 := HZ0.out _ h7; have y71 := HZ1.out _ h7; clear h7)
            refine hK.out _ _ ?_ (fun hHeld => ?_)
            · exact ⟨⟨p70, p71, p72, p73⟩, q71, q72, q74, q75, y70, y71⟩
            clear hK K
            refine wpAnyH_take (i := 38) (oi := ⟨some 103, _, _, _, _, _⟩) (v := ?v36) rfl (by kernel_rfl) (by kernel_rfl) (by kernel_rfl) (fun _ _ _ h => h) (Or.inl ⟨by rfl, ?hy36⟩) (by assumption) ?rest36
            case hy36 => (intro w hSw; (try dsimp only at hSw); go_simp; try with_reducible rfl)
            simp only [Act.put, List.setIfInBounds_toArray, List.set_cons_zero, List.set_cons_succ]
            refine wpAnyH_take (i := 39) (oi := ⟨some 104, _, _, _, _, _⟩) (v := ?v37) rfl (by kernel_rfl) (by kernel_rfl) (by kernel_rfl) (fun _ _ _ h => h) (Or.inl ⟨by rfl, ?hy37⟩) (by assumption) ?rest37
            case hy37 => (intro w hSw; (try dsimp only at hSw); go_simp; try with_reducible rfl)
            simp only [Act.put, List.setIfInBounds_toArray, List.set_cons_zero, List.set_cons_succ]
            refine wpAnyH_done (by kernel_rfl) ?_ _
            go_wp2
            go_roundw
            case rel => exact ⟨j + 1, _, by omega, by go_num, bs5, ss5, m0, m1, hb5, hs5, hp5, T7.out⟩
            case measure => simp [intOf]; omega
          · obtain rfl : j = l.length := by omega
            clear HPC HOP
            have hbs := HBS.out
            have TSX : Hid (Things w wr [X, Blk P (pcs (.pointer (some ⟨a, 0, none⟩)) (.pointer (some ⟨c0, 0, none⟩)) (.pointer (some ⟨c1, 0, none⟩)) (.pointer (some ⟨r, 0, none⟩)) (.pointer (some ⟨x0, 0, none⟩)) (.pointer (some ⟨x1, 0, none⟩))), Pc a bs ss [(c0, k0), (c1, k1)], Rf r bs ss [(x0, k0), (x1, k1)]]) := T.out
            have H1 : Hid (∀ w0 X B R, Things w w0 [X, B, Pc a bs ss [(c0, k0), (c1, k1)], R] → Calls Try.prog 12 #[.pointer (some ⟨a, 0, none⟩)] w0 fun e w' => ∃ base ad cap, e = .returned (.slice ad ss.length cap) ∧ Things w w' [X, B, Pc a bs ss [(c0, k0), (c1, k1)], R, Spn base (.slice ad ss.length cap) ss]) := fun w0 X B R h => g_touched h 2 rfl (by omega)
            have H2 : Hid (∀ w0 X B R Y, Things w w0 [X, B, Pc a bs ss [(c0, k0), (c1, k1)], R, Y] → Calls Try.prog 13 #[.pointer (some ⟨a, 0, none⟩), .int .i64 0, .int .i64 N] w0 fun e w' => e = .returned (.tuple #[.string ⟨bs.toArray⟩, .int .i64 0]) ∧ ∃ M, Things w w' [X, B, M, R, Y]) := fun w0 X B R Y h => (g_read h 2 rfl 0 N (by omega) (by omega)).mono fun e w' ⟨he, h⟩ => ⟨by rw [he, ← hbs, List.drop_zero, List.take_of_length_le (Nat.le_refl _)], _, h⟩
            have H3 : Hid (∀ w0 (base B2 : Nat) (y1 y2 : Value), w0.ownsRow base 67 3 y1 ss.length (spcs ss) → w0.ownsRow B2 67 3 y2 ss.length (spcs ss) → Calls Try.prog 14 #[y1, y2] w0 fun e w' => e = .returned (.bool true) ∧ Fr (fun _ => False) w0 w') := fun w0 base B2 y1 y2 h1 h2 => same_any h1 h2 (by omega)
            obtain ⟨⟨q0, q1, q2⟩, ⟨q3, q4, q5⟩, _⟩ := pcell (TSX.out.cells 1 rfl)
            clear hs hp hbs HBS T
            go_wp2_with fail
            refine (H1.out _ _ _ _ TSX.out).mono ?_
            rintro e w5 ⟨base, tad, tcap, rfl, h5⟩
            have T5 := hid h5
            clear q0 q1 q2 q3 q4 q5
            obtain ⟨⟨q0, q1, q2⟩, ⟨q3, q4, q5⟩, _⟩ := pcell (h5.cells 1 rfl)
            clear h5 H1 TSX
            go_wp2_with fail
            refine (H2.out _ _ _ _ _ T5.out).mono ?_
            rintro e w6 ⟨rfl, M6, h6⟩
            have T6 := hid h6
            clear q0 q1 q2 q3 q4 q5
            obtain ⟨⟨q0, q1, q2⟩, ⟨q3, q4, q5⟩, _⟩ := pcell (h6.cells 1 rfl)
            obtain ⟨B6, b6, v6, har⟩ := h6.ref 3 rfl
            have r0 := har.c0
            have r1 := har.c1
            have hcv : (convert 48 9 (.slice (some ⟨b6, 0, none⟩) bs.length bs.length)).run Try.prog w6 = .ok (.string ⟨bs.toArray⟩) w6 := by
              have := run_bytes_string (P := Try.prog) 48 5 9 Try.underlying48 Try.underlying5 Try.underlying9 har.by' 0 bs.length bs.length (by omega)
              rw [List.drop_zero, List.take_of_length_le (Nat.le_refl _)] at this
              exact this
            have HR := hid har.tr
            clear h6 H2 T5 har
            go_wp2_with fail
            refine (H3.out _ _ _ _ _ (T6.out.spans 4 rfl) HR.out).mono ?_
            rintro e w7 ⟨rfl, f7⟩
            have T7 := hid (T6.out.nw.kept f7)
            clear f7 T6 H3
            go_wp2
            go_ret
            exact ⟨by simp, T7.out.fr⟩
end Go.Proofs.Ytjgkcaibapffhaa
