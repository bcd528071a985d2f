/-
  Chains and their arena as one thing: what each call leaves of it. The program's, and the document's.
-/
import Derived.Test.YtjgkcaibapffhaaChCalls
namespace Go.Proofs.Ytjgkcaibapffhaa
open Go.RowKit
open An

section
variable {T : TypeId} {Q : World → Nat → Nat → Ck → Prop} {P : Program} {F : Nat} {args : Array Value} {a c : Nat} {bs bs' : List UInt8} {ss ss' : List Sp} {L : List (Nat × Ck)} {w : World} {U : Nat → Prop} {k k' : Ck}
theorem Cs.call (hQ : Chain1 Q) (h : Cs T Q a bs ss L w U) (i : Nat) (hi : L[i]? = some (c, k)) {R : Ending → Prop} (hk' : k.Ok bs.length → k'.Ok bs.length) (hb : k.Ok bs.length → bs'.length = bs.length)
    (base : ∀ Z, Q w c a k → Am T a bs ss w Z → k.Ok bs.length → ¬ Z c → Calls P F args w fun e w' => R e ∧ ∃ Z', Left T Q w c a Z bs' ss' k' Z' w') : Calls P F args w fun e w' => R e ∧ ∃ U', Cs T Q a bs' ss' (L.set i (c, k')) w' U' ∧ Gw w w' U U' := by
  obtain ⟨Z, h1, h2, h3, h4, h5⟩ := h.one hQ i hi
  exact (base Z h2 h1 h3 h4).mono fun e w' ⟨he, Z', hL⟩ => ⟨he, _, h5 w' Z' bs' ss' k' hL.am hL.q (hk' h3) (hb h3) hL.new hL.nz hL.fr⟩
/-- A list that lies in new blocks, apart from the thing. -/
theorem Cs.callAll (hQ : Chain1 Q) (h : Cs T Q a bs ss L w U) (i : Nat) (hi : L[i]? = some (c, k)) {l : List Int} {E : Int}
    (base : ∀ Z, Q w c a k → Am T a bs ss w Z → k.Ok bs.length → ¬ Z c → Calls P F args w fun e w' => ∃ Z', AllE w w' Z' l E e ∧ Left T Q w c a Z bs ss' k Z' w') : Calls P F args w fun e w' => ∃ U', AllE w w' U' l E e ∧ Cs T Q a bs ss' L w' U' ∧ Gw w w' U U' := by
  have hlt := h.lt
  obtain ⟨Z, h1, h2, h3, h4, h5⟩ := h.one hQ i hi
  refine (base Z h2 h1 h3 h4).mono fun e w' ⟨Z', ⟨ad, cap, he, hn, hb⟩, hL⟩ => ?_
  obtain ⟨g1, g2⟩ := h5 w' Z' bs ss' k hL.am hL.q h3 rfl hL.new hL.nz hL.fr
  obtain ⟨hil, hie⟩ := List.getElem?_eq_some_iff.1 hi
  have hset : L.set i (c, k) = L := by rw [← hie]; exact List.set_getElem_self hil
  rw [hset] at g1
  refine ⟨_, ⟨ad, cap, he, hn, fun b off e => ⟨(hb b off e).1, fun e2 => ?_⟩⟩, g1, g2⟩
  rcases e2 with e2 | e2
  · have := hlt b e2; have := (hb b off e).1; omega
  · exact (hb b off e).2 e2
/-- A call of the arena itself. -/
theorem Cs.callArena (hQ : Chain1 Q) (h : Cs T Q a bs ss L w U) {R : Ending → Prop} (hb : bs'.length = bs.length)
    (base : ∀ Z, Am T a bs ss w Z → Calls P F args w fun e w' => R e ∧ ∃ Z', Am T a bs' ss' w' Z' ∧ Gw w w' Z Z') : Calls P F args w fun e w' => R e ∧ ∃ U', Cs T Q a bs' ss' L w' U' ∧ Gw w w' U U' := by
  obtain ⟨Z, h1, h2, h3, h4, h5⟩ := h
  refine (base Z h1).mono fun e w' ⟨he, Z', g1, g2⟩ => ⟨he, fun j => U j ∨ Z' j, ?_⟩
  have hlt : ∀ j, (U j ∨ Z' j) → j < w'.heap.size := fun j hj => by
    rcases hj with hj | hj
    · exact Nat.lt_of_lt_of_le (h5 j hj) g2.fr.size
    · exact g1.lt j hj
  refine ⟨⟨Z', g1, fun _ => .inr, fun p hp => ?_, h4, hlt⟩, ⟨fun _ => .inl, fun j hj => ?_, hlt, g2.fr.mono fun j _ e => h2 j e⟩⟩
  · obtain ⟨k1, k2, k3, k4⟩ := h3 p hp
    refine ⟨.inl k1, fun e => ?_, hQ.carry k3 g2.fr k2, by rw [hb]; exact k4⟩
    rcases g2.new _ e with e | e
    · exact k2 e
    · have := h5 _ k1; omega
  · rcases hj with hj | hj
    · exact .inl hj
    · rcases g2.new j hj with e | e
      · exact .inl (h2 j e)
      · exact .inr e
/-- Two chains of one thing. -/
theorem Cs.two (hQ : Chain1 Q) (h : Cs T Q a bs ss L w U) {i j d : Nat} {k2 : Ck} (hij : i ≠ j) (hi : L[i]? = some (c, k)) (hj : L[j]? = some (d, k2)) : Q w c a k ∧ Q w d a k2 ∧ c ≠ d ∧ k.Ok bs.length ∧ k2.Ok bs.length ∧
    ∀ (w' : World) (k' k2' : Ck), Q w' c a k' → Q w' d a k2' → k'.Ok bs.length → k2'.Ok bs.length → Fr (fun i => i = c ∨ i = d) w w' → ∃ U', Cs T Q a bs ss ((L.set i (c, k')).set j (d, k2')) w' U' ∧ Gw w w' U U' := by
  have hne : c ≠ d := fun e => hij (by
    obtain ⟨Z, _, _, _, h4, _⟩ := h
    obtain ⟨hil, hie⟩ := List.getElem?_eq_some_iff.1 hi
    have hji : (L.map Prod.fst)[i]? = (L.map Prod.fst)[j]? := by simp [hi, hj, e]
    exact (List.getElem?_inj (by simpa using hil) h4).1 hji)
  obtain ⟨Z0, _, m2, m3, _, _⟩ := h.one hQ j hj
  obtain ⟨Z, h1, h2, h3, h4, h5⟩ := h.one hQ i hi
  refine ⟨h2, m2, hne, h3, m3, fun w' k' k2' q1 q2 o1 o2 f => ?_⟩
  obtain ⟨Zz, z1, z2, z3, z4, z5⟩ := h
  obtain ⟨hil, hie⟩ := List.getElem?_eq_some_iff.1 hi
  obtain ⟨hjl, hje⟩ := List.getElem?_eq_some_iff.1 hj
  obtain ⟨a1, a2, a3, a4⟩ := z3 (c, k) (hie ▸ List.getElem_mem hil)
  obtain ⟨b1, b2, b3, b4⟩ := z3 (d, k2) (hje ▸ List.getElem_mem hjl)
  have hfst : ((L.set i (c, k')).set j (d, k2')).map Prod.fst = L.map Prod.fst := by
    rw [List.map_set, List.map_set]
    apply List.ext_getElem?
    intro m
    rw [List.getElem?_set, List.getElem?_set]
    split
    case isTrue e => subst e; simp [hjl, hje]
    case isFalse =>
      split
      case isTrue e => subst e; simp [hil, hie]
      case isFalse => rfl
  refine ⟨U, ⟨Zz, (Am.good T a bs ss).carry z1 f fun m hm e => ?_, z2, fun p hp => ?_, by rw [hfst]; exact z4, fun i hi => Nat.lt_of_lt_of_le (z5 i hi) f.size⟩, Gw.same z5 (f.mono fun m _ e => ?_)⟩
  · rcases e with e | e
    · exact a2 (e ▸ hm)
    · exact b2 (e ▸ hm)
  · obtain ⟨m, hm, rfl⟩ := List.getElem_of_mem hp
    rw [List.length_set, List.length_set] at hm
    rw [List.getElem_set]
    split
    case isTrue e => exact ⟨b1, b2, q2, o2⟩
    case isFalse e1 =>
      rw [List.getElem_set]
      split
      case isTrue e => exact ⟨a1, a2, q1, o1⟩
      case isFalse e2 =>
        obtain ⟨r1, r2, r3, r4⟩ := z3 L[m] (List.getElem_mem hm)
        refine ⟨r1, r2, hQ.carry r3 f fun e => ?_, r4⟩
        rcases e with e | e
        · exact e2 ((List.getElem?_inj (by simpa using hil) z4).1 (by simp [hil, hie, hm, e]))
        · exact e1 ((List.getElem?_inj (by simpa using hjl) z4).1 (by simp [hjl, hje, hm, e]))
  · rcases e with e | e
    · exact e ▸ a1
    · exact e ▸ b1
end
/-- The program's arena and chains; the document's. -/
abbrev Pc := Cs 85 Chm
abbrev Rf := Cs 50 Rch
theorem Pc.good (a : Nat) (bs : List UInt8) (ss : List Sp) (L : List (Nat × Ck)) : Good (Pc a bs ss L) := Cs.good Chm.chain _ a bs ss L
theorem Rf.good (a : Nat) (bs : List UInt8) (ss : List Sp) (L : List (Nat × Ck)) : Good (Rf a bs ss L) := Cs.good Rch.chain _ a bs ss L
section
variable {a c : Nat} {bs : List UInt8} {ss : List Sp} {L : List (Nat × Ck)} {w : World} {U : Nat → Prop} {k : Ck}
theorem k_new (h : Pc a bs ss L w U) {x u p : Int} (hn : NewOk bs.length x u p) : Calls Try.prog 16 #[.pointer (some ⟨a, 0, none⟩), .int .i64 x, .int .i64 u, .int .i64 p] w fun e w' => ∃ c U', e = .returned (.tuple #[.pointer (some ⟨c, 0, none⟩), .int .i64 0]) ∧ Pc a bs ss (L ++ [(c, ⟨x.toNat, u.toNat, p.toNat, 0⟩)]) w' U' ∧ Gw w w' U U' := by
  obtain ⟨Z, h1, _⟩ := id h
  exact (p_new h1 hn).mono fun e w' ⟨c, he, hc, hq, f⟩ => ⟨c, _, he, h.more Chm.chain hc hq (newOk_ok hn) f⟩
theorem k_new_no (h : Pc a bs ss L w U) {x u p : Int} (hn : ¬ NewOk bs.length x u p) (hx : x ≤ 9223372036854775807) : Calls Try.prog 16 #[.pointer (some ⟨a, 0, none⟩), .int .i64 x, .int .i64 u, .int .i64 p] w fun e w' => e = .returned (.tuple #[.pointer none, .int .i64 12]) ∧ Fr (fun _ => False) w w' := by
  obtain ⟨Z, h1, _⟩ := id h
  exact p_new_no h1 hn hx
theorem k_push (h : Pc a bs ss L w U) (hk : ss.length ≤ 1000000) (i : Nat) (hi : L[i]? = some (c, k)) (x : Int) : Calls Try.prog 17 #[.pointer (some ⟨c, 0, none⟩), .int .i64 x] w fun e w' => e = .returned (.int .i64 (puE k x)) ∧ ∃ U', Pc a (puB k bs x) (puT k ss x) (L.set i (c, puS k x)) w' U' ∧ Gw w w' U U' :=
  h.call Chm.chain i hi (fun o => puS_ok o x) (fun o => puB_len o x) fun _ q g o nz => p_push q g o nz hk x
theorem k_pop (h : Pc a bs ss L w U) (hk : ss.length < 1000000) (i : Nat) (hi : L[i]? = some (c, k)) : Calls Try.prog 19 #[.pointer (some ⟨c, 0, none⟩)] w fun e w' => e = .returned (.tuple #[.int .i64 (poV k bs), .int .i64 (poE k bs)]) ∧ ∃ U', Pc a (poB k bs) (poT k bs ss) (L.set i (c, poS k bs)) w' U' ∧ Gw w w' U U' :=
  h.call Chm.chain i hi (fun o => poS_ok o) (fun o => poB_len o) fun _ q g o nz => p_pop q g o nz hk
theorem k_all (h : Pc a bs ss L w U) (hk : ss.length ≤ 900000) (i : Nat) (hi : L[i]? = some (c, k)) : Calls Try.prog 18 #[.pointer (some ⟨c, 0, none⟩)] w fun e w' => ∃ U', AllE w w' U' (nI (alL k bs)) (alE k bs) e ∧ Pc a bs (alT k bs ss) L w' U' ∧ Gw w w' U U' :=
  h.callAll Chm.chain i hi fun _ q g o nz => p_all q g o nz hk
theorem k_take (h : Pc a bs ss L w U) {i j d : Nat} {k2 : Ck} (hij : i ≠ j) (hi : L[i]? = some (c, k)) (hj : L[j]? = some (d, k2)) (hp : k2.per = k.per) : Calls Try.prog 21 #[.pointer (some ⟨c, 0, none⟩), .pointer (some ⟨d, 0, none⟩)] w fun e w' => e = .returned (.int .i64 (taE k)) ∧ ∃ U', Pc a bs ss ((L.set i (c, taS k k2)).set j (d, taD k k2)) w' U' ∧ Gw w w' U U' := by
  obtain ⟨q1, q2, hne, o1, o2, hb⟩ := h.two Chm.chain hij hi hj
  unfold taE
  by_cases h0 : k.hd = 0
  · rw [if_pos h0]
    exact (p_take_ok q1 q2 hne h0).mono fun e w' ⟨he, r1, r2, f⟩ => ⟨he, hb w' _ _ (by rw [taS, if_pos h0]; exact r1) (by rw [taD, if_pos h0]; exact r2) (taS_ok o1 o2 hp) (taD_ok o2) f⟩
  · rw [if_neg h0]
    exact (p_take_no q1 q2 h0).mono fun e w' ⟨he, f⟩ => ⟨he, hb w' _ _ (by rw [taS, if_neg h0]; exact Chm.chain.carry q1 f id) (by rw [taD, if_neg h0]; exact Chm.chain.carry q2 f id) (taS_ok o1 o2 hp) (taD_ok o2) (f.mono fun _ _ e => e.elim)⟩
theorem k_move (h : Pc a bs ss L w U) (i : Nat) (hi : L[i]? = some (c, k)) (x : Int) (hx : x ≤ 9223372036854775807) : Calls Try.prog 22 #[.pointer (some ⟨c, 0, none⟩), .int .i64 x] w fun e w' => e = .returned (.int .i64 (moE k bs.length x)) ∧ ∃ U', Pc a bs ss (L.set i (c, moS k bs.length x)) w' U' ∧ Gw w w' U U' :=
  h.call Chm.chain i hi (fun o => moS_ok o x) (fun _ => rfl) fun Z q g o nz => (p_move q g o x hx).mono fun _ _ ⟨he, q', f⟩ => ⟨he, Z, Left.own g nz q' f⟩
theorem k_put (h : Pc a bs ss L w U) (x u : Int) (hx : x ≤ 9223372036854775807) (hu0 : 0 ≤ u) (hu1 : u ≤ 18446744073709551615) (hk : ss.length ≤ 1000000) : Calls Try.prog 33 #[.pointer (some ⟨a, 0, none⟩), .int .i64 x, .int .u64 u] w fun e w' => e = .returned (.int .i64 (errE (inB x 8 bs.length))) ∧ ∃ U', Pc a (layB (inB x 8 bs.length) bs x (leb u.toNat 8)) (notS (inB x 8 bs.length) ss x 8 true) L w' U' ∧ Gw w w' U U' :=
  h.callArena Chm.chain (layB_length _ _ _ _ fun e => by rw [inB_true] at e; rw [leb_length]; omega) fun _ g => am_put g x u hx hu0 hu1 hk
theorem k_empty (h : Pc a bs ss L w U) (i : Nat) (hi : L[i]? = some (c, k)) : Calls Try.prog 11 #[.pointer (some ⟨c, 0, none⟩)] w fun e w' => e = .returned (.bool (decide (k.hd = 0))) ∧ Fr (fun _ => False) w w' := by
  obtain ⟨Z, _, q, _⟩ := h.one Chm.chain i hi
  exact p_empty q
theorem k_load (h : Pc a bs ss L w U) (p : Nat) (hin : p + 8 ≤ bs.length) (hk : ss.length ≤ 1000000) : Calls Try.prog 27 #[.pointer (some ⟨a, 0, none⟩), .int .i64 p] w fun e w' => e = .returned (.tuple #[.int .u64 (wd bs p), .int .i64 0]) ∧ ∃ U', Pc a bs (ss ++ [((p : Int), (8 : Int), false)]) L w' U' ∧ Gw w w' U U' :=
  h.callArena Chm.chain rfl fun _ g => am_load g p hin hk
theorem k_read (h : Pc a bs ss L w U) (p m : Nat) (hin : p + m ≤ bs.length) (hk : ss.length ≤ 1000000) : Calls Try.prog 13 #[.pointer (some ⟨a, 0, none⟩), .int .i64 p, .int .i64 m] w fun e w' => e = .returned (.tuple #[.string ⟨((bs.drop p).take m).toArray⟩, .int .i64 0]) ∧ ∃ U', Pc a bs (noted ss p m false) L w' U' ∧ Gw w w' U U' :=
  h.callArena Chm.chain rfl fun _ g => am_read g p m hin hk
theorem k_size (h : Pc a bs ss L w U) : Calls Try.prog 20 #[.pointer (some ⟨a, 0, none⟩)] w fun e w' => e = .returned (.int .i64 bs.length) ∧ w' = w := by
  obtain ⟨Z, h1, _⟩ := h
  exact am_size h1
theorem k_touched (h : Pc a bs ss L w U) (hk : ss.length ≤ 1000002) : Calls Try.prog 12 #[.pointer (some ⟨a, 0, none⟩)] w fun e w' => ∃ ad cap, e = .returned (.slice ad ss.length cap) ∧ w'.ownsRow w.heap.size 67 3 (.slice ad ss.length cap) ss.length (spcs ss) ∧ Fr (fun _ => False) w w' := by
  obtain ⟨Z, h1, _⟩ := h
  exact am_touched h1 hk
end
section
variable {a c : Nat} {bs : List UInt8} {ss : List Sp} {L : List (Nat × Ck)} {w : World} {U : Nat → Prop} {k : Ck}
theorem x_new (h : Rf a bs ss L w U) {x u p : Int} (hn : NewOk bs.length x u p) : Calls Try.prog 26 #[.pointer (some ⟨a, 0, none⟩), .int .i64 x, .int .i64 u, .int .i64 p] w fun e w' => ∃ c U', e = .returned (.tuple #[.pointer (some ⟨c, 0, none⟩), .int .i64 0]) ∧ Rf a bs ss (L ++ [(c, ⟨x.toNat, u.toNat, p.toNat, 0⟩)]) w' U' ∧ Gw w w' U U' := by
  obtain ⟨Z, h1, _⟩ := id h
  exact (r_new h1 hn).mono fun e w' ⟨c, he, hc, hq, f⟩ => ⟨c, _, he, h.more Rch.chain hc hq (newOk_ok hn) f⟩
theorem x_new_no (h : Rf a bs ss L w U) {x u p : Int} (hn : ¬ NewOk bs.length x u p) : Calls Try.prog 26 #[.pointer (some ⟨a, 0, none⟩), .int .i64 x, .int .i64 u, .int .i64 p] w fun e w' => e = .returned (.tuple #[.pointer none, .int .i64 12]) ∧ Fr (fun _ => False) w w' := by
  obtain ⟨Z, h1, _⟩ := id h
  exact (r_new_no h1 hn).mono fun e w' ⟨he, hw⟩ => ⟨he, hw ▸ Fr.refl _ _⟩
theorem x_push (h : Rf a bs ss L w U) (hk : ss.length ≤ 1000000) (i : Nat) (hi : L[i]? = some (c, k)) (x : Int) : Calls Try.prog 28 #[.pointer (some ⟨c, 0, none⟩), .int .i64 x] w fun e w' => e = .returned (.int .i64 (puE k x)) ∧ ∃ U', Rf a (puB k bs x) (puT k ss x) (L.set i (c, puS k x)) w' U' ∧ Gw w w' U U' :=
  h.call Rch.chain i hi (fun o => puS_ok o x) (fun o => puB_len o x) fun _ q g o nz => r_push q g o nz hk x
theorem x_pop (h : Rf a bs ss L w U) (hk : ss.length < 1000000) (i : Nat) (hi : L[i]? = some (c, k)) : Calls Try.prog 29 #[.pointer (some ⟨c, 0, none⟩)] w fun e w' => e = .returned (.tuple #[.int .i64 (poV k bs), .int .i64 (poE k bs)]) ∧ ∃ U', Rf a (poB k bs) (poT k bs ss) (L.set i (c, poS k bs)) w' U' ∧ Gw w w' U U' :=
  h.call Rch.chain i hi (fun o => poS_ok o) (fun o => poB_len o) fun _ q g o nz => r_pop q g o nz hk
theorem x_all (h : Rf a bs ss L w U) (hk : ss.length ≤ 900000) (i : Nat) (hi : L[i]? = some (c, k)) : Calls Try.prog 30 #[.pointer (some ⟨c, 0, none⟩)] w fun e w' => ∃ U', AllE w w' U' (nI (alL k bs)) (alE k bs) e ∧ Rf a bs (alT k bs ss) L w' U' ∧ Gw w w' U U' :=
  h.callAll Rch.chain i hi fun _ q g o nz => r_all q g o nz hk
theorem x_take (h : Rf a bs ss L w U) {i j d : Nat} {k2 : Ck} (hij : i ≠ j) (hi : L[i]? = some (c, k)) (hj : L[j]? = some (d, k2)) (hp : k2.per = k.per) : Calls Try.prog 31 #[.pointer (some ⟨c, 0, none⟩), .pointer (some ⟨d, 0, none⟩)] w fun e w' => e = .returned (.int .i64 (taE k)) ∧ ∃ U', Rf a bs ss ((L.set i (c, taS k k2)).set j (d, taD k k2)) w' U' ∧ Gw w w' U U' := by
  obtain ⟨q1, q2, hne, o1, o2, hb⟩ := h.two Rch.chain hij hi hj
  unfold taE
  by_cases h0 : k.hd = 0
  · rw [if_pos h0]
    exact (r_take_ok q1 q2 hne h0).mono fun e w' ⟨he, r1, r2, f⟩ => ⟨he, hb w' _ _ (by rw [taS, if_pos h0]; exact r1) (by rw [taD, if_pos h0]; exact r2) (taS_ok o1 o2 hp) (taD_ok o2) f⟩
  · rw [if_neg h0]
    exact (r_take_no q1 h0).mono fun e w' ⟨he, f⟩ => ⟨he, hb w' _ _ (by rw [taS, if_neg h0]; exact Rch.chain.carry q1 f id) (by rw [taD, if_neg h0]; exact Rch.chain.carry q2 f id) (taS_ok o1 o2 hp) (taD_ok o2) (f.mono fun _ _ e => e.elim)⟩
theorem x_move (h : Rf a bs ss L w U) (i : Nat) (hi : L[i]? = some (c, k)) (x : Int) : Calls Try.prog 32 #[.pointer (some ⟨c, 0, none⟩), .int .i64 x] w fun e w' => e = .returned (.int .i64 (moE k bs.length x)) ∧ ∃ U', Rf a bs ss (L.set i (c, moS k bs.length x)) w' U' ∧ Gw w w' U U' :=
  h.call Rch.chain i hi (fun o => moS_ok o x) (fun _ => rfl) fun Z q g o nz => (r_move q g o x).mono fun _ _ ⟨he, q', f⟩ => ⟨he, Z, Left.own g nz q' f⟩
theorem x_put (h : Rf a bs ss L w U) (x u : Int) (hx : x ≤ 9223372036854775807) (hu0 : 0 ≤ u) (hu1 : u ≤ 18446744073709551615) (hk : ss.length ≤ 1000000) : Calls Try.prog 34 #[.pointer (some ⟨a, 0, none⟩), .int .i64 x, .int .u64 u] w fun e w' => e = .returned (.int .i64 (errE (inB x 8 bs.length))) ∧ ∃ U', Rf a (layB (inB x 8 bs.length) bs x (leb u.toNat 8)) (notS (inB x 8 bs.length) ss x 8 true) L w' U' ∧ Gw w w' U U' :=
  h.callArena Rch.chain (layB_length _ _ _ _ fun e => by rw [inB_true] at e; rw [leb_length]; omega) fun _ g => rm_put g x u hx hu0 hu1 hk
end
end Go.Proofs.Ytjgkcaibapffhaa
