/-
  Blocks: all blocks that are had, by kinds, slots and numbers.
-/
import Derived.Test.YtejbdbjccjkfdaaGreatDoorHpTopB
namespace Go.Proofs.YtejbdbjccjkfdaaGreatDoor
open Go.RowKit
open An

theorem max_is (P : Program) (x y m : Int) (h : m = max x y) : ∀ ts t w, (Builtin.max_ ts t #[.int .i64 x, .int .i64 y]).run P w = .ok (.int .i64 m) w := by
  intro ts t w
  rw [run_max_int2, show (if y > x then y else x) = m by rw [h]; split <;> omega]
theorem ix24 {cs : Array Value} {v : Value} {j : Nat} (h : cs[j]? = some v) (hj : j < 24) (w : World) : (Instr.index 94 (.agg cs) (.int .i64 (j : Int))).run Tryz.prog w = .ok v w := by
  simp [Instr.index, asIntOf, run_underlying Tryz.underlying94, Tryz.sizeOf93, part, hj, h]
theorem app_nothing {P : Program} {w : World} (t ty e : TypeId) (i : TypeInfo) (ht : P.underlying t = some (.slice e)) (hi : P.info? e = some i) (v : Option Addr) (n c0 : Nat) (ad : Option Addr) (c : Nat) (hv : n ≤ c0) :
    (Builtin.append_ #[t, t] ty #[.slice v n c0, .slice ad 0 c]).run P w = .ok (.slice v n c0) w := by
  have hn : ¬ c0 < n := by omega
  cases v <;> cases ad <;> simp [hn, Builtin.append_, run_underlying ht, sizeOf, typeInfo, hi, Builtin.lenOf, Builtin.firstCells, loadCells, loadCellsFrom, storeCells]
/-- Numbers are put behind a row of the call's own. -/
theorem run_app17 {w : World} {base : Nat} (ty : TypeId) {y : Value} {ys zs : List Int} (hown : w.ownsRow base 3 1 y ys.length (ic ys)) {ad : Option Addr} (c : Nat) (hz : NumsAt w ad zs) (hlen : ys.length + zs.length ≤ 1000000) (hbase : base ≤ w.heap.size) :
    ∃ y' w', (Builtin.append_ #[24, 24] ty #[y, .slice ad zs.length c]).run Tryz.prog w = .ok y' w' ∧ w'.ownsRow base 3 1 y' (ys ++ zs).length (ic (ys ++ zs)) ∧ w.grownBy w' y.ownBlock ∧ (y'.ownBlock = y.ownBlock ∨ ∃ g, y'.ownBlock = some g ∧ w.heap.size ≤ g) := by
  obtain ⟨i0, hi, hz0, hz1, hz2⟩ := info_parts Tryz.infoInt
  cases hL : zs with
  | nil =>
    rw [List.append_nil]
    refine ⟨y, w, ?_, hown, ⟨rfl, rfl, rfl, Nat.le_refl _, fun _ _ _ => rfl⟩, .inl rfl⟩
    rcases hown.2 with ⟨e1, e2⟩ | ⟨g', cap', cur, e1, _, _, hnc, _⟩
    · rw [e1]; exact app_nothing _ _ _ i0 Tryz.underlying24 hi _ _ _ _ _ (by omega)
    · rw [e1]; exact app_nothing _ _ _ i0 Tryz.underlying24 hi _ _ _ _ _ hnc
  | cons z r =>
    rw [← hL]
    have h0 : 0 < zs.length := by rw [hL]; simp
    obtain ⟨B, off, rfl, hB, _⟩ := hz 0 h0
    obtain ⟨g, cap, w', hr, h2, h3, h4⟩ := run_append_sep (P := Tryz.prog) w base 24 ty 3 i0 (.int .i64 0) 1 8 Tryz.underlying24 hi hz0 hz1 hz2 rfl (by decide) y ys.length (ic ys) hown ⟨B, off, none⟩ zs.length c h0 (ic zs) (by rw [ic_length]; simp) (fun j u hj => by
        have hj2 : j < zs.length := by have := (List.getElem?_eq_some_iff.1 hj).1; simpa [ic] using this
        obtain ⟨b, off', h1, h2, h3⟩ := hz j hj2
        cases h1
        rw [add_plain, h3, ← hj]
        simp [ic, hj2]) (ic_one zs) (by unfold maxLen; omega) (by omega) hbase
    refine ⟨_, w', hr, by rw [List.length_append, show ic (ys ++ zs) = ic ys ++ ic zs by simp [ic]]; exact h2, h3, ?_⟩
    rcases h4 with e | e
    · exact .inl (by rw [e]; rfl)
    · exact .inr ⟨g, rfl, by omega⟩
theorem wpList_app17 {P : Program} {w w' : World} {ops : Array Oper} {rest : List Oper} {o : Oper} {a : Act} {Q : Exit → Act → World → Prop} (hgd : o.guard = none) (s x : Operand) (t u : TypeId) (ho : o.op = .call { callee := .builtin .append, args := #[s, x], argTypes := #[t, u] }) {y z v : Value} (hs : a.eval s = y) (hx : a.eval x = z)
    (hrun : (Builtin.append_ #[t, u] o.type #[y, z]).run P w = .ok v w') (h : wpList P ops Q rest (a.put o.dst v) w') : wpList P ops Q (o :: rest) a w := by
  refine wpList_plain hgd fun K hK => ?_
  unfold Oper.wp
  simp [execOp, ho, resolve, invoke, builtin, hs, hx, hrun, Result.andThen]
  exact hK _ _ h
theorem Things.appRow {W w w' : World} {ts : List (World → (Nat → Prop) → Prop)} (h : Things W w ts) (j : Nat) {base : Nat} {y y' : Value} {l l' : List Int} (hj : ts[j]? = some (Rw base y l)) (hown : w'.ownsRow base 3 1 y' l'.length (ic l')) (hg : w.grownBy w' y.ownBlock) (hb : y'.ownBlock = y.ownBlock ∨ ∃ g, y'.ownBlock = some g ∧ w.heap.size ≤ g) : Things W w' (ts.set j (Rw base y' l')) := by
  obtain ⟨U, h1, _, h2⟩ := h.turn j hj
  have hlt : ∀ i, (U i ∨ y'.ownBlock = some i) → i < w'.heap.size := fun i hi => by
    rcases hi with hi | hi
    · exact Nat.lt_of_lt_of_le (h1.2.2 i hi) hg.size
    · exact (hown.lt i hi).2
  refine h2 _ w' (fun i => U i ∨ y'.ownBlock = some i) (Rw.good ..) ⟨hown, fun g e => .inr e, hlt⟩ ⟨fun _ => .inl, fun i hi => ?_, hlt, (Fr.refl _ _).grown hg fun k e => .inl (h1.2.1 k e)⟩
  rcases hi with hi | hi
  · exact .inl hi
  · rcases hb with e | ⟨g, e, e2⟩
    · exact .inl (h1.2.1 i (by rw [← e]; exact hi))
    · rw [e] at hi
      simp only [Option.some.injEq] at hi
      exact .inr (by omega)
/-- The load of a part of a block. -/
theorem wpList_load_part {P : Program} {ops : Array Oper} {rest : List Oper} {o : Oper} {a : Act} {w : World} {Q : Exit → Act → World → Prop} (hgd : o.guard = none) (ty : TypeId) (x : Operand) (ho : o.op = .load ty x)
    (g off : Nat) (hx : a.eval x = .pointer (some ⟨g, off, none⟩)) (cs : List Value) (d : TypeDesc) (hc : ∀ j v, cs[j]? = some v → w.cell? ⟨g, off + j, none⟩ = some v)
    (hu : P.underlying ty = some d) (hd : (match d with | .struct _ | .array _ _ => true | _ => false) = true) (hi : (P.info? ty).map (·.size) = some cs.length)
    (h : wpList P ops Q rest (a.put o.dst (.agg cs.toArray)) w) : wpList P ops Q (o :: rest) a w := by
  have hl : (loadCells ⟨g, off, none⟩ cs.length).run P w = .ok cs.toArray w :=
    run_loadCells_list (P := P) w ⟨g, off, none⟩ cs (fun j v hv => by
      rw [add_plain]
      exact hc j v hv)
  have hv : (loadVar ty ⟨g, off, none⟩).run P w = .ok (.agg cs.toArray) w := by
    cases hq : P.info? ty with
    | none => simp [hq] at hi
    | some i =>
      have hs : i.size = cs.length := by simpa [hq] using hi
      have hagg : (isAgg ty).run P w = .ok true w := by
        unfold isAgg
        rw [Sem.run_bind, run_underlying hu w]
        cases d <;> simp_all
      simp [loadVar, Sem.run_bind, hagg, sizeOf, typeInfo, hq, hs, hl]
  refine wpList_plain hgd fun K hK => ?_
  unfold Oper.wp execOp
  simp only [ho, hx, Instr.loadAt, Instr.sureAddr, Sem.run_bind, Sem.run_pure, Result.andThen_ok, hv]
  exact hK _ _ h
theorem size24 : (Tryz.prog.info? 94).map (·.size) = some 24 := by kernel_rfl
section
variable {W w : World} {x : Px} {M : Ms} {R : Rs} {O : World → (Nat → Prop) → Prop} {ts : List (World → (Nat → Prop) → Prop)}
/-- The blocks of a slot, up to a number; of a kind, up to a slot; of all, up to a kind. -/
def boN (R : Rs) (c s q : Nat) : List Int := (List.range q).filterMap fun j : Nat => if hasR R c s (j : Int) = true then some (adI c s j) else none
def boK (R : Rs) (c q : Nat) : List Int := (List.range q).flatMap fun s : Nat => if Sf.isT (R.sh c) (s : Int) = true then boN R c s (nuI c).toNat else []
def boT (R : Rs) (p : Nat) : List Int := (List.range p).flatMap fun c => boK R c (R.sh c).length
theorem boN_succ (R : Rs) (c s q : Nat) : boN R c s (q + 1) = boN R c s q ++ (if hasR R c s (q : Int) = true then [adI c s q] else []) := by
  unfold boN
  rw [List.range_succ, List.filterMap_append]
  congr 1
  simp only [List.filterMap_cons, List.filterMap_nil]
  split <;> rename_i e <;> split at e <;> simp_all
theorem boN_len (R : Rs) (c s q : Nat) : (boN R c s q).length ≤ q := by
  unfold boN
  have := List.length_filterMap_le (fun j : Nat => if hasR R c s (j : Int) = true then some (adI c s j) else none) (List.range q)
  simpa using this
theorem boK_succ (R : Rs) (c q : Nat) : boK R c (q + 1) = boK R c q ++ (if Sf.isT (R.sh c) (q : Int) = true then boN R c q (nuI c).toNat else []) := by
  unfold boK
  rw [List.range_succ, List.flatMap_append]
  simp
theorem boT_succ (R : Rs) (p : Nat) : boT R (p + 1) = boT R p ++ boK R p (R.sh p).length := by
  unfold boT
  rw [List.range_succ, List.flatMap_append]
  simp
theorem nu_le (c : Nat) : (nuI c).toNat ≤ 32 := by
  by_cases h : c ≤ 23
  · have : ∀ c : Fin 24, (nuI (c : Nat)).toNat ≤ 32 := by decide +kernel
    exact this ⟨c, by omega⟩
  · have : perI c = 0 := by unfold perI; simp; omega
    unfold nuI
    rw [this]; decide
theorem boK_len (R : Rs) (c q : Nat) : (boK R c q).length ≤ 32 * q := by
  induction q with
  | zero => simp [boK]
  | succ q ih =>
    rw [boK_succ, List.length_append]
    have := boN_len R c q (nuI c).toNat
    have := nu_le c
    split
    · omega
    · simp only [List.length_nil]; omega
set_option maxRecDepth 20000 in
set_option maxHeartbeats 2000000 in
theorem i_blocksOf (gr : G17 w) (h : Things W w (hl x M R O ts)) (pk : PgOk M R) {c s : Nat} (hc : c ≤ 23) (hs : s < sn c) : Calls Tryz.prog 60 #[.pointer (some ⟨x.h, 0, none⟩), .int .i64 (c : Int), .int .i64 (s : Int)] w fun e w' => ∃ ad cap, e = .returned (.slice ad (boN R c s (nuI c).toNat).length cap) ∧ NumsAt w' ad (boN R c s (nuI c).toNat) ∧ (∀ b off, ad = some ⟨b, off, none⟩ → w.heap.size ≤ b) ∧ Fr (fun _ => False) w w' := by
  have T0 : Hid (Things w w [Rw w.heap.size (.slice none 0 0) (boN R c s 0)]) := (Things.start (Nw.start w)).more (Rw.good ..) (Rw.empty w.heap.size w) (Fr.refl _ _) fun _ e => e.elim
  have H1 := hid (per_any c w gr.1)
  have hm := max_is Tryz.prog (perI c) 1 (nuI c) (by unfold nuI; split <;> omega)
  have hsn := (pn_facts hc).2.1.2
  have HO : Hid (∀ (q : Nat) w1, q < (nuI c).toNat → Fr (fun _ => False) w w1 → Calls Tryz.prog 86 #[.int .i64 (c : Int), .int .i64 (s : Int), .int .i64 (q : Int)] w1 fun e w' => e = .returned (.tuple #[.int .i64 (adI c s q), .int .i64 0]) ∧ Fr (fun _ => False) w1 w') := fun q w1 hq f => by
    have hn := nu_le c
    have hp : PlT c s q := ⟨by omega, by rw [(pn_facts hc).2.2.2.2.1]; omega, by omega, by omega⟩
    refine (l_of c s q ⟨by omega, by omega⟩ ⟨by omega, by omega⟩ ⟨by omega, by omega⟩ (gr.fr f).k).mono fun e w' ⟨he, k⟩ => ?_
    have e1 : ofA c s q = adI c s q := if_pos hp
    have e2 : ofE c s q = 0 := if_pos hp
    rw [e1, e2] at he
    exact ⟨he, k.fr⟩
  have HH : Hid (∀ (q : Nat) w1, q < (nuI c).toNat → Fr (fun _ => False) w w1 → Calls Tryz.prog 95 #[.pointer (some ⟨x.h, 0, none⟩), .int .i64 (c : Int), .int .i64 (s : Int), .int .i64 (q : Int)] w1 fun e w' => e = .returned (.bool (hasR R c s q)) ∧ Fr (fun _ => False) w1 w') := fun q w1 hq f => i_has_f (gr.fr f) (h.kept f) pk hc hs (by have := nu_le c; exact ⟨by omega, by omega⟩)
  have hnu : nuI c = ((nuI c).toNat : Int) := by have := nu_pos c; omega
  have hn32 := nu_le c
  rw [hnu] at hm
  have HN : Hid (∀ q, boN R c s (q + 1) = boN R c s q ++ (if hasR R c s (q : Int) = true then [adI c s q] else [])) := boN_succ R c s
  have HL : Hid (∀ q, (boN R c s q).length ≤ q) := boN_len R c s
  clear gr h pk hc hs hnu hsn
  generalize (nuI c).toNat = n at *
  generalize perI c = pe at *
  go_enter Tryz.func60, Tryz.ntmps60
  go_wp2_with fail
  refine H1.out.mono ?_
  rintro e w1 ⟨rfl, hw⟩
  obtain rfl := hw.symm
  clear hw H1
  go_wp2_with fail
  go_loopw [7, 14] (fun y i wr => ∃ q : Nat, q ≤ n ∧ i = .int .i64 q ∧ Hid (Things w wr [Rw w.heap.size y (boN R c s q)])) (fun _ i _ => n - (intOf i).toNat)
  case atStart => exact ⟨0, by omega, rfl, T0⟩
  case round =>
    clear T0
    obtain ⟨q, hq, rfl, T⟩ := hrel
    by_cases hlt : q < n
    · have H2 := hid (HO.out q wr hlt T.out.nw.fr)
      have H3 : Hid (∀ w2, Fr (fun _ => False) w w2 → Calls Tryz.prog 95 #[.pointer (some ⟨x.h, 0, none⟩), .int .i64 (c : Int), .int .i64 (s : Int), .int .i64 (q : Int)] w2 fun e w' => e = .returned (.bool (hasR R c s q)) ∧ Fr (fun _ => False) w2 w') := fun w2 f => HH.out q w2 hlt f
      have E := HN.out q
      clear HO HH HN
      generalize adI c s q = ad at *
      generalize hasR R c s (q : Int) = b at *
      cases b
      · simp only [Bool.false_eq_true, if_false, List.append_nil] at E
        go_wp2_with fail
        refine H2.out.mono ?_
        rintro e w2 ⟨rfl, f2⟩
        have T2 := hid (T.out.kept f2)
        have H4 := hid (H3.out _ T2.out.nw.fr)
        clear f2 H2 H3 T
        go_wp2_with fail
        refine H4.out.mono ?_
        rintro e w3 ⟨rfl, f3⟩
        have T3 : Hid (Things w w3 [Rw w.heap.size u7 (boN R c s (q + 1))]) := by rw [E]; exact T2.out.kept f3
        clear f3 H4 T2 E
        go_wp2
        go_roundw
        case rel => exact ⟨q + 1, by omega, by go_num, T3⟩
        case measure => simp [intOf]; omega
      · simp only [if_true] at E
        go_wp2_with fail
        refine H2.out.mono ?_
        rintro e w2 ⟨rfl, f2⟩
        have T2 := hid (T.out.kept f2)
        have H4 := hid (H3.out _ T2.out.nw.fr)
        clear f2 H2 H3 T
        go_wp2_with fail
        refine H4.out.mono ?_
        rintro e w3 ⟨rfl, f3⟩
        have T3 := hid (T2.out.kept f3)
        have HR := hid (T3.out.push 0 rfl).1
        have hbs : w.heap.size ≤ w3.heap.size := T3.out.nw.le
        have hl := HL.out q
        clear f3 H4 T2
        go_wp2_with (at_builtin; refine push1s rfl (.tmp 33) (.tmp 35) rfl w.heap.size _ _ ad rfl (HR.out.alloc _) w3.heap.size rfl (by simp) (by omega) (by simp; omega) ?_)
        intro g cap6 w6 hown hg hw6
        have T6 : Hid (Things w w6 [Rw w.heap.size (.slice (some ⟨g, 0, none⟩) ((boN R c s q).length + 1) cap6) (boN R c s (q + 1))]) := by
          rw [E]
          exact (T3.out.push 0 rfl).2 ((Fr.refl _ _).alloc _) hown rfl hg (hw6.imp id fun e => by rw [e]; simp)
        clear hown hg hw6 HR T3 E hl
        generalize (boN R c s q).length + 1 = ln at *
        go_wp2
        go_roundw
        case rel => exact ⟨q + 1, by omega, by go_num, T6⟩
        case measure => simp [intOf]; omega
    · obtain rfl : q = n := by omega
      obtain ⟨U, hU, _⟩ := T.out.get 0 rfl
      obtain ⟨ad', cap', rfl, hn9, hb9⟩ := row_list hU.1
      have T9 : Hid (NumsAt wr ad' (boN R c s q) ∧ (∀ b off, ad' = some ⟨b, off, none⟩ → w.heap.size ≤ b) ∧ Fr (fun _ => False) w wr) := ⟨hn9, hb9, T.out.nw.fr⟩
      clear T hU hn9 hb9 HO HH HN HL
      go_wp2
      go_ret
      exact ⟨ad', cap', by simp, T9.out⟩
theorem boT_len (R : Rs) (hn : ∀ c, c < 24 → (R.sh c).length ≤ 256) : ∀ p, p ≤ 24 → (boT R p).length ≤ 8192 * p
  | 0, _ => by simp [boT]
  | p + 1, hp => by
    rw [boT_succ, List.length_append]
    have := boT_len R hn p (by omega)
    have h2 := boK_len R p (R.sh p).length
    have := hn p (by omega)
    omega
set_option maxRecDepth 20000 in
set_option maxHeartbeats 4000000 in
theorem i_blocks (gr : G17 w) (h : Things W w (hl x M R O ts)) (pk : PgOk M R) (hsl : ∀ c, c < 24 → (R.sh c).length = sn c) : Calls Tryz.prog 18 #[.pointer (some ⟨x.h, 0, none⟩)] w fun e w' => ∃ ad cap, e = .returned (.slice ad (boT R 24).length cap) ∧ NumsAt w' ad (boT R 24) ∧ (∀ b off, ad = some ⟨b, off, none⟩ → w.heap.size ≤ b) ∧ Fr (fun _ => False) w w' := by
  have T0 : Hid (Things w w [Rw w.heap.size (.slice none 0 0) (boT R 0)]) := (Things.start (Nw.start w)).more (Rw.good ..) (Rw.empty w.heap.size w) (Fr.refl _ _) fun _ e => e.elim
  have hb := z_blk h
  have HC : Hid (∀ j v, (ptrs24 x.A 24)[j]? = some v → w.cell? ⟨x.h, 4 + j, none⟩ = some v) := fun j v hv => by
    have hj : j < 24 := by have := (List.getElem?_eq_some_iff.1 hv).1; simpa [ptrs24] using this
    rw [hob_s hb hj, ← hv]
    simp [ptrs24, hj]
  have hsz : (Tryz.prog.info? 94).map (·.size) = some (ptrs24 x.A 24).length := by rw [size24]; simp [ptrs24]
  have HIX : Hid (∀ (j : Nat) (w : World), j < 24 → (Instr.index 94 (.agg (ptrs24 x.A 24).toArray) (.int .i64 (j : Int))).run Tryz.prog w = .ok (.pointer (some ⟨x.A j, 0, none⟩)) w) := fun j w hj => ix24 (by simp [ptrs24, hj]) hj w
  have HS : Hid (∀ (c : Nat) w1, c < 24 → Fr (fun _ => False) w w1 → Calls Tryz.prog 58 #[.pointer (some ⟨x.A c, 0, none⟩)] w1 fun e w' => e = .returned (.int .i64 (R.sh c).length) ∧ Fr (fun _ => False) w1 w') := fun c w1 hc f => z_ssize (h.kept f) hc
  have HT : Hid (∀ (c s : Nat) w1, c < 24 → Fr (fun _ => False) w w1 → Calls Tryz.prog 59 #[.pointer (some ⟨x.A c, 0, none⟩), .int .i64 (s : Int)] w1 fun e w' => e = .returned (.bool (Sf.isT (R.sh c) s)) ∧ Fr (fun _ => False) w1 w') := fun c s w1 hc f => z_staken (h.kept f) hc s
  have HB : Hid (∀ (c s : Nat) w1, c < 24 → s < (R.sh c).length → Fr (fun _ => False) w w1 → Calls Tryz.prog 60 #[.pointer (some ⟨x.h, 0, none⟩), .int .i64 (c : Int), .int .i64 (s : Int)] w1 fun e w' => ∃ ad cap, e = .returned (.slice ad (boN R c s (nuI c).toNat).length cap) ∧ NumsAt w' ad (boN R c s (nuI c).toNat) ∧ Fr (fun _ => False) w1 w') := fun c s w1 hc hs f => (i_blocksOf (gr.fr f) (h.kept f) pk (by omega) (by rw [← hsl c hc]; exact hs)).mono fun e w' ⟨ad, cap, he, h1, _, h3⟩ => ⟨ad, cap, he, h1, h3⟩
  have hn : ∀ c, c < 24 → (R.sh c).length ≤ 256 := fun c hc => by rw [hsl c hc]; exact (pn_facts (by omega)).2.1.2
  have HL : Hid (∀ p q, p < 24 → q ≤ (R.sh p).length → (boT R p ++ boK R p q).length ≤ 250000) := fun p q hp hq => by
    rw [List.length_append]
    have := boT_len R hn p (by omega)
    have := boK_len R p q
    have := hn p hp
    omega
  have HN := hid hn
  have HTS : Hid (∀ p, boT R (p + 1) = boT R p ++ boK R p (R.sh p).length) := boT_succ R
  have HKS : Hid (∀ c q, boK R c (q + 1) = boK R c q ++ (if Sf.isT (R.sh c) (q : Int) = true then boN R c q (nuI c).toNat else [])) := boK_succ R
  have HNL : Hid (∀ c s, (boN R c s (nuI c).toNat).length ≤ 32) := fun c s => by have := boN_len R c s (nuI c).toNat; have := nu_le c; omega
  clear gr h pk hsl hb hn
  go_enter Tryz.func18, Tryz.ntmps18
  go_wp2_with (refine wpList_load_part rfl 94 (.tmp 11) rfl x.h 4 rfl (ptrs24 x.A 24) _ HC.out Tryz.underlying94 rfl hsz ?_)
  go_simp
  clear HC hsz
  generalize (ptrs24 x.A 24).toArray = cs at *
  go_wp2_with fail
  go_loopw [3, 13] (fun y i wr => ∃ p : Nat, p ≤ 24 ∧ i = .int .i64 p ∧ Hid (Things w wr [Rw w.heap.size y (boT R p)])) (fun _ i _ => 24 - (intOf i).toNat)
  case atStart => exact ⟨0, by omega, rfl, T0⟩
  case round =>
    clear T0
    obtain ⟨p, hp, rfl, T⟩ := hrel
    by_cases hlt : p < 24
    · have hix := HIX.out p wr hlt
      have H1 := hid (HS.out p wr hlt T.out.nw.fr)
      have hn := HN.out p hlt
      clear HS HIX
      go_wp2_with fail
      refine H1.out.mono ?_
      rintro e w1 ⟨rfl, f1⟩
      have T1 : Hid (Things w w1 [Rw w.heap.size u3 (boT R p ++ boK R p 0)]) := by
        have := T.out.kept f1
        rw [show boK R p 0 = [] from rfl, List.append_nil]
        exact this
      clear f1 H1 T hix
      go_wp2_with fail
      go_loopw [3, 19] (fun y i wr => ∃ q : Nat, q ≤ (R.sh p).length ∧ i = .int .i64 q ∧ Hid (Things w wr [Rw w.heap.size y (boT R p ++ boK R p q)])) (fun _ i _ => (R.sh p).length - (intOf i).toNat)
      case atStart => exact ⟨0, by omega, rfl, T1⟩
      case round =>
        clear T1
        obtain ⟨q, hq, rfl, T⟩ := hrel
        by_cases hlt2 : q < (R.sh p).length
        · have H2 := hid (HT.out p q wr hlt T.out.nw.fr)
          have E := HKS.out p q
          cases hb : Sf.isT (R.sh p) (q : Int)
          · rw [hb] at H2 E
            simp only [Bool.false_eq_true, if_false, List.append_nil] at E
            clear HT HB
            go_wp2_with fail
            refine H2.out.mono ?_
            rintro e w2 ⟨rfl, f2⟩
            have T2 : Hid (Things w w2 [Rw w.heap.size u3 (boT R p ++ boK R p (q + 1))]) := by rw [E]; exact T.out.kept f2
            clear f2 H2 T E hb
            go_wp2
            go_roundw
            case rel => exact ⟨q + 1, by omega, by go_num, T2⟩
            case measure => simp [intOf]; omega
          · rw [hb] at H2 E
            simp only [if_true] at E
            have H3 : Hid (∀ w2, Fr (fun _ => False) w w2 → _) := fun w2 f => HB.out p q w2 hlt hlt2 f
            have hl1 := HL.out p q hlt hq
            have hl2 := HNL.out p q
            clear HT HB
            go_wp2_with fail
            refine H2.out.mono ?_
            rintro e w2 ⟨rfl, f2⟩
            have T2 := hid (T.out.kept f2)
            have H4 := hid (H3.out _ T2.out.nw.fr)
            clear f2 H2 T H3 hb
            go_wp2_with fail
            refine H4.out.mono ?_
            rintro e w3 ⟨ad, cap, rfl, hz, f3⟩
            have T3 := hid (T2.out.kept f3)
            obtain ⟨y', w4, hr, ho, hg, hbk⟩ := run_app17 24 (T3.out.push 0 rfl).1 cap hz (by omega) T3.out.nw.le
            have T4 : Hid (Things w w4 [Rw w.heap.size y' (boT R p ++ boK R p (q + 1))]) := by
              rw [E, ← List.append_assoc]
              exact T3.out.appRow 0 rfl ho hg hbk
            clear f3 H4 T2 T3 ho hg hbk hz E hl1 hl2
            go_wp2_with (at_builtin; refine wpList_app17 rfl (.tmp 25) (.tmp 29) 24 24 rfl rfl rfl hr ?_)
            go_wp2
            go_roundw
            case rel => exact ⟨q + 1, by omega, by go_num, T4⟩
            case measure => simp [intOf]; omega
        · obtain rfl : q = (R.sh p).length := by omega
          have T2 : Hid (Things w wr [Rw w.heap.size u3 (boT R (p + 1))]) := by rw [HTS.out p]; exact T.out
          clear T HT HB
          go_wp2
          go_roundw
          case rel => exact ⟨p + 1, by omega, by go_num, T2⟩
          case measure => simp [intOf]; omega
    · obtain rfl : p = 24 := by omega
      obtain ⟨U, hU, _⟩ := T.out.get 0 rfl
      obtain ⟨ad', cap', rfl, hn9, hb9⟩ := row_list hU.1
      have T9 : Hid (NumsAt wr ad' (boT R 24) ∧ (∀ b off, ad' = some ⟨b, off, none⟩ → w.heap.size ≤ b) ∧ Fr (fun _ => False) w wr) := ⟨hn9, hb9, T.out.nw.fr⟩
      clear T hU hn9 hb9 HS HT HB HIX HL HTS HKS HNL HN
      go_wp2
      go_ret
      exact ⟨ad', cap', by simp, T9.out⟩
end
end Go.Proofs.YtejbdbjccjkfdaaGreatDoor
