/-
  Two rows of sums of the call's own, side by side, and a pair that it wants.
-/
import Derived.Test.YtcocdbekahokaaaSuAt
import Derived.Test.YtcocdbekahokaaaSuTools
import Derived.Test.YtcocdbekahokaaaShOpen
namespace Go.Proofs.Ytcocdbekahokaaa
open Go.RowKit

/-- Sums as cells. -/
def cc (l : List (Int × Int)) : List Value := l.map fun p => Value.complex .f64 (fb p.1) (fb p.2)
theorem cc_length (l : List (Int × Int)) : (cc l).length = l.length := by simp [cc]
theorem cc_append (l m : List (Int × Int)) : cc (l ++ m) = cc l ++ cc m := by simp [cc]
theorem cc_one (l : List (Int × Int)) : ∀ u ∈ cc l, u.oneCell' = true := by
  intro v hv; simp only [cc, List.mem_map] at hv; obtain ⟨x, _, rfl⟩ := hv; rfl

/-- A law that began in W: it has laid a pair, and has two rows behind it, which know nothing of each other. -/
structure St (W w : World) (vl vm : Value) (ls ms : List (Int × Int)) (x y : Int) : Prop where
  fr : Fr (fun k => W.heap.size ≤ k) W w
  pair : At w W.heap.size x y
  rl : w.ownsRow (W.heap.size + 1) 23 1 vl ls.length (cc ls)
  rm : w.ownsRow (W.heap.size + 1) 23 1 vm ms.length (cc ms)
  ne : ∀ k, vl.ownBlock = some k → vm.ownBlock ≠ some k
  nm : ms = [] → vm = .slice none 0 0
section
variable {W w w' : World} {vl vm : Value} {ls ms : List (Int × Int)} {x y : Int}
theorem row_on {v : Value} {l : List (Int × Int)} {m : Nat} {S : Nat → Prop} (h : w.ownsRow m 23 1 v l.length (cc l)) (f : Fr S w w') (hs : ∀ i, v.ownBlock = some i → ¬ S i) : w'.ownsRow m 23 1 v l.length (cc l) := by
  refine ⟨h.1, ?_⟩
  rcases h.2 with hn | ⟨g, cap, cur, rfl, hb, hgg, rest⟩
  · exact .inl hn
  · refine .inr ⟨g, cap, cur, rfl, hb, ?_, rest⟩
    rw [f.block g (Array.getElem?_eq_some_iff.1 hgg).1 (hs g rfl)]
    exact hgg
theorem St.le (h : St W w vl vm ls ms x y) : W.heap.size + 1 ≤ w.heap.size := h.pair.lt
theorem St.on (h : St W w vl vm ls ms x y) (f : Fr (fun _ => False) w w') : St W w' vl vm ls ms x y :=
  ⟨h.fr.trans' f fun _ _ e => e.elim, h.pair.carry f, row_on h.rl f (fun _ _ => id), row_on h.rm f (fun _ _ => id), h.ne, h.nm⟩
theorem St.start (W : World) : St W (W.alloc (.cells #[.int .i64 0, .int .i64 0] 28)) (.slice none 0 0) (.slice none 0 0) [] [] 0 0 :=
  ⟨(Fr.refl _ _).alloc _, At.new W 0 0, World.ownsRow_nil _ _ _ _, World.ownsRow_nil _ _ _ _, fun k h => by simp [Value.ownBlock] at h, fun _ => rfl⟩
theorem St.put (h : St W w vl vm ls ms x y) (a b : Int) : St W ((w.setCell ⟨W.heap.size, 0, none⟩ (.int .i64 a)).setCell ⟨W.heap.size, 1, none⟩ (.int .i64 b)) vl vm ls ms a b := by
  have f : Fr (fun k => k = W.heap.size) w ((w.setCell ⟨W.heap.size, 0, none⟩ (.int .i64 a)).setCell ⟨W.heap.size, 1, none⟩ (.int .i64 b)) :=
    ((Fr.refl (fun k => k = W.heap.size) w).setCell (p := ⟨W.heap.size, 0, none⟩) (show W.heap.size = W.heap.size from rfl) (.int .i64 a)).setCell (p := ⟨W.heap.size, 1, none⟩) (show W.heap.size = W.heap.size from rfl) (.int .i64 b)
  refine ⟨h.fr.trans' f fun _ _ e => by subst e; exact Nat.le_refl _, h.pair.put a b, row_on h.rl f ?_, row_on h.rm f ?_, h.ne, h.nm⟩
  · intro i hi e; have := (h.rl.lt i hi).1; omega
  · intro i hi e; have := (h.rm.lt i hi).1; omega
theorem St.c0 (h : St W w vl vm ls ms x y) : w.cell? ⟨W.heap.size, 0, none⟩ = some (.int .i64 x) := h.pair.c0
theorem St.c1 (h : St W w vl vm ls ms x y) : w.cell? ⟨W.heap.size, 1, none⟩ = some (.int .i64 y) := h.pair.c1
theorem St.g0 (h : St W w vl vm ls ms x y) : w.frozen? ⟨W.heap.size, 0, none⟩ = false := h.pair.g0
theorem St.g1 (h : St W w vl vm ls ms x y) : w.frozen? ⟨W.heap.size, 1, none⟩ = false := h.pair.g1
theorem St.old (h : St W w vl vm ls ms x y) : Fr (fun _ => False) W w := Fr.new h.fr
theorem row_its {v : Value} {l : List (Int × Int)} {m : Nat} (h : w.ownsRow m 23 1 v l.length (cc l)) : ∃ ad cap, v = .slice ad (l.map Sum.inl : List It).length cap ∧ ItsAt w ad (l.map Sum.inl : List It) := by
  rcases h.2 with ⟨h1, h2⟩ | ⟨g, cap, cur, h1, h2, h3⟩
  · obtain rfl : l = [] := List.eq_nil_of_length_eq_zero h2
    exact ⟨none, 0, h1, fun i hi => by simp at hi⟩
  · refine ⟨some ⟨g, 0, none⟩, cap, by rw [List.length_map]; exact h1, fun i hi => ⟨g, 0, rfl, ?_⟩⟩
    have hi' : i < l.length := by simpa using hi
    have := h.cells (g := g) (by rw [h1]; rfl) i (.complex .f64 (fb l[i].1) (fb l[i].2)) (by simp [cc, hi'])
    rw [add_plain] at this
    rw [this]
    simp [itX, itY]
theorem all_so {l : List (Int × Int)} (h : AllRt l) : ∀ i ∈ (l.map Sum.inl : List It), itSo i := by
  intro i hi
  obtain ⟨p, hp, rfl⟩ := List.mem_map.1 hi
  exact h p hp
/-- What Total says of a row. -/
theorem row_total {v : Value} {l : List (Int × Int)} {m : Nat} (h : w.ownsRow m 23 1 v l.length (cc l)) (hl : l.length ≤ 1000) (hr : AllRt l) : Calls Try.prog 21 #[v] w fun e w' => e = .returned (.tuple #[.complex .f64 (fb (tot 0 0 l).1) (fb (tot 0 0 l).2.1), .int .i64 (tot 0 0 l).2.2]) ∧ w' = w := by
  obtain ⟨ad, cap, rfl, hi⟩ := row_its h
  have := t_total (c := cap) (by simp; omega) hi (all_so hr)
  rw [totI_ok] at this
  exact this
end

theorem infoSum : (Try.prog.info? 23).map (fun i => (i.zero, i.size, i.bytes)) = some (some (.complex .f64 0 0), 1, 16) := by kernel_rfl
theorem info_sum : ∃ i, Try.prog.info? 23 = some i ∧ i.zero = some (.complex .f64 0 0) ∧ i.size = 1 ∧ i.bytes = 16 := by
  have h := infoSum
  cases hq : Try.prog.info? 23 with
  | none => rw [hq] at h; cases h
  | some i =>
    rw [hq] at h
    simp only [Option.map_some, Option.some.injEq, Prod.mk.injEq] at h
    exact ⟨i, rfl, h.1, h.2.1, h.2.2⟩

section
variable {W w : World} {vl vm : Value} {ls ms : List (Int × Int)} {x y : Int}
/-- One more behind the first row. -/
theorem wpList_l (p : Int × Int) (h : St W w vl vm ls ms x y) (hk : ls.length ≤ 1000)
    {ops : Array Oper} {rest : List Oper} {o : Oper} {ac : Act} {Q : Exit → Act → World → Prop} (hgd : o.guard = none) (t1 t2 : Operand)
    (ho : o.op = .call { callee := .builtin .append, args := #[t1, t2], argTypes := #[41, 41] })
    (hs : ac.eval t1 = vl) (hx : ac.eval t2 = .slice (some ⟨w.heap.size, 0, none⟩) 1 1)
    (K : ∀ g cap w', St W w' (.slice (some ⟨g, 0, none⟩) (ls.length + 1) cap) vm (ls ++ [p]) ms x y → wpList Try.prog ops Q rest (ac.put o.dst (.slice (some ⟨g, 0, none⟩) (ls.length + 1) cap)) w') :
    wpList Try.prog ops Q (o :: rest) ac (w.alloc (.cells #[.complex .f64 (fb p.1) (fb p.2)] 23)) := by
  obtain ⟨i0, hi, hz0, hz1, hz2⟩ := info_sum
  have hle := h.le
  refine wpList_append_sep hgd t1 t2 41 ho (W.heap.size + 1) 23 i0 (.complex .f64 0 0) 1 16 Try.underlying41 hi hz0 hz1 hz2 rfl (by decide) vl _ _ hs (h.rl.alloc _) ⟨w.heap.size, 0, none⟩ 1 1 (by decide) [.complex .f64 (fb p.1) (fb p.2)] hx rfl ?_ ?_ (by unfold maxLen; omega) (by omega) (by simp; omega) ?_
  · intro j u hj
    match j, hj with
    | 0, hj => simp at hj; subst hj; simp [Addr.add]
  · intro u hu; simp at hu; subst hu; rfl
  · intro g cap w1 hown hgrow hsep
    have h1 := h.on ((Fr.refl (fun _ => False) w).alloc (.cells #[.complex .f64 (fb p.1) (fb p.2)] 23))
    generalize hw : w.alloc (.cells #[.complex .f64 (fb p.1) (fb p.2)] 23) = w2 at *
    have hf : Fr (fun k => vl.ownBlock = some k) w2 w1 := (Fr.refl _ _).grown hgrow (fun k e => .inl e)
    refine K g cap w1 ⟨h1.fr.trans' hf fun k hk e => by have := (h1.rl.lt k e).1; omega, ⟨?_⟩, ?_, row_on h1.rm hf (fun i hi e => h1.ne i e hi), ?_, h1.nm⟩
    · rw [hf.block _ h1.pair.lt (fun e => by have := (h1.rl.lt _ e).1; omega)]; exact h1.pair.heap
    · rw [cc_append, List.length_append]; exact hown
    · intro k e e2
      simp [Value.ownBlock] at e
      subst e
      rcases hsep with e3 | e3
      · exact h1.ne g e3 e2
      · have := (h1.rm.lt g e2).2; omega
theorem run_append_none {P : Program} {w : World} (t ty e : TypeId) (i : TypeInfo) (ht : P.underlying t = some (.slice e)) (hi : P.info? e = some i) (g n cap : Nat) (hn : n ≤ cap) :
    (Builtin.append_ #[t, t] ty #[.slice (some ⟨g, 0, none⟩) n cap, .slice none 0 0]).run P w = .ok (.slice (some ⟨g, 0, none⟩) n cap) w := by
  simp [Builtin.append_, run_underlying ht, sizeOf, typeInfo, hi, Builtin.lenOf, Builtin.firstCells, storeCells, hn]
/-- One more ahead of the second row. -/
theorem wpList_m (p : Int × Int) (h : St W w vl vm ls ms x y) (hk : ms.length ≤ 1000)
    {ops : Array Oper} {rest : List Oper} {o : Oper} {ac : Act} {Q : Exit → Act → World → Prop} (hgd : o.guard = none) (t1 t2 : Operand)
    (ho : o.op = .call { callee := .builtin .append, args := #[t1, t2], argTypes := #[41, 41] })
    (hs : ac.eval t1 = .slice (some ⟨w.heap.size, 0, none⟩) 1 1) (hx : ac.eval t2 = vm)
    (K : ∀ g cap w', St W w' vl (.slice (some ⟨g, 0, none⟩) (ms.length + 1) cap) ls (p :: ms) x y → wpList Try.prog ops Q rest (ac.put o.dst (.slice (some ⟨g, 0, none⟩) (ms.length + 1) cap)) w') :
    wpList Try.prog ops Q (o :: rest) ac (w.alloc (.cells #[.complex .f64 (fb p.1) (fb p.2)] 23)) := by
  obtain ⟨i0, hi, hz0, hz1, hz2⟩ := info_sum
  have hle := h.le
  have h1 := h.on ((Fr.refl (fun _ => False) w).alloc (.cells #[.complex .f64 (fb p.1) (fb p.2)] 23))
  have hnew : (w.alloc (.cells #[.complex .f64 (fb p.1) (fb p.2)] 23)).ownsRow (W.heap.size + 1) 23 1 (.slice (some ⟨w.heap.size, 0, none⟩) 1 1) 1 (cc [p]) :=
    ⟨by simp [cc], .inr ⟨w.heap.size, 1, _, rfl, hle, heap_alloc_new w _, Nat.le_refl _, by unfold maxLen; omega, rfl, by simp [cc]⟩⟩
  have hlt : ∀ k, vl.ownBlock = some k → k < w.heap.size := fun k e => (h.rl.lt k e).2
  have hsz : (w.alloc (.cells #[.complex .f64 (fb p.1) (fb p.2)] 23)).heap.size = w.heap.size + 1 := by simp
  generalize (w.alloc (.cells #[.complex .f64 (fb p.1) (fb p.2)] 23)) = w2 at *
  cases hms : ms with
  | nil =>
    have hv := h1.nm hms
    subst hms
    subst hv
    refine wpList_plain hgd fun KK hKK => ?_
    have hr := run_append_none (P := Try.prog) (w := w2) 41 o.type 23 i0 Try.underlying41 hi w.heap.size 1 1 (Nat.le_refl _)
    unfold Oper.wp
    simp [execOp, ho, resolve, invoke, builtin, hs, hx, hr, Result.andThen]
    refine hKK _ _ (K w.heap.size 1 w2 ⟨h1.fr, h1.pair, h1.rl, hnew, ?_, fun e => by simp at e⟩)
    intro k e e2
    simp [Value.ownBlock] at e2
    have := hlt k e
    omega
  | cons q qs =>
    obtain ⟨g0, cap0, hv⟩ : ∃ g0 cap0, vm = .slice (some ⟨g0, 0, none⟩) ms.length cap0 := by
      rcases h1.rm.2 with ⟨_, h2⟩ | ⟨g, cap, cur, h2, _⟩
      · rw [hms] at h2; simp at h2
      · exact ⟨g, cap, h2⟩
    have hpos : 0 < ms.length := by rw [hms]; simp
    clear hms
    refine wpList_append_sep hgd t1 t2 41 ho (W.heap.size + 1) 23 i0 (.complex .f64 0 0) 1 16 Try.underlying41 hi hz0 hz1 hz2 rfl (by decide) _ 1 (cc [p]) hs hnew ⟨g0, 0, none⟩ ms.length cap0 hpos (cc ms) (by rw [hx]; exact hv) (by rw [cc_length, Nat.mul_one]) (h1.rm.cells (by rw [hv]; rfl)) (cc_one ms) (by unfold maxLen; omega) (by omega) (by omega) ?_
    intro g cap w1 hown hgrow hsep
    have hf : Fr (fun k => k = w.heap.size) w2 w1 := (Fr.refl _ _).grown hgrow (fun k e => .inl (by simpa [Value.ownBlock] using e.symm))
    rw [Nat.add_comm 1 ms.length] at hown ⊢
    refine K g cap w1 ⟨h1.fr.trans' hf fun k hk e => by omega, ⟨?_⟩, row_on h1.rl hf (fun i hi e => by have := hlt i hi; omega), ?_, ?_, fun e => by simp at e⟩
    · rw [hf.block _ h1.pair.lt (fun e => by omega)]; exact h1.pair.heap
    · exact hown
    · intro k e e2
      simp [Value.ownBlock] at e2
      have := hlt k e
      rcases hsep with e3 | e3
      · simp [Value.ownBlock] at e3; omega
      · omega
end
end Go.Proofs.Ytcocdbekahokaaa
