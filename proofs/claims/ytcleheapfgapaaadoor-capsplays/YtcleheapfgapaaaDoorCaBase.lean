/-
  The handles of one tenant: which ones are good, what each call answers and leaves: plain mathematics off the document. Nothing of the program is named here.
-/
import Derived.Test.YtcleheapfgapaaaDoorHaBase
namespace Go.Proofs.YtcleheapfgapaaaDoor

/-- A slot that isn't free: its number, rights, serial, and its object's address. -/
structure Sl where
  s : Int
  r : Int
  n : Int
  a : Int
/-- A table: its tenant, the next serial, the slots that aren't free, rising. -/
structure Ct where
  T : Int
  nx : Int
  L : List Sl
def Sl.bits (T : Int) (x : Sl) : Int := pkB T x.s x.r x.n
/-- A table that may be. -/
structure Ct.Ok (c : Ct) : Prop where
  t : 0 ≤ c.T ∧ c.T ≤ 7
  nx : 1 ≤ c.nx ∧ c.nx ≤ 17592186044416
  srt : c.L.Pairwise fun x y => x.s < y.s
  kr : ∀ x ∈ c.L, KR c.T x.s x.r x.n ∧ x.n < c.nx ∧ 0 ≤ x.a
def newC (t n : Int) : Ct := ⟨t, n, []⟩
theorem newC_ok {t n : Int} (h : (0 ≤ t ∧ t ≤ 7) ∧ 1 ≤ n ∧ n ≤ 17592186044416) : (newC t n).Ok := ⟨h.1, h.2, List.Pairwise.nil, fun x hx => by cases hx⟩
/-- The lowest free slot from one on, and ahead of how many slots of the list it stands. -/
def scan : List Sl → Int → Nat × Int
  | [], s => (0, s)
  | x :: l, s => if x.s ≤ s then ((scan l (if x.s = s then s + 1 else s)).1 + 1, (scan l (if x.s = s then s + 1 else s)).2) else (0, s)
/-- Can one more be put there? -/
abbrev Ct.can (c : Ct) (lo hi : Int) : Prop := (scan c.L lo).2 < hi ∧ c.nx < 17592186044416
def Ct.slot (c : Ct) (lo r a : Int) : Sl := ⟨(scan c.L lo).2, r, c.nx, a⟩
def plE (c : Ct) (lo hi : Int) : Int := if c.can lo hi then 0 else 10
def plV (c : Ct) (lo hi r : Int) : Int := if c.can lo hi then (c.slot lo r 0).bits c.T else 0
def plS (c : Ct) (lo hi r a : Int) : Ct := if c.can lo hi then ⟨c.T, c.nx + 1, c.L.take (scan c.L lo).1 ++ c.slot lo r a :: c.L.drop (scan c.L lo).1⟩ else c
def grE (c : Ct) (a : Int) : Int := if a < 0 then 12 else plE c 0 4096
def grV (c : Ct) (a : Int) : Int := if a < 0 then 0 else plV c 0 4096 7
def grS (c : Ct) (a : Int) : Ct := if a < 0 then c else plS c 0 4096 7 a
/-- The slot whose bits these are. -/
def look (c : Ct) (h : Int) : Option Sl := c.L.find? fun x => x.bits c.T == h
/-- All of some rights are among others. -/
def sub (p q : Int) : Bool := decide ((q % 2 = 1 → p % 2 = 1) ∧ (q / 2 % 2 = 1 → p / 2 % 2 = 1) ∧ (q / 4 % 2 = 1 → p / 4 % 2 = 1))
abbrev fiOk (x : Sl) (r : Int) : Prop := (0 ≤ r ∧ r ≤ 7) ∧ sub x.r r = true
def fiE (c : Ct) (h r : Int) : Int := match look c h with
  | some x => if fiOk x r then 0 else 5
  | none => 5
def fiV (c : Ct) (h r : Int) : Int := match look c h with
  | some x => if fiOk x r then x.a else 0
  | none => 0
def reE (c : Ct) (h r : Int) : Int := match look c h with
  | some x => if 1 ≤ r ∧ r ≤ 7 then (if sub x.r r then plE c 4096 4160 else 5) else 2
  | none => 5
def reV (c : Ct) (h r : Int) : Int := match look c h with
  | some x => if 1 ≤ r ∧ r ≤ 7 then (if sub x.r r then plV c 4096 4160 r else 0) else 0
  | none => 0
def reS (c : Ct) (h r : Int) : Ct := match look c h with
  | some x => if 1 ≤ r ∧ r ≤ 7 then (if sub x.r r then plS c 4096 4160 r x.a else c) else c
  | none => c
def rvS (c : Ct) (a : Int) : Ct := ⟨c.T, c.nx, c.L.filter fun x => decide (x.a ≠ a)⟩
def rvN (c : Ct) (a : Int) : Nat := c.L.length - (c.L.filter fun x => decide (x.a ≠ a)).length

/-- What the look for a free slot finds, in a rising list. -/
theorem scan_spec : ∀ (l : List Sl) (s : Int), l.Pairwise (fun x y => x.s < y.s) → (∀ x ∈ l, True) →
    (scan l s).1 ≤ l.length ∧ s ≤ (scan l s).2 ∧ (∀ x ∈ l, x.s ≠ (scan l s).2) ∧ (∀ i (h : i < l.length), i < (scan l s).1 ↔ l[i].s < (scan l s).2) ∧ (∀ q, s ≤ q → q < (scan l s).2 → ∃ x ∈ l, x.s = q) ∧ (scan l s).2 ≤ s + l.length
  | [], s, _, _ => by simp [scan]
  | x :: l, s, hp, _ => by
    rw [List.pairwise_cons] at hp
    obtain ⟨hx, hl⟩ := hp
    unfold scan
    by_cases h : x.s ≤ s
    · rw [if_pos h]
      obtain ⟨g1, g2, g3, g4, g5, g6⟩ := scan_spec l (if x.s = s then s + 1 else s) hl (fun _ _ => trivial)
      generalize hsc : scan l (if x.s = s then s + 1 else s) = sc at *
      have hs' : s ≤ sc.2 ∧ x.s < sc.2 := by split at g2 <;> omega
      refine ⟨by simp only [List.length_cons]; omega, hs'.1, ?_, ?_, ?_, ?_⟩
      · intro y hy
        rcases List.mem_cons.1 hy with rfl | hy
        · show y.s ≠ sc.2; omega
        · exact g3 y hy
      · intro i hi
        cases i with
        | zero => simp only [List.getElem_cons_zero]; exact ⟨fun _ => hs'.2, fun _ => by show 0 < sc.1 + 1; omega⟩
        | succ i =>
          simp only [List.getElem_cons_succ]
          have := g4 i (by simpa using hi)
          show i + 1 < sc.1 + 1 ↔ _
          omega
      · intro q hq1 hq2
        by_cases e : x.s = q
        · exact ⟨x, List.mem_cons_self .., e⟩
        · obtain ⟨y, hy, e2⟩ := g5 q (by split <;> omega) hq2
          exact ⟨y, List.mem_cons_of_mem _ hy, e2⟩
      · simp only [List.length_cons]
        show sc.2 ≤ _
        split at g6 <;> omega
    · rw [if_neg h]
      refine ⟨by simp, by show s ≤ s; omega, ?_, ?_, ?_, ?_⟩
      · intro y hy
        rcases List.mem_cons.1 hy with rfl | hy
        · show y.s ≠ s; omega
        · have := hx y hy; show y.s ≠ s; omega
      · intro i hi
        show i < 0 ↔ _ < s
        cases i with
        | zero => simp only [List.getElem_cons_zero]; omega
        | succ i =>
          simp only [List.getElem_cons_succ]
          have := hx _ (List.getElem_mem (l := l) (n := i) (by simpa using hi))
          omega
      · intro q hq1 hq2
        have : q < s := hq2
        omega
      · show s ≤ _; omega
section
variable {c : Ct} {lo hi r a : Int}
theorem Ct.Ok.slot_ok (h : c.Ok) (hlo : 0 ≤ lo) (hhi : hi ≤ 4160) (hr : 1 ≤ r ∧ r ≤ 7) (hc : c.can lo hi) : KR c.T (scan c.L lo).2 r c.nx := by
  obtain ⟨_, g2, _⟩ := scan_spec c.L lo h.srt (fun _ _ => trivial)
  have := h.t
  have := h.nx
  have := hc.1
  have := hc.2
  unfold KR
  omega
theorem plS_ok (h : c.Ok) (hlo : 0 ≤ lo) (hhi : hi ≤ 4160) (hr : 1 ≤ r ∧ r ≤ 7) (ha : 0 ≤ a) : (plS c lo hi r a).Ok := by
  unfold plS
  split
  · rename_i hc
    have hk := h.slot_ok hlo hhi hr hc
    obtain ⟨g1, g2, g3, g4, g5, _⟩ := scan_spec c.L lo h.srt (fun _ _ => trivial)
    have hn := h.nx
    have hc2 := hc.2
    refine ⟨h.t, ⟨by show 1 ≤ c.nx + 1; omega, by show c.nx + 1 ≤ _; omega⟩, ?_, ?_⟩
    · show (c.L.take (scan c.L lo).1 ++ c.slot lo r a :: c.L.drop (scan c.L lo).1).Pairwise _
      have hsp : (c.L.take (scan c.L lo).1 ++ c.L.drop (scan c.L lo).1).Pairwise fun x y => x.s < y.s := by rw [List.take_append_drop]; exact h.srt
      rw [List.pairwise_append] at hsp ⊢
      refine ⟨hsp.1, ?_, ?_⟩
      · rw [List.pairwise_cons]
        refine ⟨fun y hy => ?_, hsp.2.1⟩
        obtain ⟨i, hi', e⟩ := List.getElem_of_mem hy
        rw [List.getElem_drop] at e
        rw [List.length_drop] at hi'
        have h1 := g4 ((scan c.L lo).1 + i) (by omega)
        have h2 := g3 y (List.mem_of_mem_drop hy)
        rw [e] at h1
        show (scan c.L lo).2 < y.s
        omega
      · intro x hx y hy
        rcases List.mem_cons.1 hy with rfl | hy
        · obtain ⟨i, hi', e⟩ := List.getElem_of_mem hx
          rw [List.getElem_take] at e
          rw [List.length_take] at hi'
          have h1 := g4 i (by omega)
          rw [e] at h1
          show x.s < (scan c.L lo).2
          omega
        · exact hsp.2.2 x hx y hy
    · intro x hx
      show KR c.T x.s x.r x.n ∧ x.n < c.nx + 1 ∧ 0 ≤ x.a
      rcases List.mem_append.1 hx with hx | hx
      · obtain ⟨k1, k2, k3⟩ := h.kr x (List.mem_of_mem_take hx); exact ⟨k1, by omega, k3⟩
      · rcases List.mem_cons.1 hx with rfl | hx
        · exact ⟨hk, by show c.nx < c.nx + 1; omega, ha⟩
        · obtain ⟨k1, k2, k3⟩ := h.kr x (List.mem_of_mem_drop hx); exact ⟨k1, by omega, k3⟩
  · exact h
theorem grS_ok (h : c.Ok) (a : Int) : (grS c a).Ok := by
  unfold grS
  split
  · exact h
  · exact plS_ok h (by omega) (by omega) (by omega) (by omega)
theorem look_mem {h : Int} {x : Sl} (hl : look c h = some x) : x ∈ c.L ∧ x.bits c.T = h := by
  unfold look at hl
  refine ⟨List.mem_of_find?_eq_some hl, ?_⟩
  have := List.find?_some hl
  simpa using this
theorem look_none {h : Int} (hl : look c h = none) : ∀ x ∈ c.L, x.bits c.T ≠ h := by
  unfold look at hl
  rw [List.find?_eq_none] at hl
  intro x hx e
  exact hl x hx (by simpa using e)
theorem reS_ok (h : c.Ok) (b r : Int) : (reS c b r).Ok := by
  unfold reS
  split
  · rename_i x hx
    split
    · rename_i hr
      split
      · exact plS_ok h (by omega) (by omega) hr (h.kr x (look_mem hx).1).2.2
      · exact h
    · exact h
  · exact h
theorem rvS_ok (h : c.Ok) (a : Int) : (rvS c a).Ok :=
  ⟨h.t, h.nx, h.srt.filter _, fun x hx => h.kr x (List.mem_filter.1 hx).1⟩
/-- Of one table, unlike slots have unlike bits. -/
theorem bits_alike (h : c.Ok) {x y : Sl} (hx : x ∈ c.L) (hy : y ∈ c.L) (e : x.bits c.T = y.bits c.T) : x.s = y.s ∧ x.r = y.r ∧ x.n = y.n :=
  let ⟨_, h1, h2, h3⟩ := (alike (h.kr x hx).1 (h.kr y hy).1).1 e
  ⟨h1, h2, h3⟩
theorem srt_alike (h : c.Ok) {x y : Sl} (hx : x ∈ c.L) (hy : y ∈ c.L) (e : x.s = y.s) : x = y := by
  obtain ⟨i, hi, rfl⟩ := List.getElem_of_mem hx
  obtain ⟨j, hj, rfl⟩ := List.getElem_of_mem hy
  rcases Nat.lt_trichotomy i j with k | k | k
  · have := List.pairwise_iff_getElem.1 h.srt i j hi hj k; omega
  · subst k; rfl
  · have := List.pairwise_iff_getElem.1 h.srt j i hj hi k; omega
theorem look_at (h : c.Ok) {x : Sl} (hx : x ∈ c.L) : look c (x.bits c.T) = some x := by
  cases hl : look c (x.bits c.T) with
  | none => exact (look_none hl x hx rfl).elim
  | some y =>
    obtain ⟨hy, e⟩ := look_mem hl
    rw [srt_alike h hy hx (bits_alike h hy hx e).1]
end
end Go.Proofs.YtcleheapfgapaaaDoor
