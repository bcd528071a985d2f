/-
  A quota as three pairs of numbers, and what each call answers and leaves: plain mathematics off the document. Nothing of the program is named here.
-/
import Derived.Test.YtnlaocokjilncaaSuSpec
namespace Go.Proofs.Ytnlaocokjilncaa

/-- Limit, charged, reserved: bytes and pages of each. -/
structure QS where
  lb : Int
  lp : Int
  cb : Int
  cp : Int
  rb : Int
  rp : Int
/-- Nothing is below 0, and charged and reserved together fit the limit. -/
structure QS.Ok (s : QS) : Prop where
  lim : Rt s.lb s.lp
  cb0 : 0 ≤ s.cb
  cp0 : 0 ≤ s.cp
  rb0 : 0 ≤ s.rb
  rp0 : 0 ≤ s.rp
  fb1 : s.cb + s.rb ≤ s.lb
  fp1 : s.cp + s.rp ≤ s.lp
abbrev QS.Room (s : QS) (a b : Int) : Prop := s.cb + s.rb + a ≤ s.lb ∧ s.cp + s.rp + b ≤ s.lp
abbrev QS.Had (s : QS) (a b : Int) : Prop := a ≤ s.rb ∧ b ≤ s.rp
abbrev QS.Paid (s : QS) (a b : Int) : Prop := a ≤ s.cb ∧ b ≤ s.cp
abbrev QS.Held (s : QS) (a b : Int) : Prop := s.cb + s.rb ≤ a ∧ s.cp + s.rp ≤ b
def resE (s : QS) (a b : Int) : Int := if s.Room a b then 0 else 3
def resS (s : QS) (a b : Int) : QS := if s.Room a b then ⟨s.lb, s.lp, s.cb, s.cp, s.rb + a, s.rp + b⟩ else s
def comE (s : QS) (a b : Int) : Int := if s.Had a b then 0 else 12
def comS (s : QS) (a b : Int) : QS := if s.Had a b then ⟨s.lb, s.lp, s.cb + a, s.cp + b, s.rb - a, s.rp - b⟩ else s
def canE (s : QS) (a b : Int) : Int := if s.Had a b then 0 else 12
def canS (s : QS) (a b : Int) : QS := if s.Had a b then ⟨s.lb, s.lp, s.cb, s.cp, s.rb - a, s.rp - b⟩ else s
def refE (s : QS) (a b : Int) : Int := if s.Paid a b then 0 else 12
def refS (s : QS) (a b : Int) : QS := if s.Paid a b then ⟨s.lb, s.lp, s.cb - a, s.cp - b, s.rb, s.rp⟩ else s
def rszE (s : QS) (a b : Int) : Int := if s.Held a b then 0 else 3
def rszS (s : QS) (a b : Int) : QS := if s.Held a b then ⟨a, b, s.cb, s.cp, s.rb, s.rp⟩ else s
/-- A new one, and the document's empty one. -/
def newQ (a b : Int) : QS := ⟨a, b, 0, 0, 0, 0⟩
theorem newQ_ok {a b : Int} (h : Rt a b) : (newQ a b).Ok := ⟨h, Int.le_refl _, Int.le_refl _, Int.le_refl _, Int.le_refl _, by simp only [newQ]; unfold Rt at h; omega, by simp only [newQ]; unfold Rt at h; omega⟩
section
variable {s : QS} {a b : Int}
theorem QS.Ok.char (h : s.Ok) : Rt s.cb s.cp := by obtain ⟨h1, h2, h3, h4, h5, h6, h7⟩ := h; unfold Rt at *; omega
theorem QS.Ok.rsv (h : s.Ok) : Rt s.rb s.rp := by obtain ⟨h1, h2, h3, h4, h5, h6, h7⟩ := h; unfold Rt at *; omega
theorem QS.Ok.both (h : s.Ok) : Rt (s.cb + s.rb) (s.cp + s.rp) := by obtain ⟨h1, h2, h3, h4, h5, h6, h7⟩ := h; unfold Rt at *; omega
theorem resS_ok (h : s.Ok) (r : Rt a b) : (resS s a b).Ok := by
  unfold resS; split
  · rename_i g; obtain ⟨h1, h2, h3, h4, h5, h6, h7⟩ := h; unfold Rt at *; exact ⟨h1, h2, h3, by simp only; omega, by simp only; omega, by simp only; omega, by simp only; omega⟩
  · exact h
theorem comS_ok (h : s.Ok) (r : Rt a b) : (comS s a b).Ok := by
  unfold comS; split
  · rename_i g; obtain ⟨h1, h2, h3, h4, h5, h6, h7⟩ := h; unfold Rt at *; exact ⟨h1, by simp only; omega, by simp only; omega, by simp only; omega, by simp only; omega, by simp only; omega, by simp only; omega⟩
  · exact h
theorem canS_ok (h : s.Ok) (r : Rt a b) : (canS s a b).Ok := by
  unfold canS; split
  · rename_i g; obtain ⟨h1, h2, h3, h4, h5, h6, h7⟩ := h; unfold Rt at *; exact ⟨h1, h2, h3, by simp only; omega, by simp only; omega, by simp only; omega, by simp only; omega⟩
  · exact h
theorem refS_ok (h : s.Ok) (r : Rt a b) : (refS s a b).Ok := by
  unfold refS; split
  · rename_i g; obtain ⟨h1, h2, h3, h4, h5, h6, h7⟩ := h; unfold Rt at *; exact ⟨h1, by simp only; omega, by simp only; omega, h4, h5, by simp only; omega, by simp only; omega⟩
  · exact h
theorem rszS_ok (h : s.Ok) (r : Rt a b) : (rszS s a b).Ok := by
  unfold rszS; split
  · rename_i g; obtain ⟨h1, h2, h3, h4, h5, h6, h7⟩ := h; exact ⟨r, h2, h3, h4, h5, g.1, g.2⟩
  · exact h
end
/-- An operation by its number: 1 Reserve, 2 Commit, 3 Cancel, 4 Refund, 5 Resize, of a sum that may be none; else nothing is done. -/
def stepS (s : QS) (k a b : Int) : QS :=
  if Rt a b then (if k = 1 then resS s a b else if k = 2 then comS s a b else if k = 3 then canS s a b else if k = 4 then refS s a b else if k = 5 then rszS s a b else s) else s
def stepE (s : QS) (k a b : Int) : Int :=
  if Rt a b then (if k = 1 then resE s a b else if k = 2 then comE s a b else if k = 3 then canE s a b else if k = 4 then refE s a b else if k = 5 then rszE s a b else 0) else 12
theorem stepS_ok {s : QS} (h : s.Ok) (k a b : Int) : (stepS s k a b).Ok := by
  unfold stepS
  by_cases r : Rt a b
  · rw [if_pos r]
    repeat' split
    · exact resS_ok h r
    · exact comS_ok h r
    · exact canS_ok h r
    · exact refS_ok h r
    · exact rszS_ok h r
    · exact h
  · rw [if_neg r]; exact h
end Go.Proofs.Ytnlaocokjilncaa
