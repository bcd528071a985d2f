/-
  Which blocks are had: mathematics.
  Blocks stay as their owners wrote them: mathematics.
  What a part of a block's bytes being written leaves of a heap: the same as if the whole block were written, with its other bytes as they were.
  What a tenant's calls leave: the mathematics of one that keeps its word.
  How many pages the colours of a window have.
  What the calls of package tenant do: New.
-/
import Derived.Test.YtioplfbkfokkfaaGreatDoorHpView
import Derived.Test.YtioplfbkfokkfaaGreatDoorViOver
import Derived.Test.YtioplfbkfokkfaaGreatDoorTnCallsI
import Derived.Test.YtioplfbkfokkfaaGreatDoorCqCalls
import Derived.Test.YtioplfbkfokkfaaGreatDoorViIn
import Derived.Test.YtioplfbkfokkfaaGreatDoorSeen
namespace Go.Proofs.YtioplfbkfokkfaaGreatDoor
open Go.RowKit
open An

/-- A block is had. -/
def HadB (L : List Hd) (c s j : Nat) : Prop := ∃ x ∈ L, x.kind = c ∧ x.slot = s ∧ (c ≤ 7 → x.pg.Had j) ∧ j < (nuI c).toNat
section
variable {C : Nat → Prop} {k : Nat} {M : Ms} {H : Hp} {L : List Hd} {c s j : Nat}
end
end Go.Proofs.YtioplfbkfokkfaaGreatDoor

namespace Go.Proofs.YtioplfbkfokkfaaGreatDoor
open Go.RowKit
open An

section
variable {C : Nat → Prop} {k : Nat} {M M' : Ms} {H : Hp} {T T' : Tb} {bs bs' : List UInt8}
end
end Go.Proofs.YtioplfbkfokkfaaGreatDoor

namespace Go.Proofs.YtioplfbkfokkfaaGreatDoor
open Go.RowKit
open An

/-- Bytes laid over others. -/
def patch (o ds : List UInt8) (f : Nat) : List UInt8 := o.take f ++ ds ++ o.drop (f + ds.length)
theorem patch_length {o ds : List UInt8} {f : Nat} (h : f + ds.length ≤ o.length) : (patch o ds f).length = o.length := by
  unfold patch
  simp only [List.length_append, List.length_take, List.length_drop]
  omega
theorem patch_in {o ds : List UInt8} {f i : Nat} (h : f + ds.length ≤ o.length) (h1 : f ≤ i) (h2 : i < f + ds.length) : (patch o ds f)[i]? = ds[i - f]? := by
  unfold patch
  rw [List.append_assoc, List.getElem?_append_right (by simp; omega), List.getElem?_append_left (by simp; omega)]
  congr 1
  simp only [List.length_take]
  omega
theorem patch_out {o ds : List UInt8} {f i : Nat} (h : f + ds.length ≤ o.length) (h1 : i < f ∨ f + ds.length ≤ i) : (patch o ds f)[i]? = o[i]? := by
  unfold patch
  rcases h1 with h1 | h1
  · rw [List.append_assoc, List.getElem?_append_left (by simp; omega), List.getElem?_take_of_lt h1]
  · rw [List.getElem?_append_right (by simp; omega), List.getElem?_drop]
    congr 1
    simp only [List.length_append, List.length_take]
    omega
section
variable {T : Tb} {a : Int} {N n f m : Nat} {bs ds : List UInt8}
/-- A part of what is seen is seen. -/
theorem Seen17.part (h : Seen17 T N a n) (hm : f + m ≤ n) : Seen17 T N (a + f) m := by
  have hw : InWt a n := (piE_zero h.ok.1).1
  refine seen_of ⟨by omega, by omega, by omega, by omega⟩ fun i hi => ?_
  have := h.at_ (f + i) (by omega)
  rw [show a + ((f + i : Nat) : Int) = a + f + i by omega] at this
  exact ⟨this.1, this.2.2⟩
/-- Each byte, as it is read behind that. -/
theorem Seen17.here (h : Seen17 T bs.length a n) (ok : TbOk T) (hd : ds.length = n) {i : Nat} (hi : i < n) : lb T (vwB T bs a ds) (a + i) = ds[i] := by
  have hs := h.same ok hd
  have h2 : ((List.range n).map fun i : Nat => lb T (vwB T bs a ds) (a + i))[i]? = ds[i]? := by rw [hs]
  rw [List.getElem?_map, List.getElem?_range hi, List.getElem?_eq_getElem (by omega)] at h2
  exact Option.some.inj h2
theorem Seen17.at_lb (h : Seen17 T bs.length a n) {i : Nat} (hi : i < n) {q : Nat} (e : (q : Int) = phys T (a + i)) : bs[q]? = some (lb T bs (a + i)) := by
  have h1 := (h.at_ i hi).2.2
  unfold lb
  rw [← e, Int.toNat_natCast, List.getElem?_eq_getElem (by omega)]
  rfl
/-- A part being written is the whole being written. -/
theorem write_part (h : Seen17 T bs.length a n) (ok : TbOk T) (hf : f + ds.length ≤ n) : vwB T bs (a + f) ds = vwB T bs a (patch ((List.range n).map fun i : Nat => lb T bs (a + i)) ds f) := by
  have hp := h.part (f := f) (m := ds.length) hf
  have hlo : ((List.range n).map fun i : Nat => lb T bs (a + i)).length = n := by simp
  have hlp := patch_length (o := (List.range n).map fun i : Nat => lb T bs (a + i)) (ds := ds) (f := f) (by rw [hlo]; exact hf)
  rw [hlo] at hlp
  have l1 := hp.wlen ok rfl
  have l2 := h.wlen ok hlp
  apply List.ext_getElem?
  intro q
  by_cases hq : ∃ i : Nat, i < n ∧ (q : Int) = phys T (a + i)
  · obtain ⟨i, hi, e⟩ := hq
    have h2 : Seen17 T (vwB T bs a (patch ((List.range n).map fun i : Nat => lb T bs (a + i)) ds f)).length a n := by rw [l2]; exact h
    rw [h2.at_lb hi e, h.here ok hlp hi]
    by_cases hin : f ≤ i ∧ i < f + ds.length
    · have e2 : (q : Int) = phys T (a + f + ((i - f : Nat) : Int)) := by rw [e]; congr 1; omega
      have h3 : Seen17 T (vwB T bs (a + f) ds).length (a + f) ds.length := by rw [l1]; exact hp
      rw [h3.at_lb (by omega) e2, hp.here ok rfl (by omega)]
      have := patch_in (o := (List.range n).map fun i : Nat => lb T bs (a + i)) (by rw [hlo]; exact hf) hin.1 hin.2
      rw [List.getElem?_eq_getElem (by omega), List.getElem?_eq_getElem (by omega)] at this
      exact this.symm
    · rw [hp.far ok rfl q fun i' hi' e3 => hin ?_, h.at_lb hi e]
      · have := patch_out (o := (List.range n).map fun i : Nat => lb T bs (a + i)) (ds := ds) (f := f) (i := i) (by rw [hlo]; exact hf) (by omega)
        rw [List.getElem?_eq_getElem (by omega), List.getElem?_map, List.getElem?_range hi] at this
        exact this.symm
      · have := phys_one ok (a := a + i) (b := a + f + i') (h.at_ i hi).1 (hp.at_ i' hi').1 (by omega)
        omega
  · rw [hp.far ok rfl q fun i hi e => hq ⟨f + i, by omega, by rw [e]; congr 1; omega⟩, h.far ok hlp q fun i hi e => hq ⟨i, hi, e⟩]
end
section
variable {C : Nat → Prop} {M : Ms} {H : Hp} {c s j f m k : Nat} {ds : List UInt8}
/-- What is written into a part of a block that is had. -/
theorem HpOk.writePart (h : HpOk C M H) (ok : MsOk M) (hb : HadB H.L c s j) (hf : f + ds.length ≤ (unitI c).toNat) {ss' : List Sp} : Left17 C M H ⟨M.has, vwB H.T M.bs (adI c s j + f) ds, ss'⟩ H := by
  obtain ⟨x, hx, rfl, rfl, hh, hj⟩ := hb
  rw [write_part (blk_seen h ok hx hj) h.tp.tb hf]
  exact h.write ok hx hj hh (by rw [patch_length (by simpa using hf)]; simp)
theorem hc_few {T : Tb} (ok : TbOk T) (N : Nat) (ss : List Sp) (x : Int) {n : Int} (hn : n ≤ 16384) : (vrT T N ss x n).length ≤ ss.length + 34 ∧ (vwT T N ss x n).length ≤ ss.length + 34 := by
  unfold vrT vwT
  split
  · rename_i hv
    have := (hv.apt ok).2.2.1
    simp only [List.length_append, tch, List.length_map]
    omega
  · omega
theorem Hc.wrote (h : Hc k M H) (hb : HadB H.L c s j) (hf : f + ds.length ≤ (unitI c).toNat) {ss' : List Sp} (hs : ss'.length ≤ 890000) : Hc k ⟨M.has, vwB H.T M.bs (adI c s j + f) ds, ss'⟩ H := by
  have l := h.ok.writePart h.ms hb hf (ss' := ss')
  exact ⟨l.ok, l.ms, h.k1, h.k2, hs, h.W⟩
theorem Hc.notes (h : Hc k M H) {ss' : List Sp} (hs : ss'.length ≤ 890000) : Hc k ⟨M.has, M.bs, ss'⟩ H :=
  ⟨⟨⟨h.ok.tp.tb, h.ok.tp.tk⟩, h.ok.nd, h.ok.at_, h.ok.dom, h.ok.cov, h.ok.sm, h.ok.ln⟩, ⟨h.ms.len, h.ms.cap, h.ms.cl⟩, h.k1, h.k2, hs, h.W⟩
end
end Go.Proofs.YtioplfbkfokkfaaGreatDoor

namespace Go.Proofs.YtioplfbkfokkfaaGreatDoor
open Go.RowKit
open An

/-- A quota of which nothing is reserved, and no pages. -/
structure Plain (s : Qt.QS) : Prop where
  ok : s.Ok
  rb : s.rb = 0
  rp : s.rp = 0
  cp : s.cp = 0
  lp : s.lp = 0
section
variable {s : Qt.QS} {a : Int} {k : Nat} {S : TnS} {n : Int}
end
end Go.Proofs.YtioplfbkfokkfaaGreatDoor

namespace Go.Proofs.YtioplfbkfokkfaaGreatDoor
open Go.RowKit

/-- The colours that a window names, each once. -/
def dstp (n k : Nat) (acc : List Int) (c : Int) : List Int := if 0 ≤ c ∧ Cq.colI n k c = c ∧ c ∉ acc then acc ++ [c] else acc
def dcl (n k : Nat) (l : List Int) : List Int := l.foldl (dstp n k) []
def pgI (n k : Nat) (l : List Int) : Int := ((dcl n k l).length : Int) * ((n / k : Nat) : Int)
theorem dcl_take {n k : Nat} {l : List Int} {q : Nat} (h : q < l.length) : dcl n k (l.take (q + 1)) = dstp n k (dcl n k (l.take q)) l[q] := by
  unfold dcl
  rw [List.take_add_one, List.getElem?_eq_getElem h, Option.toList_some, List.foldl_append]
  rfl
theorem dcl_ok {n k : Nat} (hk : 0 < k) : ∀ (l acc : List Int), (acc.Nodup ∧ ∀ x ∈ acc, 0 ≤ x ∧ x < (k : Int)) → (l.foldl (dstp n k) acc).Nodup ∧ ∀ x ∈ l.foldl (dstp n k) acc, 0 ≤ x ∧ x < (k : Int) := by
  intro l
  induction l with
  | nil => exact fun _ h => h
  | cons c l ih =>
    intro acc h
    refine ih _ ?_
    unfold dstp
    split
    · rename_i hc
      obtain ⟨h0, h1, h2⟩ := hc
      have h3 : c < (k : Int) := by
        unfold Cq.colI at h1
        split at h1
        · have := Nat.mod_lt c.toNat hk
          omega
        · omega
      refine ⟨?_, fun x hx => ?_⟩
      · rw [List.nodup_append]
        exact ⟨h.1, by simp, fun a ha b hb => by simp at hb; subst hb; exact fun e => h2 (e ▸ ha)⟩
      · rcases List.mem_append.1 hx with hx | hx
        · exact h.2 x hx
        · simp at hx; subst hx; exact ⟨h0, h3⟩
    · exact h
theorem dcl_length {n k : Nat} (hk : 0 < k) (l : List Int) : (dcl n k l).length ≤ k := by
  have h := dcl_ok (n := n) hk l [] ⟨List.nodup_nil, by simp⟩
  exact Cq.nodup_short k _ h.1 h.2
section
variable {w : World} {m n k : Nat} {ad : Option Addr} {l : List Int}
set_option maxRecDepth 20000 in
set_option maxHeartbeats 2000000 in
theorem n_pages (cap : Nat) (hC : ∀ w1 (c : Int), Fr (fun _ => False) w w1 → Calls Tryz.prog 66 #[.pointer (some ⟨m, 0, none⟩), .int .i64 c] w1 fun e w' => e = .returned (.int .i64 (Cq.colI n k c)) ∧ ∃ n, w' = w1.drewN n)
    (hE : ∀ w1, Fr (fun _ => False) w w1 → Calls Tryz.prog 68 #[.pointer (some ⟨m, 0, none⟩)] w1 fun e w' => e = .returned (.int .i64 (n / k : Nat)) ∧ Fr (fun _ => False) w1 w')
    (hn : n ≤ 4096) (hk : 0 < k) (hk2 : k ≤ 32) (hl : NumsAt w ad l) (hm : l.length ≤ 17592186044416) : Calls Tryz.prog 29 #[.pointer (some ⟨m, 0, none⟩), .slice ad l.length cap] w fun e w' => e = .returned (.int .i64 (pgI n k l)) ∧ Nw w w' := by
  have HC := hid hC
  have HE := hid hE
  have HN := hid hl
  have hnk : n / k ≤ n := Nat.div_le_self _ _
  have T0 : Hid (Things w w [Rw 0 (.slice none 0 0) (dcl n k (l.take 0))]) := (Things.start (Nw.start w)).more (Rw.good ..) (Rw.empty 0 w) (Fr.refl _ _) fun _ e => e.elim
  have HD := hid fun (q : Nat) => dcl_length (n := n) hk (l.take q)
  have HQ : Hid (∀ q (h : q < l.length), dcl n k (l.take (q + 1)) = dstp n k (dcl n k (l.take q)) l[q]) := fun q h => dcl_take h
  have HP : Hid (pgI n k l = ((dcl n k (l.take l.length)).length : Int) * ((n / k : Nat) : Int)) := by rw [List.take_length]; rfl
  generalize pgI n k l = pg at *
  clear hC hE hl
  generalize n / k = each at *
  go_enter Tryz.func29, Tryz.ntmps29
  go_wp2
  go_loopw [5, 10] (fun y i wr => ∃ q : Nat, q ≤ l.length ∧ i = .int .i64 q ∧ Hid (Things w wr [Rw 0 y (dcl n k (l.take q))])) (fun _ i _ => l.length - (intOf i).toNat)
  case atStart => exact ⟨0, by omega, rfl, T0⟩
  case round =>
    obtain ⟨q, hq, rfl, T⟩ := hrel
    clear T0
    by_cases hlt : q < l.length
    · obtain ⟨yad, ycap, rfl, hy⟩ := T.out.row 0 rfl
      obtain ⟨bb, off, rfl, _, kc⟩ := (HN.out.fr T.out.nw.fr) q hlt
      have hlen := HD.out q
      have hs := HQ.out q hlt
      unfold dstp at hs
      have HC1 : Hid (∀ w1, Fr (fun _ => False) wr w1 → Calls Tryz.prog 66 #[.pointer (some ⟨m, 0, none⟩), .int .i64 l[q]] w1 fun e w' => e = .returned (.int .i64 (Cq.colI n k l[q])) ∧ ∃ n, w' = w1.drewN n) := fun w1 f => HC.out _ _ (T.out.nw.fr.trans f)
      have HX : Hid (∀ w1, Fr (fun _ => False) wr w1 → Calls Tryz.prog 67 #[.slice yad (dcl n k (l.take q)).length ycap, .int .i64 l[q]] w1 fun e w' => e = .returned (.bool (decide (l[q] ∈ dcl n k (l.take q)))) ∧ w' = w1) := fun w1 f => Cq.has_any ycap (fun i hi => (hy.fr f) i hi) (by omega) _
      clear HC HD HQ HP HN hy
      generalize l[q] = c at *
      generalize hys : dcl n k (l.take (q + 1)) = ys' at *
      have HY := hid hys
      clear hys
      generalize dcl n k (l.take q) = ys at *
      generalize Cq.colI n k c = cc at *
      by_cases h0 : 0 ≤ c
      · by_cases h1 : cc = c
        · by_cases h2 : c ∈ ys
          · have T0 : Hid (Things w wr [Rw 0 (.slice yad ys.length ycap) ys']) := by
              rw [hs, if_neg (fun h => h.2.2 h2)]
              exact T
            rw [decide_eq_true h2] at HX
            subst h1
            clear hs T h2 hlen
            go_wp2_with fail
            refine (HC1.out _ (Fr.refl _ _)).mono ?_
            rintro e w1 ⟨rfl, n1, rfl⟩
            have T1 := hid (T0.out.kept ((Fr.refl _ _).drewN n1))
            go_wp2_with fail
            refine (HX.out _ ((Fr.refl _ _).drewN n1)).mono ?_
            rintro e w2 ⟨rfl, rfl⟩
            go_wp2
            go_roundw
            case rel => exact ⟨q + 1, by omega, by go_num, by rw [HY.out]; exact T1⟩
            case measure => simp [intOf]; omega
          · have T0 := T
            have HS2 : Hid (ys' = ys ++ [c]) := by rw [hs, if_pos ⟨h0, h1, h2⟩]; rfl
            rw [decide_eq_false h2] at HX
            subst h1
            clear hs T h2
            go_wp2_with fail
            refine (HC1.out _ (Fr.refl _ _)).mono ?_
            rintro e w1 ⟨rfl, n1, rfl⟩
            have T1 := hid (T0.out.kept ((Fr.refl _ _).drewN n1))
            go_wp2_with fail
            refine (HX.out _ ((Fr.refl _ _).drewN n1)).mono ?_
            rintro e w2 ⟨rfl, rfl⟩
            have HR1 := hid (T1.out.push 0 rfl).1
            clear HX HC1 kc T0
            generalize wr.drewN n1 = w1 at *
            go_wp2_with (at_builtin; refine push1s rfl (.tmp 29) (.tmp 31) rfl 0 _ _ cc rfl (HR1.out.alloc _) w1.heap.size rfl (by simp) (by omega) (by omega) ?_)
            intro g cap6 w6 hown hg hw6
            have T6 : Hid (Things w w6 [Rw 0 (.slice (some ⟨g, 0, none⟩) (ys.length + 1) cap6) ys']) := by
              rw [HS2.out]
              exact (T1.out.push 0 rfl).2 ((Fr.refl _ _).alloc _) hown rfl hg (hw6.imp id fun e => by rw [e]; simp)
            clear hown hg hw6 HR1 T1 hlen HS2
            generalize ys.length + 1 = ln at *
            go_wp2
            go_roundw
            case rel => exact ⟨q + 1, by omega, by go_num, by rw [HY.out]; exact T6⟩
            case measure => simp [intOf]; omega
        · have hb1 : (cc == c) = false := by simpa using h1
          have T0 : Hid (Things w wr [Rw 0 (.slice yad ys.length ycap) ys']) := by
            rw [hs, if_neg (fun h => h1 h.2.1)]
            exact T
          clear hs T h1 hlen HX
          go_wp2_with fail
          refine (HC1.out _ (Fr.refl _ _)).mono ?_
          rintro e w1 ⟨rfl, n1, rfl⟩
          have T1 := hid (T0.out.kept ((Fr.refl _ _).drewN n1))
          go_wp2
          go_roundw
          case rel => exact ⟨q + 1, by omega, by go_num, by rw [HY.out]; exact T1⟩
          case measure => simp [intOf]; omega
      · have T0 : Hid (Things w wr [Rw 0 (.slice yad ys.length ycap) ys']) := by
          rw [hs, if_neg (fun h => h0 h.1)]
          exact T
        clear hs T hlen HX HC1
        go_wp2
        go_roundw
        case rel => exact ⟨q + 1, by omega, by go_num, by rw [HY.out]; exact T0⟩
        case measure => simp [intOf]; omega
    · obtain rfl : q = l.length := by omega
      obtain ⟨yad, ycap, rfl, hy⟩ := T.out.row 0 rfl
      have hlen := HD.out l.length
      have HE1 := hid fun w1 f => HE.out w1 (T.out.nw.fr.trans f)
      have hp := HP.out
      generalize (dcl n k (l.take l.length)).length = dl at *
      have hw : IntKind.i64.wrap ((dl : Int) * (each : Int)) = (dl : Int) * (each : Int) := by
        have h1 : dl * each ≤ 32 * 4096 := Nat.mul_le_mul (by omega) (by omega)
        have h2 : ((dl * each : Nat) : Int) = (dl : Int) * (each : Int) := by simp
        rw [IntKind.wrap_i64]
        omega
      generalize hpr : (dl : Int) * (each : Int) = pr at *
      have HPR := hid hpr
      have HPP := hid hp
      have T1 := hid T.out.nw
      clear hpr hp HP T hy hlen HC HE HN HD HQ
      go_wp2_with fail
      refine (HE1.out _ (Fr.refl _ _)).mono ?_
      rintro e w1 ⟨rfl, f1⟩
      have T2 := hid (T1.out.kept f1)
      clear f1 T1 HE1
      go_wp2
      go_ret
      exact ⟨by simp; rw [HPR.out, HPP.out]; exact (IntWalk.i64_left pr).symm.trans hw, T2.out⟩
end
end Go.Proofs.YtioplfbkfokkfaaGreatDoor

namespace Go.Proofs.YtioplfbkfokkfaaGreatDoor
open Go.RowKit
open An

/-- Things side by side, in another order. -/
theorem Things.order {W w : World} {ts ts' : List (World → (Nat → Prop) → Prop)} (h : Things W w ts) (f g : Nat → Nat) (hf : ∀ j, j < ts.length → f j < ts'.length ∧ g (f j) = j) (hg : ∀ j, j < ts'.length → g j < ts.length ∧ f (g j) = j ∧ ts'[j]? = ts[g j]?) : Things W w ts' := by
  obtain ⟨o, h1, h2, h3, h4⟩ := h
  have key : ∀ i, o i ≠ 0 → (if o i = 0 then 0 else f (o i - 1) + 1) = f (o i - 1) + 1 := fun i hi => if_neg hi
  refine ⟨fun i => if o i = 0 then 0 else f (o i - 1) + 1, ⟨h1.nw, fun i hi => h1.dom i fun e => hi (if_pos e)⟩, fun i => ?_, fun P hP => ?_, fun j P hj => ?_⟩
  · by_cases e : o i = 0
    · simp [e]
    · simp only [key i e]
      have := h2 i
      have := (hf (o i - 1) (by omega)).1
      omega
  · obtain ⟨j, hj, rfl⟩ := List.getElem_of_mem hP
    have := (hg j hj).2.2
    rw [List.getElem?_eq_getElem hj] at this
    exact h3 _ (List.mem_of_getElem? this.symm)
  · have hjl := (List.getElem?_eq_some_iff.1 hj).1
    obtain ⟨g1, g2, g3⟩ := hg j hjl
    rw [hj] at g3
    refine (h3 P (List.mem_of_getElem? g3.symm)).mono (h4 (g j) P g3.symm) (fun i hi => ?_) (fun i hi => ?_)
    · show (if o i = 0 then 0 else f (o i - 1) + 1) = j + 1
      unfold lab at hi
      rw [key i (by omega), hi]
      simp [g2]
    · have hi' : (if o i = 0 then 0 else f (o i - 1) + 1) = j + 1 := hi
      have : o i ≠ 0 := fun e => by rw [if_pos e] at hi'; omega
      exact (h1.dom i this).2
/-- The last one comes to stand further ahead. -/
theorem Things.rot {W w : World} {Q : World → (Nat → Prop) → Prop} (ls rs : List (World → (Nat → Prop) → Prop)) (h : Things W w (ls ++ rs ++ [Q])) : Things W w (ls ++ Q :: rs) := by
  refine h.order (fun j => if j < ls.length then j else if j = ls.length + rs.length then ls.length else j + 1) (fun j => if j < ls.length then j else if j = ls.length then ls.length + rs.length else j - 1) (fun j hj => ?_) fun j hj => ?_
  · simp only [List.length_append, List.length_cons, List.length_nil] at hj ⊢
    constructor
    · split
      · omega
      · split <;> omega
    · by_cases h1 : j < ls.length
      · simp [h1]
      · by_cases h2 : j = ls.length + rs.length
        · simp only [if_neg h1, if_pos h2, Nat.lt_irrefl, if_false, if_true]
          omega
        · simp only [if_neg h1, if_neg h2, if_neg (show ¬ j + 1 < ls.length by omega), if_neg (show ¬ j + 1 = ls.length by omega)]
          omega
  · simp only [List.length_append, List.length_cons, List.length_nil] at hj ⊢
    by_cases h1 : j < ls.length
    · simp only [if_pos h1]
      refine ⟨by omega, trivial, ?_⟩
      rw [List.getElem?_append_left h1, List.append_assoc, List.getElem?_append_left h1]
    · by_cases h2 : j = ls.length
      · subst h2
        simp only [if_neg h1, if_true]
        refine ⟨by omega, ?_, ?_⟩
        · rw [if_neg (by omega)]
        · simp
      · simp only [if_neg h1, if_neg h2]
        refine ⟨by omega, ?_, ?_⟩
        · rw [if_neg (by omega), if_neg (by omega)]
          omega
        · rw [List.getElem?_append_right (by omega), List.append_assoc, List.getElem?_append_right (by omega), List.getElem?_append_left (by omega)]
          obtain ⟨d, rfl⟩ : ∃ d, j = ls.length + 1 + d := ⟨j - ls.length - 1, by omega⟩
          rw [show ls.length + 1 + d - ls.length = d + 1 by omega, show ls.length + 1 + d - 1 - ls.length = d by omega]
          rfl
section
variable {w : World} {a m k : Nat} {U : Nat → Prop} {M : Ms} {W : List Int} {ad : Option Addr} {cap : Nat}
set_option maxRecDepth 20000 in
set_option maxHeartbeats 4000000 in
theorem y_newk (h : Both (Ac a m k M) (Lv ad W) w U) (gr : G17 w) (fu : Apart17 U) (_ms : MsOk M) (_h1 : 1 ≤ k) (_h2 : k ≤ 32) (hW : W.length ≤ 17592186044416) : Calls Tryz.prog 25 #[.pointer (some ⟨a, 0, none⟩), .pointer (some ⟨m, 0, none⟩), .slice ad W.length cap] w fun e w' => ∃ h t U', e = .returned (.tuple #[.pointer (some ⟨h, 0, none⟩), .int .i64 0]) ∧ Both (Hs a m h t k M ⟨W, [], [], fun _ => []⟩) (Lv ad W) w' U' ∧ Gw w w' U U' := by
  have cx := cx_old gr fu
  have hlt := h.lt
  have T0 := (Things.begin (Both.good (Ac.good ..) (Lv.good ..)) h hlt).open2 0 (P := Ac a m k M) (Q := Lv ad W) rfl (Ac.good ..) (Lv.good ..)
  have H1 : Hid (Calls Tryz.prog 59 #[.slice ad W.length cap] w fun e w' => ∃ ad' cap', e = .returned (.slice ad' W.length cap') ∧ Things (Bare w) w' [Ac a m k M, Old w U, Lv ad W, Lv ad' W]) := (cl17 cap (T0.nums 2 rfl) hW).mono fun e w' ⟨⟨ad', cap', he, hn, hb⟩, f⟩ => ⟨ad', cap', he, T0.more (Lv.good _ _) (Lv.new hn) f fun i ⟨⟨off, e⟩, h0⟩ => ⟨hb i off e, (Lv.new hn).2.2 i ⟨⟨off, e⟩, h0⟩⟩⟩
  have H2 : Hid (∀ w1 ad', Things (Bare w) w1 [Ac a m k M, Old w U, Lv ad W, Lv ad' W] → Calls Tryz.prog 60 #[] w1 fun e w' => ∃ t, e = .returned (.pointer (some ⟨t, 0, none⟩)) ∧ Things (Bare w) w' [Ac a m k M, Old w U, Lv ad W, Lv ad' W, Tm t []]) := fun w1 ad' h1 => (c_new w1).mono fun e w' ⟨t, Z, he, k1, k2, k3⟩ => ⟨t, he, h1.more (Tm.good t []) k1 k2 k3⟩
  have H3 : Hid (∀ w1 ad' cap' t, Things (Bare w) w1 [Ac a m k M, Old w U, Lv ad W, Lv ad' W, Tm t []] → Calls Tryz.prog 61 #[.pointer (some ⟨w1.heap.size, 0, none⟩)] (w1.alloc (gob (.pointer (some ⟨a, 0, none⟩)) (.pointer (some ⟨m, 0, none⟩)) (.slice ad' W.length cap') (.pointer (some ⟨t, 0, none⟩)) (fun _ => .pointer none) (fun _ => .pointer none) (.map none))) fun e w' => e = .returned (.int .i64 0) ∧ ∃ U', Both (Hs a m w1.heap.size t k M ⟨W, [], [], fun _ => []⟩) (Lv ad W) w' U' ∧ Gw w w' U U') := fun w1 ad' cap' t h1 => by
    have h2 := (h1.blk (gob (.pointer (some ⟨a, 0, none⟩)) (.pointer (some ⟨m, 0, none⟩)) (.slice ad' W.length cap') (.pointer (some ⟨t, 0, none⟩)) (fun _ => .pointer none) (fun _ => .pointer none) (.map none))).swapAt 2 5 rfl rfl (by decide)
    refine (i_begin cx (b := w1.heap.size) h2).mono ?_
    rintro e w' ⟨he, A, B, N', pb, h3⟩
    refine ⟨he, ?_⟩
    have h4 := h3.open2 0 (P := Am 104 a M.bs M.ss) (Q := Ct m k M.has) rfl (Am.good ..) (Ct.good ..)
    have h5 := h4.swapAt 3 9 rfl rfl (by decide)
    have h6 := h5.swapAt 5 9 rfl rfl (by decide)
    have h7 : Things (Bare w) w' ([Am 104 a M.bs M.ss, Old w U, Blk w1.heap.size (gob (.pointer (some ⟨a, 0, none⟩)) (.pointer (some ⟨m, 0, none⟩)) (.slice ad' W.length cap') (.pointer (some ⟨t, 0, none⟩)) (pvp 24 A (fun _ => .pointer none)) (pvp 8 N' (fun _ => .pointer none)) (.map (some pb))), Ct m k M.has, Tm t [], Lv ad' W, Fam 24 (shp 24 A B), Fam 8 (lnp 8 N'), Mg pb 0 (fun _ => none)] ++ [Lv ad W]) := h6
    obtain ⟨x', ⟨e1, e2, e3, e4, e5⟩, h8⟩ := begun (x := ⟨a, m, w1.heap.size, t, k, ad', cap', A, B, N', pb⟩) (h7.join 1 (P := Old w U) rfl)
    have h9 := (Hz.closed h8).open2 1 (P := Old w U) (Q := Lv ad W) rfl (Old.good ..) (Lv.good ..)
    have h10 := Things.join (ts := [Hz x' M _, Old w U]) h9 0 rfl
    obtain ⟨U', p1, p2⟩ := Things.finish (ts := []) h10 hlt
    obtain ⟨Z1, Y1, z1, z2⟩ := p1
    have := z1.back (rep_empty (Wd := W))
    rw [e1, e2, e3, e4, e5] at this
    exact ⟨U', ⟨Z1, Y1, this, z2⟩, p2⟩
  clear T0 cx hlt h gr fu hW
  generalize W.length = wl at *
  go_enter Tryz.func25, Tryz.ntmps25
  go_wp2_with fail
  refine H1.out.mono ?_
  rintro e w1 ⟨ad', cap', rfl, h1⟩
  have H4 := hid (H2.out _ _ h1)
  clear h1 H1 H2
  go_wp2_with fail
  refine H4.out.mono ?_
  rintro e w2 ⟨t, rfl, h2⟩
  have H5 := hid (H3.out _ _ cap' _ h2)
  clear h2 H3 H4
  go_wp2_with fail
  refine H5.out.mono ?_
  rintro e w3 ⟨rfl, U', k1, k2⟩
  have T3 := hid (And.intro k1 k2)
  clear k1 k2 H5
  go_wp2
  go_ret2
  exact ⟨w2.heap.size, t, U', by simp, T3.out⟩
end
section
variable {W w : World} {ts : List (World → (Nat → Prop) → Prop)} {a m k : Nat} {M : Ms} {l : List Int} {ad : Option Addr} {cap : Nat}
/-- One heap; the numbers that name its window still lie there. -/
theorem q_newk (q : Things W w ts) (gr : G17 W) (j : Nat) (hj : ts[j]? = some (Both (Ac a m k M) (Lv ad l))) (ms : MsOk M) (h1 : 1 ≤ k) (h2 : k ≤ 32) (hl : l.length ≤ 17592186044416) : Calls Tryz.prog 25 #[.pointer (some ⟨a, 0, none⟩), .pointer (some ⟨m, 0, none⟩), .slice ad l.length cap] w fun e w' => ∃ h t, e = .returned (.tuple #[.pointer (some ⟨h, 0, none⟩), .int .i64 0]) ∧ Things W w' (ts.set j (Both (Hs a m h t k M ⟨l, [], [], fun _ => []⟩) (Lv ad l))) := by
  obtain ⟨Z, p1, p0, p2⟩ := q.turn j hj
  exact (y_newk p1 (gr.fr q.nw.fr) (apart_of gr fun i hi => (p0 i hi).1) ms h1 h2 hl).mono fun e w' ⟨h, t, U', he, r, f⟩ => ⟨h, t, he, p2 _ w' U' (Both.good (Hs.good ..) (Lv.good ..)) r f⟩
/-- What a new tenant has. -/
def newT (M : Ms) (l : List Int) (i n q : Int) : TnS := ⟨M, ⟨l, [], [], fun _ => []⟩, ⟨i, n, []⟩, Qt.newQ (okA q 0) (okB q 0), fun _ => none, 0⟩
set_option maxRecDepth 20000 in
set_option maxHeartbeats 1000000 in
theorem n_new_ok (g : Things W w (Both (Ac a m k M) (Lv ad l) :: ts)) (gr : G17 W) (ms : MsOk M) (h1 : 1 ≤ k) (h2 : k ≤ 32) (hM : M.has.length ≤ 4096) (hl : l.length ≤ 17592186044416) {i n q : Int} (hi : (0 ≤ i ∧ i ≤ 7) ∧ 1 ≤ n ∧ n ≤ 17592186044416) {E : Int} (hE : fitE 0 q q (pgI M.has.length k l) = E) : Calls Tryz.prog 7 #[.pointer (some ⟨a, 0, none⟩), .pointer (some ⟨m, 0, none⟩), .int .i64 i, .int .i64 n, .int .i64 q, .slice ad l.length cap] w fun e w' => ∃ x : Tp, (x.a = a ∧ x.m = m ∧ x.k = k ∧ x.id = i ∧ x.pk = q) ∧ e = .returned (.tuple #[.pointer (if E = 0 then some ⟨x.T, 0, none⟩ else none), .int .i64 E]) ∧ Things W w' (tnl x (newT M l i n q) (Lv ad l :: ts)) := by
  have H1 : Hid (Calls Tryz.prog 25 #[.pointer (some ⟨a, 0, none⟩), .pointer (some ⟨m, 0, none⟩), .slice ad l.length cap] w fun e w' => ∃ h t, e = .returned (.tuple #[.pointer (some ⟨h, 0, none⟩), .int .i64 0]) ∧ Things W w' (Hs a m h t k M ⟨l, [], [], fun _ => []⟩ :: Lv ad l :: ts)) := (q_newk (cap := cap) g gr 0 rfl ms h1 h2 (by omega)).mono fun e w' ⟨h, t, he, g1⟩ => ⟨h, t, he, by
    have g2 := g1.open2 0 (P := Hs a m h t k M ⟨l, [], [], fun _ => []⟩) (Q := Lv ad l) rfl (Hs.good ..) (Lv.good ..)
    exact Things.rot [Hs a m h t k M ⟨l, [], [], fun _ => []⟩] ts g2⟩
  have H2 : Hid (∀ w h t, Things W w (Hs a m h t k M ⟨l, [], [], fun _ => []⟩ :: Lv ad l :: ts) → Calls Tryz.prog 26 #[.int .i64 i, .int .i64 n] w fun e w' => ∃ c, e = .returned (.tuple #[.pointer (some ⟨c, 0, none⟩), .int .i64 0]) ∧ Things W w' (Hs a m h t k M ⟨l, [], [], fun _ => []⟩ :: Kc c ⟨i, n, []⟩ :: Lv ad l :: ts)) := fun w h t g => (kq_new g gr hi).mono fun e w' ⟨c, he, g1⟩ => ⟨c, he, Things.rot [Hs a m h t k M ⟨l, [], [], fun _ => []⟩] (Lv ad l :: ts) g1⟩
  have H3 : Hid (∀ w h t c, Things W w (Hs a m h t k M ⟨l, [], [], fun _ => []⟩ :: Kc c ⟨i, n, []⟩ :: Lv ad l :: ts) → Calls Tryz.prog 27 #[.int .i64 q] w fun e w' => ∃ y, e = .returned (.tuple #[.pointer (some ⟨y, 0, none⟩), .int .i64 0]) ∧ Things W w' (Hs a m h t k M ⟨l, [], [], fun _ => []⟩ :: Kc c ⟨i, n, []⟩ :: Qq y (Qt.newQ (okA q 0) (okB q 0)) :: Lv ad l :: ts)) := fun w h t c g => (n_newQuota g q).mono fun e w' ⟨y, he, g1⟩ => ⟨y, he, Things.rot [Hs a m h t k M ⟨l, [], [], fun _ => []⟩, Kc c ⟨i, n, []⟩] (Lv ad l :: ts) g1⟩
  have H4 : Hid (∀ w h t c y, Things W w (Hs a m h t k M ⟨l, [], [], fun _ => []⟩ :: Kc c ⟨i, n, []⟩ :: Qq y (Qt.newQ (okA q 0) (okB q 0)) :: Lv ad l :: ts) → Things W ((w.alloc (.map #[] 0)).alloc (tob ⟨w.heap.size + 1, a, m, h, t, k, c, y, w.heap.size, i, q⟩)) (tnl ⟨w.heap.size + 1, a, m, h, t, k, c, y, w.heap.size, i, q⟩ (newT M l i n q) (Lv ad l :: ts))) := fun w h t c y g => by
    have g1 := Things.rot [Hs a m h t k M ⟨l, [], [], fun _ => []⟩, Kc c ⟨i, n, []⟩, Qq y (Qt.newQ (okA q 0) (okB q 0))] (Lv ad l :: ts) g.objs
    have g2 := g1.blk (tob ⟨w.heap.size + 1, a, m, h, t, k, c, y, w.heap.size, i, q⟩)
    rw [World.size_alloc] at g2
    exact Things.rot [Hs a m h t k M ⟨l, [], [], fun _ => []⟩, Kc c ⟨i, n, []⟩, Qq y (Qt.newQ (okA q 0) (okB q 0)), Ot w.heap.size (fun _ => none) 0] (Lv ad l :: ts) g2
  have H5 : Hid (∀ w (x : Tp), x.m = m → x.k = k → Things W w (tnl x (newT M l i n q) (Lv ad l :: ts)) → Calls Tryz.prog 29 #[.pointer (some ⟨m, 0, none⟩), .slice ad l.length cap] w fun e w' => e = .returned (.int .i64 (pgI M.has.length k l)) ∧ Things W w' (tnl x (newT M l i n q) (Lv ad l :: ts))) := fun w x em ek gi => by
    subst em ek
    have hct : ∀ w1, Fr (fun _ => False) w w1 → ∃ Z, Cq.Cm w1 x.m Z x.k M.has := fun w1 f => by
      have g0 := gi.kept f
      obtain ⟨U, p, _⟩ := g0.get 0 rfl
      obtain ⟨Z1, q1, _⟩ := Both.fst' p
      obtain ⟨Z2, q2, _⟩ := Both.snd q1
      obtain ⟨Z0, q3, _⟩ := q2.into (gr.fr g0.nw.fr).2
      exact ⟨Z0, q3⟩
    exact (n_pages cap (fun w1 c f => by obtain ⟨Z, hz⟩ := hct w1 f; exact Cq.c_colour' hz c) (fun w1 f => by obtain ⟨Z, hz⟩ := hct w1 f; exact (Cq.c_each hz).mono fun _ _ ⟨he, _, f⟩ => ⟨he, f⟩) hM h1 h2 (gi.nums 5 rfl) hl).mono fun e w' ⟨he, f⟩ => ⟨he, gi.kept f.fr⟩
  have H6 : Hid (∀ w (x : Tp), x.pk = q → Things W w (tnl x (newT M l i n q) (Lv ad l :: ts)) → Calls Tryz.prog 28 #[.pointer (some ⟨x.T, 0, none⟩), .int .i64 q, .int .i64 (pgI M.has.length k l)] w fun e w' => e = .returned (.int .i64 E) ∧ Things W w' (tnl x (newT M l i n q) (Lv ad l :: ts))) := fun w x ep g => by
    have h := n_fits g gr q (pgI M.has.length k l)
    rw [ep] at h
    rw [show fitE (newT M l i n q).s.cb q q (pgI M.has.length k l) = E from hE] at h
    exact h
  clear g gr ms h1 h2 hi hE hM hl
  generalize hS : newT M l i n q = S at *
  generalize pgI M.has.length k l = pg at *
  generalize hll : l.length = ll at *
  generalize Qt.newQ (okA q 0) (okB q 0) = nq at *
  clear hS hll
  go_enter Tryz.func7, Tryz.ntmps7
  go_wp2_with fail
  refine H1.out.mono ?_
  rintro e w1 ⟨hp, t, rfl, g1⟩
  have G1 := hid g1
  clear g1 H1
  go_wp2_with fail
  refine (H2.out _ _ _ G1.out).mono ?_
  rintro e w2 ⟨c, rfl, g2⟩
  have G2 := hid g2
  clear g2 G1 H2
  go_wp2_with fail
  refine (H3.out _ _ _ _ G2.out).mono ?_
  rintro e w3 ⟨y, rfl, g3⟩
  have G3 := hid (H4.out _ _ _ _ _ g3)
  clear g3 G2 H3 H4
  have hmm := @run_makeMap Tryz.prog
  go_wp2_with fail
  refine (H5.out _ ⟨w3.heap.size + 1, a, m, hp, t, k, c, y, w3.heap.size, i, q⟩ rfl rfl G3.out).mono ?_
  rintro e w4 ⟨rfl, g4⟩
  have G4 := hid g4
  clear g4 G3 H5
  go_wp2_with fail
  refine (H6.out _ ⟨w3.heap.size + 1, a, m, hp, t, k, c, y, w3.heap.size, i, q⟩ rfl G4.out).mono ?_
  rintro e w5 ⟨rfl, g5⟩
  have G5 := hid g5
  clear g5 G4 H6
  by_cases hE : E = 0
  · subst hE
    go_wp2
    go_ret2
    exact ⟨⟨w3.heap.size + 1, a, m, hp, t, k, c, y, w3.heap.size, i, q⟩, ⟨rfl, rfl, rfl, rfl, rfl⟩, by simp, G5.out⟩
  · go_wp2
    go_ret2
    exact ⟨⟨w3.heap.size + 1, a, m, hp, t, k, c, y, w3.heap.size, i, q⟩, ⟨rfl, rfl, rfl, rfl, rfl⟩, by simp, G5.out⟩
end
end Go.Proofs.YtioplfbkfokkfaaGreatDoor
