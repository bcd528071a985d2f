/-
  What the calls of package tenant do: refuse, find, block, take, own, giveBack, release.
  What the calls of package tenant do: take, own, giveBack, release.
-/
import Derived.Test.YtioplfbkfokkfaaGreatDoorTnCallsA
import Derived.Deep.RegionHeld3
namespace Go.Proofs.YtioplfbkfokkfaaGreatDoor
open Go.RowKit
open An

def Anyt1 (w : World) (Z : Nat → Prop) : Prop := ∀ i, Z i → i < w.heap.size
theorem Anyt1.good : Good Anyt1 := ⟨fun h f _ i hi => Nat.lt_of_lt_of_le (h i hi) f.size, fun _ _ k2 => k2⟩
/-- A box of the call's own turns, and is forgotten. -/
theorem Things.boxes1 {W w w' : World} {ts : List (World → (Nat → Prop) → Prop)} {B : Nat} {ob : Obj} (h : Things W w (ts ++ [Blk B ob])) (f : Fr (fun i => i = B) w w') : Things W w' ts := by
  obtain ⟨U, h1, _, h2⟩ := h.turn ts.length (P := Blk B ob) (by simp)
  have hs := f.size
  have h3 := h2 Anyt1 w' U Anyt1.good (fun i hi => Nat.lt_of_lt_of_le (h1.2.2 i hi) hs) (Gw.same h1.2.2 (f.mono fun i _ e => e ▸ h1.2.1))
  rw [List.set_append_right _ _ (Nat.le_refl _), Nat.sub_self] at h3
  exact Things.less h3
/-- An answer is put into its box. -/
theorem ans_put {w1 : World} {B : Nat} (hb : w1.heap[B]? = some (.cells #[.int .i64 0, .int .u64 0, .int .i64 0, .int .i64 0, .string ⟨#[]⟩, .int .i64 0] 38 (0, 0))) (E hd ad n : Int) (d : ByteArray) (cg : Int) : Fr (fun i => i = B) w1 ((((((w1.setCell ⟨B, 0, none⟩ (.int .i64 E)).setCell ⟨B, 1, none⟩ (.int .u64 hd)).setCell ⟨B, 2, none⟩ (.int .i64 ad)).setCell ⟨B, 3, none⟩ (.int .i64 n)).setCell ⟨B, 4, none⟩ (.string d)).setCell ⟨B, 5, none⟩ (.int .i64 cg)) ∧ ∀ (i : Nat) (v : Value), (#[.int .i64 E, .int .u64 hd, .int .i64 ad, .int .i64 n, .string d, .int .i64 cg] : Array Value)[i]? = some v → ((((((w1.setCell ⟨B, 0, none⟩ (.int .i64 E)).setCell ⟨B, 1, none⟩ (.int .u64 hd)).setCell ⟨B, 2, none⟩ (.int .i64 ad)).setCell ⟨B, 3, none⟩ (.int .i64 n)).setCell ⟨B, 4, none⟩ (.string d)).setCell ⟨B, 5, none⟩ (.int .i64 cg)).cell? ⟨B, i, none⟩ = some v := by
  refine ⟨(((((Fr.setCell (S := fun i => i = B) (p := ⟨B, 0, none⟩) (Fr.refl _ _) rfl _).setCell (p := ⟨B, 1, none⟩) rfl _).setCell (p := ⟨B, 2, none⟩) rfl _).setCell (p := ⟨B, 3, none⟩) rfl _).setCell (p := ⟨B, 4, none⟩) rfl _).setCell (p := ⟨B, 5, none⟩) rfl _, fun i v hv => ?_⟩
  refine box_cellT (cs := #[.int .i64 E, .int .u64 hd, .int .i64 ad, .int .i64 n, .string d, .int .i64 cg]) (T := 38) ?_ i hv
  simp [World.setCell, Array.getElem?_modify, hb]
section
variable {W w : World} {x : Tp} {S : TnS} {ts : List (World → (Nat → Prop) → Prop)}
theorem tn_box {B : Nat} {ob : Obj} (g : Things W w (tnl x S (ts ++ [Blk B ob]))) : w.heap[B]? = some ob := by
  obtain ⟨U, h, _⟩ := g.get (ts.length + 5) (P := Blk B ob) (by simp [tnl])
  exact h.1
set_option maxRecDepth 20000 in
theorem n_refuse (g : Things W w (tnl x S ts)) (E : Int) : Calls Tryz.prog 41 #[.pointer (some ⟨x.T, 0, none⟩), .int .i64 E] w fun e w' => e = .returned (ans E 0 0 0 ⟨#[]⟩ S.s.cb) ∧ Things W w' (tnl x S ts) := by
  have G : Hid (Things W (w.alloc (.cells #[.int .i64 0, .int .u64 0, .int .i64 0, .int .i64 0, .string ⟨#[]⟩, .int .i64 0] 38)) (tnl x S (ts ++ [Blk w.heap.size (.cells #[.int .i64 0, .int .u64 0, .int .i64 0, .int .i64 0, .string ⟨#[]⟩, .int .i64 0] 38 (0, 0))]))) := g.blk (.cells #[.int .i64 0, .int .u64 0, .int .i64 0, .int .i64 0, .string ⟨#[]⟩, .int .i64 0] 38 (0, 0))
  have H1 := hid fun (w : World) (ts : List (World → (Nat → Prop) → Prop)) (g : Things W w (tnl x S ts)) => n_say g E 0 0 0 ⟨#[]⟩ 0
  clear g
  generalize S.s.cb = cb at *
  go_enter Tryz.func41, Tryz.ntmps41
  go_wp2_with fail
  refine (H1.out _ _ G.out).mono ?_
  rintro e w1 ⟨rfl, g1⟩
  have G1 := hid g1
  have z1 := fun i => box_frz (tn_box G1.out) i
  have b0 := box_cellT (tn_box G1.out) 0 rfl
  have b1 := box_cellT (tn_box G1.out) 1 rfl
  have b2 := box_cellT (tn_box G1.out) 2 rfl
  have b3 := box_cellT (tn_box G1.out) 3 rfl
  have b4 := box_cellT (tn_box G1.out) 4 rfl
  have b5 := box_cellT (tn_box G1.out) 5 rfl
  clear g1 G H1
  go_wp2
  clear z1 b0 b1 b2 b3 b4 b5
  obtain ⟨HF, hk⟩ := ans_put (tn_box G1.out) (E) (0) (0) (0) ⟨#[]⟩ (cb)
  have TZ := Things.boxes1 (ts := tnl x S ts) G1.out HF
  have k0 := hk 0 _ rfl
  have k1 := hk 1 _ rfl
  have k2 := hk 2 _ rfl
  have k3 := hk 3 _ rfl
  have k4 := hk 4 _ rfl
  have k5 := hk 5 _ rfl
  clear HF hk
  generalize (((((w1.setCell ⟨w.heap.size, 0, none⟩ (.int .i64 (E))).setCell ⟨w.heap.size, 1, none⟩ (.int .u64 (0))).setCell ⟨w.heap.size, 2, none⟩ (.int .i64 (0))).setCell ⟨w.heap.size, 3, none⟩ (.int .i64 (0))).setCell ⟨w.heap.size, 4, none⟩ (.string ⟨#[]⟩)).setCell ⟨w.heap.size, 5, none⟩ (.int .i64 (cb)) = wz at *
  exact bodyPost_ret (v := ans (E) (0) (0) (0) ⟨#[]⟩ (cb)) (by simp [results, Tryz.results41, go_sem, k0, k1, k2, k3, k4, k5]) rfl ⟨rfl, TZ⟩
set_option maxRecDepth 20000 in
theorem n_find (g : Things W w (tnl x S ts)) {b : Int} (b0 : 0 ≤ b) (b1 : b ≤ 18446744073709551615) {r : Int} (hr : -9223372036854775808 ≤ r ∧ r ≤ 9223372036854775807) : Calls Tryz.prog 45 #[.pointer (some ⟨x.T, 0, none⟩), .int .u64 b, .int .i64 r] w fun e w' => e = .returned (.tuple #[.int .i64 (Ka.fiV S.c b r), .int .i64 (Ka.fiE S.c b r)]) ∧ Things W w' (tnl x S ts) := by
  have G := hid g
  have c4 := tn_cell g 4 rfl
  have H1 := hid fun (w : World) (g : Things W w (tnl x S ts)) => kq_find g 1 rfl b0 b1 hr
  generalize Ka.fiV S.c b r = fv at *
  generalize Ka.fiE S.c b r = fe at *
  clear g b0 b1 hr
  go_enter Tryz.func45, Tryz.ntmps45
  go_wp2_with fail
  refine (H1.out _ G.out).mono ?_
  rintro e w1 ⟨rfl, g1⟩
  have G1 := hid g1
  clear g1 G H1 c4
  go_wp2
  go_ret2
  exact ⟨by simp, G1.out⟩
/-- A block of the heap, unless no handle could name it. -/
def blS (k : Nat) (S : TnS) (n : Int) : TnS := if S.c.nx = 17592186044416 then S else { S with M := (hM k S.M S.H n).1, H := (hM k S.M S.H n).2.1 }
def blV (k : Nat) (S : TnS) (n : Int) : Int := if S.c.nx = 17592186044416 then 0 else if (hM k S.M S.H n).2.2.2 = 0 then (hM k S.M S.H n).2.2.1 else 0
def blE (k : Nat) (S : TnS) (n : Int) : Int := if S.c.nx = 17592186044416 then 10 else if (hM k S.M S.H n).2.2.2 = 0 then 0 else 10
set_option maxRecDepth 20000 in
theorem n_block (g : Things W w (tnl x S ts)) (gr : G17 W) (hc : Hc x.k S.M S.H) {n : Int} (hn : I64 n) : Calls Tryz.prog 79 #[.pointer (some ⟨x.T, 0, none⟩), .int .i64 n] w fun e w' => e = .returned (.tuple #[.int .i64 (blV x.k S n), .int .i64 (blE x.k S n)]) ∧ Things W w' (tnl x (blS x.k S n) ts) := by
  have G := hid g
  have c4 := tn_cell g 4 rfl
  have H1 := hid fun (w : World) (g : Things W w (tnl x S ts)) => kq_serial g 1 rfl
  by_cases hx : S.c.nx = 17592186044416
  · rw [show blV x.k S n = 0 from if_pos hx, show blE x.k S n = 10 from if_pos hx, show blS x.k S n = S from if_pos hx]
    rw [hx] at H1
    clear g gr hc hn hx
    go_enter Tryz.func79, Tryz.ntmps79
    go_wp2_with fail
    refine (H1.out _ G.out).mono ?_
    rintro e w1 ⟨rfl, g1⟩
    have G1 := hid g1
    clear g1 G H1 c4
    go_wp2
    go_ret2
    exact ⟨by simp, G1.out⟩
  · have H2 : Hid (∀ (w : World), Things W w (tnl x S ts) → Calls Tryz.prog 119 #[.pointer (some ⟨x.h, 0, none⟩), .int .i64 n] w fun e w' => e = .returned (.tuple #[.int .i64 (hM x.k S.M S.H n).2.2.1, .int .i64 (hM x.k S.M S.H n).2.2.2]) ∧ Things W w' (tnl x (blS x.k S n) ts)) := fun w g => (q_malloc g gr 0 rfl hc hn).mono fun e w' ⟨he, h⟩ => ⟨he, by rw [show blS x.k S n = { S with M := (hM x.k S.M S.H n).1, H := (hM x.k S.M S.H n).2.1 } from if_neg hx]; exact h⟩
    have H3 : Hid (∀ (w : World), Things W w (tnl x S ts) → w.cell? ⟨x.T, 3, none⟩ = some (.pointer (some ⟨x.h, 0, none⟩))) := fun w g => tn_cell g 3 rfl
    rw [show blV x.k S n = if (hM x.k S.M S.H n).2.2.2 = 0 then (hM x.k S.M S.H n).2.2.1 else 0 from if_neg hx, show blE x.k S n = if (hM x.k S.M S.H n).2.2.2 = 0 then 0 else 10 from if_neg hx]
    generalize blS x.k S n = S' at *
    generalize (hM x.k S.M S.H n).2.2.1 = av at *
    generalize (hM x.k S.M S.H n).2.2.2 = ev at *
    generalize S.c.nx = nx at *
    clear g gr hc hn
    by_cases he : ev = 0
    · subst he
      rw [if_pos rfl, if_pos rfl]
      go_enter Tryz.func79, Tryz.ntmps79
      go_wp2_with fail
      refine (H1.out _ G.out).mono ?_
      rintro e w1 ⟨rfl, g1⟩
      have G1 := hid g1
      have c3 := H3.out _ g1
      clear g1 G H1 c4 H3
      go_wp2_with fail
      refine (H2.out _ G1.out).mono ?_
      rintro e w2 ⟨rfl, g2⟩
      have G2 := hid g2
      clear g2 G1 H2 c3
      go_wp2
      go_ret2
      exact ⟨by simp, G2.out⟩
    · rw [if_neg he, if_neg he]
      go_enter Tryz.func79, Tryz.ntmps79
      go_wp2_with fail
      refine (H1.out _ G.out).mono ?_
      rintro e w1 ⟨rfl, g1⟩
      have G1 := hid g1
      have c3 := H3.out _ g1
      clear g1 G H1 c4 H3
      go_wp2_with fail
      refine (H2.out _ G1.out).mono ?_
      rintro e w2 ⟨rfl, g2⟩
      have G2 := hid g2
      clear g2 G1 H2 c3
      go_wp2
      go_ret2
      exact ⟨by simp, G2.out⟩
end
end Go.Proofs.YtioplfbkfokkfaaGreatDoor

namespace Go.Proofs.YtioplfbkfokkfaaGreatDoor
open Go.RowKit
open An

section
variable {W w : World} {x : Tp} {S : TnS} {ts : List (World → (Nat → Prop) → Prop)}
/-- What a block for n bytes costs is asked for first. -/
def tk1 (S : TnS) (n : Int) : TnS := { S with s := Qt.resS S.s (chargeI n) 0 }
def tkS (k : Nat) (S : TnS) (n : Int) : TnS := if ofI n < 0 then S else if Qt.resE S.s (chargeI n) 0 = 0 then (if blE k (tk1 S n) n = 0 then { blS k (tk1 S n) n with s := Qt.comS (Qt.resS S.s (chargeI n) 0) (chargeI n) 0 } else { blS k (tk1 S n) n with s := Qt.canS (Qt.resS S.s (chargeI n) 0) (chargeI n) 0 }) else tk1 S n
def tkV (k : Nat) (S : TnS) (n : Int) : Int := if ofI n < 0 then 0 else if Qt.resE S.s (chargeI n) 0 = 0 then (if blE k (tk1 S n) n = 0 then blV k (tk1 S n) n else 0) else 0
def tkE (k : Nat) (S : TnS) (n : Int) : Int := if ofI n < 0 then 2 else if Qt.resE S.s (chargeI n) 0 = 0 then (if blE k (tk1 S n) n = 0 then Qt.comE (Qt.resS S.s (chargeI n) 0) (chargeI n) 0 else blE k (tk1 S n) n) else Qt.resE S.s (chargeI n) 0
theorem blS_s (k : Nat) (S : TnS) (n : Int) : (blS k S n).s = S.s := by unfold blS; split <;> rfl
theorem n_charge' (n : Int) (gr : G17 W) (L : List (World → (Nat → Prop) → Prop)) (g : Things W w L) : Calls Tryz.prog 58 #[.int .i64 n] w fun e w' => e = .returned (.complex .f64 (fb (chargeI n)) (fb 0)) ∧ Things W w' L :=
  (n_charge n (K.start (gr.fr g.nw.fr).1)).mono fun _ _ ⟨he, f⟩ => ⟨he, g.kept f⟩
set_option maxRecDepth 20000 in
theorem n_take (g : Things W w (tnl x S ts)) (gr : G17 W) (hc : Hc x.k S.M S.H) {n : Int} (hn : I64 n) : Calls Tryz.prog 40 #[.pointer (some ⟨x.T, 0, none⟩), .int .i64 n] w fun e w' => e = .returned (.tuple #[.int .i64 (tkV x.k S n), .int .i64 (tkE x.k S n)]) ∧ Things W w' (tnl x (tkS x.k S n) ts) := by
  have G := hid g
  have HO : Hid (∀ (w : World), Things W w (tnl x S ts) → Calls Tryz.prog 53 #[.int .i64 n] w fun e w' => e = .returned (.int .i64 (ofI n)) ∧ Things W w' (tnl x S ts)) := fun w g => (k_of n (K.start (gr.fr g.nw.fr).1)).mono fun e w' ⟨he, hk⟩ => ⟨he, g.kept hk.fr⟩
  by_cases h0 : ofI n < 0
  case pos =>
    rw [show tkV x.k S n = 0 from if_pos h0, show tkE x.k S n = 2 from if_pos h0, show tkS x.k S n = S from if_pos h0]
    clear g gr hc hn
    generalize ofI n = kd at *
    go_enter Tryz.func40, Tryz.ntmps40
    go_wp2_with fail
    refine (HO.out _ G.out).mono ?_
    rintro e w1 ⟨rfl, g1⟩
    have G1 := hid g1
    clear g1 G HO
    go_wp2
    go_ret2
    exact ⟨by simp, G1.out⟩
  case neg =>
    have HC : Hid (∀ (w : World) (L : List (World → (Nat → Prop) → Prop)), Things W w L → Calls Tryz.prog 58 #[.int .i64 n] w fun e w' => e = .returned (.complex .f64 (fb (chargeI n)) (fb 0)) ∧ Things W w' L) := fun w L g => n_charge' n gr L g
    have H1 : Hid (∀ (w : World), Things W w (tnl x S ts) → Calls Tryz.prog 78 #[.pointer (some ⟨x.q, 0, none⟩), .complex .f64 (fb (chargeI n)) (fb 0)] w fun e w' => e = .returned (.int .i64 (Qt.resE S.s (chargeI n) 0)) ∧ Things W w' (tnl x (tk1 S n) ts)) := fun w g => kq_res g 2 rfl (charge_rt n)
    have H5 : Hid (∀ (w : World) (S : TnS), Things W w (tnl x S ts) → w.cell? ⟨x.T, 5, none⟩ = some (.pointer (some ⟨x.q, 0, none⟩))) := fun w S g => tn_cell g 5 rfl
    by_cases h1 : Qt.resE S.s (chargeI n) 0 = 0
    case neg =>
      rw [show tkV x.k S n = 0 from (if_neg h0).trans (if_neg h1), show tkE x.k S n = Qt.resE S.s (chargeI n) 0 from (if_neg h0).trans (if_neg h1), show tkS x.k S n = tk1 S n from (if_neg h0).trans (if_neg h1)]
      generalize tk1 S n = S1 at *
      generalize Qt.resE S.s (chargeI n) 0 = re at *
      generalize fb (chargeI n) = xb at *
      generalize fb 0 = yb at *
      generalize ofI n = kd at *
      clear g gr hc hn
      go_enter Tryz.func40, Tryz.ntmps40
      go_wp2_with fail
      refine (HO.out _ G.out).mono ?_
      rintro e w1 ⟨rfl, g1⟩
      have G1 := hid g1
      have c5 := H5.out _ _ g1
      clear g1 G HO
      have TD := hid (G1.out.kept (Fr.refl _ _).drew)
      have pd := H5.out _ _ TD.out
      clear G1 c5
      go_wp2_with fail
      go_region_held3 (fun w' => w'.cell? ⟨x.T, 5, none⟩ = some (.pointer (some ⟨x.q, 0, none⟩))) (first | assumption | go_keep) (first | (go_at_call 58; refine (HC.out _ _ TD.out).mono ?_; rintro e w2 ⟨rfl, g2⟩; have T2 := hid g2; have p2 := H5.out _ _ g2; clear g2) | (go_at_call 78; refine (H1.out _ T2.out).mono ?_; rintro e w3 ⟨rfl, g3⟩; have T3 := hid g3; have p3 := H5.out _ _ g3; clear g3))
      clear TD T2 pd p2 H1
      go_wp2
      go_ret2
      exact ⟨by simp, T3.out⟩
    case pos =>
      have HB := hid fun (w : World) (g : Things W w (tnl x (tk1 S n) ts)) => n_block g gr hc hn
      rw [h1] at H1
      by_cases h2 : blE x.k (tk1 S n) n = 0
      · rw [show tkV x.k S n = blV x.k (tk1 S n) n from (if_neg h0).trans ((if_pos h1).trans (if_pos h2)), show tkE x.k S n = Qt.comE (Qt.resS S.s (chargeI n) 0) (chargeI n) 0 from (if_neg h0).trans ((if_pos h1).trans (if_pos h2)), show tkS x.k S n = { blS x.k (tk1 S n) n with s := Qt.comS (Qt.resS S.s (chargeI n) 0) (chargeI n) 0 } from (if_neg h0).trans ((if_pos h1).trans (if_pos h2))]
        have H2 : Hid (∀ (w : World), Things W w (tnl x (blS x.k (tk1 S n) n) ts) → Calls Tryz.prog 81 #[.pointer (some ⟨x.q, 0, none⟩), .complex .f64 (fb (chargeI n)) (fb 0)] w fun e w' => e = .returned (.int .i64 (Qt.comE (Qt.resS S.s (chargeI n) 0) (chargeI n) 0)) ∧ Things W w' (tnl x { blS x.k (tk1 S n) n with s := Qt.comS (Qt.resS S.s (chargeI n) 0) (chargeI n) 0 } ts)) := fun w g => by
          have h := kq_com g 2 rfl (charge_rt n)
          rw [blS_s] at h
          exact h
        rw [h2] at HB
        generalize blS x.k (tk1 S n) n = S2 at *
        generalize blV x.k (tk1 S n) n = bv at *
        generalize { S2 with s := Qt.comS (Qt.resS S.s (chargeI n) 0) (chargeI n) 0 } = S3 at *
        generalize Qt.comE (Qt.resS S.s (chargeI n) 0) (chargeI n) 0 = ce at *
        generalize tk1 S n = S1 at *
        generalize fb (chargeI n) = xb at *
        generalize fb 0 = yb at *
        generalize ofI n = kd at *
        clear g gr hc hn h1 h2
        go_enter Tryz.func40, Tryz.ntmps40
        go_wp2_with fail
        refine (HO.out _ G.out).mono ?_
        rintro e w1 ⟨rfl, g1⟩
        have G1 := hid g1
        have c5 := H5.out _ _ g1
        clear g1 G HO
        have TD := hid (G1.out.kept (Fr.refl _ _).drew)
        have pd := H5.out _ _ TD.out
        clear G1 c5
        go_wp2_with fail
        go_region_held3 (fun w' => w'.cell? ⟨x.T, 5, none⟩ = some (.pointer (some ⟨x.q, 0, none⟩))) (first | assumption | go_keep) (first | (go_at_call 58; refine (HC.out _ _ TD.out).mono ?_; rintro e w2 ⟨rfl, g2⟩; have T2 := hid g2; have p2 := H5.out _ _ g2; clear g2) | (go_at_call 78; refine (H1.out _ T2.out).mono ?_; rintro e w3 ⟨rfl, g3⟩; have T3 := hid g3; have p3 := H5.out _ _ g3; clear g3))
        clear TD T2 pd p2 H1
        go_wp2_with fail
        refine (HB.out _ T3.out).mono ?_
        rintro e w4 ⟨rfl, g4⟩
        have TE := hid (g4.kept (Fr.refl _ _).drew)
        have pe := H5.out _ _ TE.out
        clear g4 T3 HB p3
        go_wp2_with fail
        go_region_held3 (fun w' => w'.cell? ⟨x.T, 5, none⟩ = some (.pointer (some ⟨x.q, 0, none⟩))) (first | assumption | go_keep) (first | (go_at_call 58; refine (HC.out _ _ TE.out).mono ?_; rintro e w5 ⟨rfl, g5⟩; have T5 := hid g5; have p5 := H5.out _ _ g5; clear g5) | (go_at_call 81; refine (H2.out _ T5.out).mono ?_; rintro e w6 ⟨rfl, g6⟩; have T6 := hid g6; have p6 := H5.out _ _ g6; clear g6))
        clear TE T5 pe p5 H2
        go_wp2
        go_ret2
        exact ⟨by simp, T6.out⟩
      · rw [show tkV x.k S n = 0 from (if_neg h0).trans ((if_pos h1).trans (if_neg h2)), show tkE x.k S n = blE x.k (tk1 S n) n from (if_neg h0).trans ((if_pos h1).trans (if_neg h2)), show tkS x.k S n = { blS x.k (tk1 S n) n with s := Qt.canS (Qt.resS S.s (chargeI n) 0) (chargeI n) 0 } from (if_neg h0).trans ((if_pos h1).trans (if_neg h2))]
        have H2 : Hid (∀ (w : World), Things W w (tnl x (blS x.k (tk1 S n) n) ts) → Calls Tryz.prog 80 #[.pointer (some ⟨x.q, 0, none⟩), .complex .f64 (fb (chargeI n)) (fb 0)] w fun e w' => e = .returned (.int .i64 (Qt.canE (Qt.resS S.s (chargeI n) 0) (chargeI n) 0)) ∧ Things W w' (tnl x { blS x.k (tk1 S n) n with s := Qt.canS (Qt.resS S.s (chargeI n) 0) (chargeI n) 0 } ts)) := fun w g => by
          have h := kq_can g 2 rfl (charge_rt n)
          rw [blS_s] at h
          exact h
        generalize blS x.k (tk1 S n) n = S2 at *
        generalize blV x.k (tk1 S n) n = bv at *
        generalize blE x.k (tk1 S n) n = be at *
        generalize { S2 with s := Qt.canS (Qt.resS S.s (chargeI n) 0) (chargeI n) 0 } = S3 at *
        generalize Qt.canE (Qt.resS S.s (chargeI n) 0) (chargeI n) 0 = ce at *
        generalize tk1 S n = S1 at *
        generalize fb (chargeI n) = xb at *
        generalize fb 0 = yb at *
        generalize ofI n = kd at *
        clear g gr hc hn h1
        go_enter Tryz.func40, Tryz.ntmps40
        go_wp2_with fail
        refine (HO.out _ G.out).mono ?_
        rintro e w1 ⟨rfl, g1⟩
        have G1 := hid g1
        have c5 := H5.out _ _ g1
        clear g1 G HO
        have TD := hid (G1.out.kept (Fr.refl _ _).drew)
        have pd := H5.out _ _ TD.out
        clear G1 c5
        go_wp2_with fail
        go_region_held3 (fun w' => w'.cell? ⟨x.T, 5, none⟩ = some (.pointer (some ⟨x.q, 0, none⟩))) (first | assumption | go_keep) (first | (go_at_call 58; refine (HC.out _ _ TD.out).mono ?_; rintro e w2 ⟨rfl, g2⟩; have T2 := hid g2; have p2 := H5.out _ _ g2; clear g2) | (go_at_call 78; refine (H1.out _ T2.out).mono ?_; rintro e w3 ⟨rfl, g3⟩; have T3 := hid g3; have p3 := H5.out _ _ g3; clear g3))
        clear TD T2 pd p2 H1
        go_wp2_with fail
        refine (HB.out _ T3.out).mono ?_
        rintro e w4 ⟨rfl, g4⟩
        have TE := hid (g4.kept (Fr.refl _ _).drew)
        have pe := H5.out _ _ TE.out
        clear g4 T3 HB p3
        go_wp2_with fail
        go_region_held3 (fun w' => w'.cell? ⟨x.T, 5, none⟩ = some (.pointer (some ⟨x.q, 0, none⟩))) (first | assumption | go_keep) (first | (go_at_call 58; refine (HC.out _ _ TE.out).mono ?_; rintro e w5 ⟨rfl, g5⟩; have T5 := hid g5; have p5 := H5.out _ _ g5; clear g5) | (go_at_call 80; refine (H2.out _ T5.out).mono ?_; rintro e w6 ⟨rfl, g6⟩; have T6 := hid g6; have p6 := H5.out _ _ g6; clear g6))
        clear TE T5 pe p5 H2
        go_wp2
        go_ret2
        exact ⟨by simp, T6.out⟩
end
end Go.Proofs.YtioplfbkfokkfaaGreatDoor
