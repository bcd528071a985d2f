/-
  What the calls of package tenant do: refuse, find, block, take, own, giveBack, release.
  What the calls of package tenant do: take, own, giveBack, release.
  What the calls of package tenant do: giveBack, release, own.
-/
import Derived.Test.YtndhbnhobhkmaaaGreatDoorTnCallsA
import Derived.Deep.RegionHeld3
namespace Go.Proofs.YtndhbnhobhkmaaaGreatDoor
open Go.RowKit
open An

def Anyt1 (w : World) (Z : Nat → Prop) : Prop := ∀ i, Z i → i < w.heap.size
theorem Anyt1.good : Good Anyt1 := ⟨fun h f _ i hi => Nat.lt_of_lt_of_le (h i hi) f.size, fun _ _ k2 => k2⟩
theorem Things.boxes1 {W w w' : World} {ts : List (World → (Nat → Prop) → Prop)} {B : Nat} {ob : Obj} (h : Things W w (ts ++ [Blk B ob])) (f : Fr (fun i => i = B) w w') : Things W w' ts := by
  obtain ⟨U, h1, _, h2⟩ := h.turn ts.length (P := Blk B ob) (by simp)
  have hs := f.size
  have h3 := h2 Anyt1 w' U Anyt1.good (fun i hi => Nat.lt_of_lt_of_le (h1.2.2 i hi) hs) (Gw.same h1.2.2 (f.mono fun i _ e => e ▸ h1.2.1))
  rw [List.set_append_right _ _ (Nat.le_refl _), Nat.sub_self] at h3
  exact Things.less h3
theorem ans_put {w1 : World} {B : Nat} (hb : w1.heap[B]? = some (.cells #[.int .i64 0, .int .u64 0, .int .i64 0, .int .i64 0, .string ⟨#[]⟩, .int .i64 0] 43 (0, 0))) (E hd ad n : Int) (d : ByteArray) (cg : Int) : Fr (fun i => i = B) w1 ((((((w1.setCell ⟨B, 0, none⟩ (.int .i64 E)).setCell ⟨B, 1, none⟩ (.int .u64 hd)).setCell ⟨B, 2, none⟩ (.int .i64 ad)).setCell ⟨B, 3, none⟩ (.int .i64 n)).setCell ⟨B, 4, none⟩ (.string d)).setCell ⟨B, 5, none⟩ (.int .i64 cg)) ∧ ∀ (i : Nat) (v : Value), (#[.int .i64 E, .int .u64 hd, .int .i64 ad, .int .i64 n, .string d, .int .i64 cg] : Array Value)[i]? = some v → ((((((w1.setCell ⟨B, 0, none⟩ (.int .i64 E)).setCell ⟨B, 1, none⟩ (.int .u64 hd)).setCell ⟨B, 2, none⟩ (.int .i64 ad)).setCell ⟨B, 3, none⟩ (.int .i64 n)).setCell ⟨B, 4, none⟩ (.string d)).setCell ⟨B, 5, none⟩ (.int .i64 cg)).cell? ⟨B, i, none⟩ = some v := by
  refine ⟨(((((Fr.setCell (S := fun i => i = B) (p := ⟨B, 0, none⟩) (Fr.refl _ _) rfl _).setCell (p := ⟨B, 1, none⟩) rfl _).setCell (p := ⟨B, 2, none⟩) rfl _).setCell (p := ⟨B, 3, none⟩) rfl _).setCell (p := ⟨B, 4, none⟩) rfl _).setCell (p := ⟨B, 5, none⟩) rfl _, fun i v hv => ?_⟩
  refine box_cellT (cs := #[.int .i64 E, .int .u64 hd, .int .i64 ad, .int .i64 n, .string d, .int .i64 cg]) (T := 43) ?_ i hv
  simp [World.setCell, Array.getElem?_modify, hb]
section
variable {W w : World} {x : Tp} {S : TnS} {ts : List (World → (Nat → Prop) → Prop)}
theorem tn_box {B : Nat} {ob : Obj} (g : Things W w (tnl x S (ts ++ [Blk B ob]))) : w.heap[B]? = some ob := by
  obtain ⟨U, h, _⟩ := g.get (ts.length + 5) (P := Blk B ob) (by simp [tnl])
  exact h.1
set_option maxRecDepth 20000 in
theorem n_refuse (g : Things W w (tnl x S ts)) (E : Int) : Calls Tryz.prog 31 #[.pointer (some ⟨x.T, 0, none⟩), .int .i64 E] w fun e w' => e = .returned (ans E 0 0 0 ⟨#[]⟩ S.s.cb) ∧ Things W w' (tnl x S ts) := by
  have G : Hid (Things W (w.alloc (.cells #[.int .i64 0, .int .u64 0, .int .i64 0, .int .i64 0, .string ⟨#[]⟩, .int .i64 0] 43)) (tnl x S (ts ++ [Blk w.heap.size (.cells #[.int .i64 0, .int .u64 0, .int .i64 0, .int .i64 0, .string ⟨#[]⟩, .int .i64 0] 43 (0, 0))]))) := g.blk (.cells #[.int .i64 0, .int .u64 0, .int .i64 0, .int .i64 0, .string ⟨#[]⟩, .int .i64 0] 43 (0, 0))
  have H1 := hid fun (w : World) (ts : List (World → (Nat → Prop) → Prop)) (g : Things W w (tnl x S ts)) => n_say g E 0 0 0 ⟨#[]⟩ 0
  clear g
  generalize S.s.cb = cb at *
  go_enter Tryz.func31, Tryz.ntmps31
  go_wp2_with fail
  refine (H1.out _ _ G.out).mono ?_
  rintro e w1 ⟨rfl, g1⟩
  have G1 := hid g1
  have z1 := fun i => box_frz (tn_box G1.out) i
  have b0 := box_cellT (tn_box G1.out) 0 rfl
  have b1 := box_cellT (tn_box G1.out) 1 rfl
  have b2 := box_cellT (tn_box G1.out) 2 rfl
  have b3 := box_cellT (tn_box G1.out) 3 rfl
  have b4 := box_cellT (tn_box G1.out) 4 rfl
  have b5 := box_cellT (tn_box G1.out) 5 rfl
  clear g1 G H1
  go_wp2
  clear z1 b0 b1 b2 b3 b4 b5
  obtain ⟨HF, hk⟩ := ans_put (tn_box G1.out) (E) (0) (0) (0) ⟨#[]⟩ (cb)
  have TZ := Things.boxes1 (ts := tnl x S ts) G1.out HF
  have k0 := hk 0 _ rfl
  have k1 := hk 1 _ rfl
  have k2 := hk 2 _ rfl
  have k3 := hk 3 _ rfl
  have k4 := hk 4 _ rfl
  have k5 := hk 5 _ rfl
  clear HF hk
  generalize (((((w1.setCell ⟨w.heap.size, 0, none⟩ (.int .i64 (E))).setCell ⟨w.heap.size, 1, none⟩ (.int .u64 (0))).setCell ⟨w.heap.size, 2, none⟩ (.int .i64 (0))).setCell ⟨w.heap.size, 3, none⟩ (.int .i64 (0))).setCell ⟨w.heap.size, 4, none⟩ (.string ⟨#[]⟩)).setCell ⟨w.heap.size, 5, none⟩ (.int .i64 (cb)) = wz at *
  exact bodyPost_ret (v := ans (E) (0) (0) (0) ⟨#[]⟩ (cb)) (by simp [results, Tryz.results31, go_sem, k0, k1, k2, k3, k4, k5]) rfl ⟨rfl, TZ⟩
set_option maxRecDepth 20000 in
theorem n_find (g : Things W w (tnl x S ts)) {b : Int} (b0 : 0 ≤ b) (b1 : b ≤ 18446744073709551615) {r : Int} (hr : -9223372036854775808 ≤ r ∧ r ≤ 9223372036854775807) : Calls Tryz.prog 30 #[.pointer (some ⟨x.T, 0, none⟩), .int .u64 b, .int .i64 r] w fun e w' => e = .returned (.tuple #[.int .i64 (Ka.fiV S.c b r), .int .i64 (Ka.fiE S.c b r)]) ∧ Things W w' (tnl x S ts) := by
  have G := hid g
  have c4 := tn_cell g 4 rfl
  have H1 := hid fun (w : World) (g : Things W w (tnl x S ts)) => kq_find g 1 rfl b0 b1 hr
  generalize Ka.fiV S.c b r = fv at *
  generalize Ka.fiE S.c b r = fe at *
  clear g b0 b1 hr
  go_enter Tryz.func30, Tryz.ntmps30
  go_wp2_with fail
  refine (H1.out _ G.out).mono ?_
  rintro e w1 ⟨rfl, g1⟩
  have G1 := hid g1
  clear g1 G H1 c4
  go_wp2
  go_ret2
  exact ⟨by simp, G1.out⟩
def blS (k : Nat) (S : TnS) (n : Int) : TnS := if S.c.nx = 17592186044416 then S else { S with M := (hM k S.M S.H n).1, H := (hM k S.M S.H n).2.1 }
def blV (k : Nat) (S : TnS) (n : Int) : Int := if S.c.nx = 17592186044416 then 0 else if (hM k S.M S.H n).2.2.2 = 0 then (hM k S.M S.H n).2.2.1 else 0
def blE (k : Nat) (S : TnS) (n : Int) : Int := if S.c.nx = 17592186044416 then 10 else if (hM k S.M S.H n).2.2.2 = 0 then 0 else 10
set_option maxRecDepth 20000 in
theorem n_block (g : Things W w (tnl x S ts)) (gr : G17 W) (hc : Hc x.k S.M S.H) {n : Int} (hn : I64 n) : Calls Tryz.prog 85 #[.pointer (some ⟨x.T, 0, none⟩), .int .i64 n] w fun e w' => e = .returned (.tuple #[.int .i64 (blV x.k S n), .int .i64 (blE x.k S n)]) ∧ Things W w' (tnl x (blS x.k S n) ts) := by
  have G := hid g
  have c4 := tn_cell g 4 rfl
  have H1 := hid fun (w : World) (g : Things W w (tnl x S ts)) => kq_serial g 1 rfl
  by_cases hx : S.c.nx = 17592186044416
  · rw [show blV x.k S n = 0 from if_pos hx, show blE x.k S n = 10 from if_pos hx, show blS x.k S n = S from if_pos hx]
    rw [hx] at H1
    clear g gr hc hn hx
    go_enter Tryz.func85, Tryz.ntmps85
    go_wp2_with fail
    refine (H1.out _ G.out).mono ?_
    rintro e w1 ⟨rfl, g1⟩
    have G1 := hid g1
    clear g1 G H1 c4
    go_wp2
    go_ret2
    exact ⟨by simp, G1.out⟩
  · have H2 : Hid (∀ (w : World), Things W w (tnl x S ts) → Calls Tryz.prog 127 #[.pointer (some ⟨x.h, 0, none⟩), .int .i64 n] w fun e w' => e = .returned (.tuple #[.int .i64 (hM x.k S.M S.H n).2.2.1, .int .i64 (hM x.k S.M S.H n).2.2.2]) ∧ Things W w' (tnl x (blS x.k S n) ts)) := fun w g => (q_malloc g gr 0 rfl hc hn).mono fun e w' ⟨he, h⟩ => ⟨he, by rw [show blS x.k S n = { S with M := (hM x.k S.M S.H n).1, H := (hM x.k S.M S.H n).2.1 } from if_neg hx]; exact h⟩
    have H3 : Hid (∀ (w : World), Things W w (tnl x S ts) → w.cell? ⟨x.T, 3, none⟩ = some (.pointer (some ⟨x.h, 0, none⟩))) := fun w g => tn_cell g 3 rfl
    rw [show blV x.k S n = if (hM x.k S.M S.H n).2.2.2 = 0 then (hM x.k S.M S.H n).2.2.1 else 0 from if_neg hx, show blE x.k S n = if (hM x.k S.M S.H n).2.2.2 = 0 then 0 else 10 from if_neg hx]
    generalize blS x.k S n = S' at *
    generalize (hM x.k S.M S.H n).2.2.1 = av at *
    generalize (hM x.k S.M S.H n).2.2.2 = ev at *
    generalize S.c.nx = nx at *
    clear g gr hc hn
    by_cases he : ev = 0
    · subst he
      rw [if_pos rfl, if_pos rfl]
      go_enter Tryz.func85, Tryz.ntmps85
      go_wp2_with fail
      refine (H1.out _ G.out).mono ?_
      rintro e w1 ⟨rfl, g1⟩
      have G1 := hid g1
      have c3 := H3.out _ g1
      clear g1 G H1 c4 H3
      go_wp2_with fail
      refine (H2.out _ G1.out).mono ?_
      rintro e w2 ⟨rfl, g2⟩
      have G2 := hid g2
      clear g2 G1 H2 c3
      go_wp2
      go_ret2
      exact ⟨by simp, G2.out⟩
    · rw [if_neg he, if_neg he]
      go_enter Tryz.func85, Tryz.ntmps85
      go_wp2_with fail
      refine (H1.out _ G.out).mono ?_
      rintro e w1 ⟨rfl, g1⟩
      have G1 := hid g1
      have c3 := H3.out _ g1
      clear g1 G H1 c4 H3
      go_wp2_with fail
      refine (H2.out _ G1.out).mono ?_
      rintro e w2 ⟨rfl, g2⟩
      have G2 := hid g2
      clear g2 G1 H2 c3
      go_wp2
      go_ret2
      exact ⟨by simp, G2.out⟩
end
end Go.Proofs.YtndhbnhobhkmaaaGreatDoor

namespace Go.Proofs.YtndhbnhobhkmaaaGreatDoor
open Go.RowKit
open An

section
variable {W w : World} {x : Tp} {S : TnS} {ts : List (World → (Nat → Prop) → Prop)}
def tk1 (S : TnS) (n : Int) : TnS := { S with s := Qt.resS S.s (chargeI n) 0 }
def tkS (k : Nat) (S : TnS) (n : Int) : TnS := if ofI n < 0 then S else if Qt.resE S.s (chargeI n) 0 = 0 then (if blE k (tk1 S n) n = 0 then { blS k (tk1 S n) n with s := Qt.comS (Qt.resS S.s (chargeI n) 0) (chargeI n) 0 } else { blS k (tk1 S n) n with s := Qt.canS (Qt.resS S.s (chargeI n) 0) (chargeI n) 0 }) else tk1 S n
def tkV (k : Nat) (S : TnS) (n : Int) : Int := if ofI n < 0 then 0 else if Qt.resE S.s (chargeI n) 0 = 0 then (if blE k (tk1 S n) n = 0 then blV k (tk1 S n) n else 0) else 0
def tkE (k : Nat) (S : TnS) (n : Int) : Int := if ofI n < 0 then 2 else if Qt.resE S.s (chargeI n) 0 = 0 then (if blE k (tk1 S n) n = 0 then Qt.comE (Qt.resS S.s (chargeI n) 0) (chargeI n) 0 else blE k (tk1 S n) n) else Qt.resE S.s (chargeI n) 0
theorem blS_s (k : Nat) (S : TnS) (n : Int) : (blS k S n).s = S.s := by unfold blS; split <;> rfl
theorem n_charge' (n : Int) (gr : G17 W) (L : List (World → (Nat → Prop) → Prop)) (g : Things W w L) : Calls Tryz.prog 51 #[.int .i64 n] w fun e w' => e = .returned (.complex .f64 (fb (chargeI n)) (fb 0)) ∧ Things W w' L :=
  (n_charge n (K.start (gr.fr g.nw.fr).1)).mono fun _ _ ⟨he, f⟩ => ⟨he, g.kept f⟩
set_option maxRecDepth 20000 in
theorem n_take (g : Things W w (tnl x S ts)) (gr : G17 W) (hc : Hc x.k S.M S.H) {n : Int} (hn : I64 n) : Calls Tryz.prog 48 #[.pointer (some ⟨x.T, 0, none⟩), .int .i64 n] w fun e w' => e = .returned (.tuple #[.int .i64 (tkV x.k S n), .int .i64 (tkE x.k S n)]) ∧ Things W w' (tnl x (tkS x.k S n) ts) := by
  have G := hid g
  have HO : Hid (∀ (w : World), Things W w (tnl x S ts) → Calls Tryz.prog 45 #[.int .i64 n] w fun e w' => e = .returned (.int .i64 (ofI n)) ∧ Things W w' (tnl x S ts)) := fun w g => (k_of n (K.start (gr.fr g.nw.fr).1)).mono fun e w' ⟨he, hk⟩ => ⟨he, g.kept hk.fr⟩
  by_cases h0 : ofI n < 0
  case pos =>
    rw [show tkV x.k S n = 0 from if_pos h0, show tkE x.k S n = 2 from if_pos h0, show tkS x.k S n = S from if_pos h0]
    clear g gr hc hn
    generalize ofI n = kd at *
    go_enter Tryz.func48, Tryz.ntmps48
    go_wp2_with fail
    refine (HO.out _ G.out).mono ?_
    rintro e w1 ⟨rfl, g1⟩
    have G1 := hid g1
    clear g1 G HO
    go_wp2
    go_ret2
    exact ⟨by simp, G1.out⟩
  case neg =>
    have HC : Hid (∀ (w : World) (L : List (World → (Nat → Prop) → Prop)), Things W w L → Calls Tryz.prog 51 #[.int .i64 n] w fun e w' => e = .returned (.complex .f64 (fb (chargeI n)) (fb 0)) ∧ Things W w' L) := fun w L g => n_charge' n gr L g
    have H1 : Hid (∀ (w : World), Things W w (tnl x S ts) → Calls Tryz.prog 84 #[.pointer (some ⟨x.q, 0, none⟩), .complex .f64 (fb (chargeI n)) (fb 0)] w fun e w' => e = .returned (.int .i64 (Qt.resE S.s (chargeI n) 0)) ∧ Things W w' (tnl x (tk1 S n) ts)) := fun w g => kq_res g 2 rfl (charge_rt n)
    have H5 : Hid (∀ (w : World) (S : TnS), Things W w (tnl x S ts) → w.cell? ⟨x.T, 5, none⟩ = some (.pointer (some ⟨x.q, 0, none⟩))) := fun w S g => tn_cell g 5 rfl
    by_cases h1 : Qt.resE S.s (chargeI n) 0 = 0
    case neg =>
      rw [show tkV x.k S n = 0 from (if_neg h0).trans (if_neg h1), show tkE x.k S n = Qt.resE S.s (chargeI n) 0 from (if_neg h0).trans (if_neg h1), show tkS x.k S n = tk1 S n from (if_neg h0).trans (if_neg h1)]
      generalize tk1 S n = S1 at *
      generalize Qt.resE S.s (chargeI n) 0 = re at *
      generalize fb (chargeI n) = xb at *
      generalize fb 0 = yb at *
      generalize ofI n = kd at *
      clear g gr hc hn
      go_enter Tryz.func48, Tryz.ntmps48
      go_wp2_with fail
      refine (HO.out _ G.out).mono ?_
      rintro e w1 ⟨rfl, g1⟩
      have G1 := hid g1
      have c5 := H5.out _ _ g1
      clear g1 G HO
      have TD := hid (G1.out.kept (Fr.refl _ _).drew)
      have pd := H5.out _ _ TD.out
      clear G1 c5
      go_wp2_with fail
      go_region_held3 (fun w' => w'.cell? ⟨x.T, 5, none⟩ = some (.pointer (some ⟨x.q, 0, none⟩))) (first | assumption | go_keep) (first | (go_at_call 51; refine (HC.out _ _ TD.out).mono ?_; rintro e w2 ⟨rfl, g2⟩; have T2 := hid g2; have p2 := H5.out _ _ g2; clear g2) | (go_at_call 84; refine (H1.out _ T2.out).mono ?_; rintro e w3 ⟨rfl, g3⟩; have T3 := hid g3; have p3 := H5.out _ _ g3; clear g3))
      clear TD T2 pd p2 H1
      go_wp2
      go_ret2
      exact ⟨by simp, T3.out⟩
    case pos =>
      have HB := hid fun (w : World) (g : Things W w (tnl x (tk1 S n) ts)) => n_block g gr hc hn
      rw [h1] at H1
      by_cases h2 : blE x.k (tk1 S n) n = 0
      · rw [show tkV x.k S n = blV x.k (tk1 S n) n from (if_neg h0).trans ((if_pos h1).trans (if_pos h2)), show tkE x.k S n = Qt.comE (Qt.resS S.s (chargeI n) 0) (chargeI n) 0 from (if_neg h0).trans ((if_pos h1).trans (if_pos h2)), show tkS x.k S n = { blS x.k (tk1 S n) n with s := Qt.comS (Qt.resS S.s (chargeI n) 0) (chargeI n) 0 } from (if_neg h0).trans ((if_pos h1).trans (if_pos h2))]
        have H2 : Hid (∀ (w : World), Things W w (tnl x (blS x.k (tk1 S n) n) ts) → Calls Tryz.prog 87 #[.pointer (some ⟨x.q, 0, none⟩), .complex .f64 (fb (chargeI n)) (fb 0)] w fun e w' => e = .returned (.int .i64 (Qt.comE (Qt.resS S.s (chargeI n) 0) (chargeI n) 0)) ∧ Things W w' (tnl x { blS x.k (tk1 S n) n with s := Qt.comS (Qt.resS S.s (chargeI n) 0) (chargeI n) 0 } ts)) := fun w g => by
          have h := kq_com g 2 rfl (charge_rt n)
          rw [blS_s] at h
          exact h
        rw [h2] at HB
        generalize blS x.k (tk1 S n) n = S2 at *
        generalize blV x.k (tk1 S n) n = bv at *
        generalize { S2 with s := Qt.comS (Qt.resS S.s (chargeI n) 0) (chargeI n) 0 } = S3 at *
        generalize Qt.comE (Qt.resS S.s (chargeI n) 0) (chargeI n) 0 = ce at *
        generalize tk1 S n = S1 at *
        generalize fb (chargeI n) = xb at *
        generalize fb 0 = yb at *
        generalize ofI n = kd at *
        clear g gr hc hn h1 h2
        go_enter Tryz.func48, Tryz.ntmps48
        go_wp2_with fail
        refine (HO.out _ G.out).mono ?_
        rintro e w1 ⟨rfl, g1⟩
        have G1 := hid g1
        have c5 := H5.out _ _ g1
        clear g1 G HO
        have TD := hid (G1.out.kept (Fr.refl _ _).drew)
        have pd := H5.out _ _ TD.out
        clear G1 c5
        go_wp2_with fail
        go_region_held3 (fun w' => w'.cell? ⟨x.T, 5, none⟩ = some (.pointer (some ⟨x.q, 0, none⟩))) (first | assumption | go_keep) (first | (go_at_call 51; refine (HC.out _ _ TD.out).mono ?_; rintro e w2 ⟨rfl, g2⟩; have T2 := hid g2; have p2 := H5.out _ _ g2; clear g2) | (go_at_call 84; refine (H1.out _ T2.out).mono ?_; rintro e w3 ⟨rfl, g3⟩; have T3 := hid g3; have p3 := H5.out _ _ g3; clear g3))
        clear TD T2 pd p2 H1
        go_wp2_with fail
        refine (HB.out _ T3.out).mono ?_
        rintro e w4 ⟨rfl, g4⟩
        have TE := hid (g4.kept (Fr.refl _ _).drew)
        have pe := H5.out _ _ TE.out
        clear g4 T3 HB p3
        go_wp2_with fail
        go_region_held3 (fun w' => w'.cell? ⟨x.T, 5, none⟩ = some (.pointer (some ⟨x.q, 0, none⟩))) (first | assumption | go_keep) (first | (go_at_call 51; refine (HC.out _ _ TE.out).mono ?_; rintro e w5 ⟨rfl, g5⟩; have T5 := hid g5; have p5 := H5.out _ _ g5; clear g5) | (go_at_call 87; refine (H2.out _ T5.out).mono ?_; rintro e w6 ⟨rfl, g6⟩; have T6 := hid g6; have p6 := H5.out _ _ g6; clear g6))
        clear TE T5 pe p5 H2
        go_wp2
        go_ret2
        exact ⟨by simp, T6.out⟩
      · rw [show tkV x.k S n = 0 from (if_neg h0).trans ((if_pos h1).trans (if_neg h2)), show tkE x.k S n = blE x.k (tk1 S n) n from (if_neg h0).trans ((if_pos h1).trans (if_neg h2)), show tkS x.k S n = { blS x.k (tk1 S n) n with s := Qt.canS (Qt.resS S.s (chargeI n) 0) (chargeI n) 0 } from (if_neg h0).trans ((if_pos h1).trans (if_neg h2))]
        have H2 : Hid (∀ (w : World), Things W w (tnl x (blS x.k (tk1 S n) n) ts) → Calls Tryz.prog 86 #[.pointer (some ⟨x.q, 0, none⟩), .complex .f64 (fb (chargeI n)) (fb 0)] w fun e w' => e = .returned (.int .i64 (Qt.canE (Qt.resS S.s (chargeI n) 0) (chargeI n) 0)) ∧ Things W w' (tnl x { blS x.k (tk1 S n) n with s := Qt.canS (Qt.resS S.s (chargeI n) 0) (chargeI n) 0 } ts)) := fun w g => by
          have h := kq_can g 2 rfl (charge_rt n)
          rw [blS_s] at h
          exact h
        generalize blS x.k (tk1 S n) n = S2 at *
        generalize blV x.k (tk1 S n) n = bv at *
        generalize blE x.k (tk1 S n) n = be at *
        generalize { S2 with s := Qt.canS (Qt.resS S.s (chargeI n) 0) (chargeI n) 0 } = S3 at *
        generalize Qt.canE (Qt.resS S.s (chargeI n) 0) (chargeI n) 0 = ce at *
        generalize tk1 S n = S1 at *
        generalize fb (chargeI n) = xb at *
        generalize fb 0 = yb at *
        generalize ofI n = kd at *
        clear g gr hc hn h1
        go_enter Tryz.func48, Tryz.ntmps48
        go_wp2_with fail
        refine (HO.out _ G.out).mono ?_
        rintro e w1 ⟨rfl, g1⟩
        have G1 := hid g1
        have c5 := H5.out _ _ g1
        clear g1 G HO
        have TD := hid (G1.out.kept (Fr.refl _ _).drew)
        have pd := H5.out _ _ TD.out
        clear G1 c5
        go_wp2_with fail
        go_region_held3 (fun w' => w'.cell? ⟨x.T, 5, none⟩ = some (.pointer (some ⟨x.q, 0, none⟩))) (first | assumption | go_keep) (first | (go_at_call 51; refine (HC.out _ _ TD.out).mono ?_; rintro e w2 ⟨rfl, g2⟩; have T2 := hid g2; have p2 := H5.out _ _ g2; clear g2) | (go_at_call 84; refine (H1.out _ T2.out).mono ?_; rintro e w3 ⟨rfl, g3⟩; have T3 := hid g3; have p3 := H5.out _ _ g3; clear g3))
        clear TD T2 pd p2 H1
        go_wp2_with fail
        refine (HB.out _ T3.out).mono ?_
        rintro e w4 ⟨rfl, g4⟩
        have TE := hid (g4.kept (Fr.refl _ _).drew)
        have pe := H5.out _ _ TE.out
        clear g4 T3 HB p3
        go_wp2_with fail
        go_region_held3 (fun w' => w'.cell? ⟨x.T, 5, none⟩ = some (.pointer (some ⟨x.q, 0, none⟩))) (first | assumption | go_keep) (first | (go_at_call 51; refine (HC.out _ _ TE.out).mono ?_; rintro e w5 ⟨rfl, g5⟩; have T5 := hid g5; have p5 := H5.out _ _ g5; clear g5) | (go_at_call 86; refine (H2.out _ T5.out).mono ?_; rintro e w6 ⟨rfl, g6⟩; have T6 := hid g6; have p6 := H5.out _ _ g6; clear g6))
        clear TE T5 pe p5 H2
        go_wp2
        go_ret2
        exact ⟨by simp, T6.out⟩
end
end Go.Proofs.YtndhbnhobhkmaaaGreatDoor

namespace Go.Proofs.YtndhbnhobhkmaaaGreatDoor
open Go.RowKit
open An

theorem upd_arm {P : Program} {w w' : World} {ops : Array Oper} {o : Oper} {a : Act} {K : Act → World → Prop} {Q : Exit → Act → World → Prop} (hgd : o.guard = none) (t : TypeId) (m x v : Operand) (ho : o.op = .mapUpdate t m x v) {y z u : Value} (hm : a.eval m = y) (hx : a.eval x = z) (hv : a.eval v = u)
    (hrun : (Instr.mapUpdate t y z u).run P w = .ok () w') (hK : K (a.put o.dst undef) w') : if Region.wanted o (yielded ops a.tmps) = true then o.wp P a w K Q else K (a.put o.dst undef) w := by
  have hw : Region.wanted o (yielded ops a.tmps) = true := by unfold Region.wanted; rw [hgd]
  rw [if_pos hw]
  unfold Oper.wp
  simp [execOp, ho, hm, hx, hv, hrun, Result.andThen]
  exact hK
theorem build_obj (n : Int) (x y : Nat) : Tryz.prog.built 81 [(0, .int .i64 n), (1, .complex .f64 x y)] = some #[.int .i64 n, .complex .f64 x y] := by kernel_rfl
theorem field_obj (a : Int) (b c : Nat) (w : World) : (Instr.field 81 (.agg #[.int .i64 a, .complex .f64 b c]) 1).run Tryz.prog w = .ok (.complex .f64 b c) w ∧ (Instr.field 81 (.agg #[.int .i64 a, .complex .f64 b c]) 0).run Tryz.prog w = .ok (.int .i64 a) w := by
  constructor <;> kernel_rfl
section
variable {W w : World} {x : Tp} {S : TnS} {ts : List (World → (Nat → Prop) → Prop)}
def gbS (S : TnS) (kd s i E cost : Int) : TnS := { S with M := (hFr S.M S.H kd s i E).1, H := (hFr S.M S.H kd s i E).2.1, s := Qt.refS S.s cost 0 }
set_option maxRecDepth 20000 in
theorem n_giveBack (g : Things W w (tnl x S ts)) (gr : G17 W) (hc : Hc x.k S.M S.H) {addr kd s i E : Int} (hf : FindR addr kd s i E) (ha : I64 addr) {cost : Int} (r : Rt cost 0) : Calls Tryz.prog 50 #[.pointer (some ⟨x.T, 0, none⟩), .int .i64 addr, .complex .f64 (fb cost) (fb 0)] w fun e w' => e = .returned (.tuple #[]) ∧ Things W w' (tnl x (gbS S kd s i E cost) ts) := by
  have G := hid g
  have c3 := tn_cell g 3 rfl
  have H1 : Hid (∀ (w : World), Things W w (tnl x S ts) → Calls Tryz.prog 88 #[.pointer (some ⟨x.h, 0, none⟩), .int .i64 addr] w fun e w' => e = .returned (.int .i64 (hFr S.M S.H kd s i E).2.2) ∧ Things W w' (tnl x { S with M := (hFr S.M S.H kd s i E).1, H := (hFr S.M S.H kd s i E).2.1 } ts)) := fun w g => q_free g gr 0 rfl hc hf ha
  have H2 : Hid (∀ (w : World), Things W w (tnl x { S with M := (hFr S.M S.H kd s i E).1, H := (hFr S.M S.H kd s i E).2.1 } ts) → w.cell? ⟨x.T, 5, none⟩ = some (.pointer (some ⟨x.q, 0, none⟩)) ∧ Calls Tryz.prog 67 #[.pointer (some ⟨x.q, 0, none⟩), .complex .f64 (fb cost) (fb 0)] w fun e w' => e = .returned (.int .i64 (Qt.refE S.s cost 0)) ∧ Things W w' (tnl x (gbS S kd s i E cost) ts)) := fun w g => ⟨tn_cell g 5 rfl, kq_ref g 2 rfl r⟩
  generalize gbS S kd s i E cost = S2 at *
  generalize (hFr S.M S.H kd s i E).2.2 = fe at *
  generalize { S with M := (hFr S.M S.H kd s i E).1, H := (hFr S.M S.H kd s i E).2.1 } = S1 at *
  generalize Qt.refE S.s cost 0 = re at *
  generalize fb cost = xb at *
  generalize fb 0 = yb at *
  clear g gr hc hf ha r
  go_enter Tryz.func50, Tryz.ntmps50
  go_wp2_with fail
  refine (H1.out _ G.out).mono ?_
  rintro e w1 ⟨rfl, g1⟩
  have G1 := hid g1
  obtain ⟨c5, hr⟩ := H2.out _ g1
  have HR := hid hr
  clear g1 G H1 c3 H2 hr
  go_wp2_with fail
  refine HR.out.mono ?_
  rintro e w2 ⟨rfl, g2⟩
  have G2 := hid g2
  clear g2 G1 HR c5
  go_wp2
  go_end0
  exact ⟨rfl, G2.out⟩
def rlS (S : TnS) (addr kd s i E cost : Int) : TnS := { gbS S kd s i E cost with c := Ka.rvS S.c addr, f := fun z => if z = addr then none else S.f z, n := S.n - 1 }
set_option maxRecDepth 20000 in
theorem n_release (g : Things W w (tnl x S ts)) (gr : G17 W) (hc : Hc x.k S.M S.H) {addr kd s i E : Int} (hf : FindR addr kd s i E) (ha : I64 addr) {y : Int × Int} (hy : S.f addr = some y) (r : Rt y.2 0) : Calls Tryz.prog 44 #[.pointer (some ⟨x.T, 0, none⟩), .int .i64 addr] w fun e w' => e = .returned (.tuple #[]) ∧ Things W w' (tnl x (rlS S addr kd s i E y.2) ts) := by
  have HWF := hid (wf_small ha.1 ha.2)
  have G : Hid (Things W w (tnl x S ts)) := g
  have c7 := tn_cell G.out 7 rfl
  have hlk := (G.out.oo 3 rfl).look HWF.out hy
  have H1 : Hid (∀ (w : World), Things W w (tnl x S ts) → Calls Tryz.prog 50 #[.pointer (some ⟨x.T, 0, none⟩), .int .i64 addr, .complex .f64 (fb y.2) (fb 0)] w fun e w' => e = .returned (.tuple #[]) ∧ Things W w' (tnl x (gbS S kd s i E y.2) ts)) := fun w g => n_giveBack g gr hc hf ha r
  have H2 : Hid (∀ (w : World), Things W w (tnl x (gbS S kd s i E y.2) ts) → w.cell? ⟨x.T, 4, none⟩ = some (.pointer (some ⟨x.c, 0, none⟩)) ∧ Calls Tryz.prog 81 #[.pointer (some ⟨x.c, 0, none⟩), .int .i64 addr] w fun e w' => e = .returned (.int .i64 (Ka.rvN S.c addr : Int)) ∧ Things W w' (tnl x { gbS S kd s i E y.2 with c := Ka.rvS S.c addr } ts)) := fun w g => ⟨tn_cell g 4 rfl, kq_revoke g 1 rfl addr⟩
  have H3 : Hid (∀ (w : World), Things W w (tnl x { gbS S kd s i E y.2 with c := Ka.rvS S.c addr } ts) → w.cell? ⟨x.T, 7, none⟩ = some (.map (some x.B)) ∧ Oo w x.B S.n S.f S.n ∧ ∀ w', Oo w' x.B S.n (fun z => if z = addr then none else S.f z) (S.n - (if (S.f addr).isSome then 1 else 0)) → Fr (fun i => i = x.B) w w' → Things W w' (tnl x (rlS S addr kd s i E y.2) ts)) := fun w g => ⟨tn_cell g 7 rfl, g.oo 3 rfl, fun w' ho fr => by
    have h := g.ooTurned 3 rfl ho fr
    rw [hy] at h
    exact h⟩
  unfold obV at hlk
  have hfl := fun a b c => (field_obj a b c w).1
  have HS := hid hy
  generalize rlS S addr kd s i E y.2 = S3 at *
  generalize { gbS S kd s i E y.2 with c := Ka.rvS S.c addr } = S2 at *
  generalize gbS S kd s i E y.2 = S1 at *
  generalize (Ka.rvN S.c addr : Int) = rn at *
  generalize fb y.2 = xb at *
  generalize fb 0 = yb at *
  clear g gr hc hf ha r hy
  go_enter Tryz.func44, Tryz.ntmps44
  go_wp2_with fail
  refine (H1.out _ G.out).mono ?_
  rintro e w1 ⟨rfl, g1⟩
  have G1 := hid g1
  obtain ⟨c4, hr⟩ := H2.out _ g1
  have HR := hid hr
  clear g1 G H1 c7 hlk H2 hr hfl
  go_wp2_with fail
  refine HR.out.mono ?_
  rintro e w2 ⟨rfl, g2⟩
  obtain ⟨d7, ho, hp⟩ := H3.out _ g2
  have HO := hid ho
  have HP := hid hp
  clear g2 G1 HR c4 H3 ho hp
  go_wp2_with (at_delete; refine wp_dropO rfl (.tmp 23) (.tmp 24) rfl rfl rfl HWF.out HO.out ?_; intro w5 hO5 hF5; have T5 := hid (HP.out _ hO5 hF5); clear hO5 hF5)
  go_end0
  exact ⟨rfl, T5.out⟩
def owS (S : TnS) (addr n : Int) : TnS := { S with c := Ka.grS S.c addr, f := fun z => if z = addr then some (n, chargeI n) else S.f z, n := if (S.f addr).isSome then S.n else S.n + 1 }
set_option maxRecDepth 20000 in
theorem n_own (g : Things W w (tnl x S ts)) (gr : G17 W) {addr n : Int} (ha : I64 addr) (hm : S.n < maxLen) : Calls Tryz.prog 52 #[.pointer (some ⟨x.T, 0, none⟩), .int .i64 addr, .int .i64 n] w fun e w' => e = .returned (ans (Ka.grE S.c addr) (Ka.grV S.c addr) addr 0 ⟨#[]⟩ S.s.cb) ∧ Things W w' (tnl x (owS S addr n) ts) := by
  have HWF := hid (wf_small ha.1 ha.2)
  have G : Hid (Things W (w.alloc (.cells #[.int .i64 0, .int .u64 0, .int .i64 0, .int .i64 0, .string ⟨#[]⟩, .int .i64 0] 43)) (tnl x S (ts ++ [Blk w.heap.size (.cells #[.int .i64 0, .int .u64 0, .int .i64 0, .int .i64 0, .string ⟨#[]⟩, .int .i64 0] 43 (0, 0))]))) := g.blk (.cells #[.int .i64 0, .int .u64 0, .int .i64 0, .int .i64 0, .string ⟨#[]⟩, .int .i64 0] 43 (0, 0))
  have GD : Hid (Things W (w.alloc (.cells #[.int .i64 0, .int .u64 0, .int .i64 0, .int .i64 0, .string ⟨#[]⟩, .int .i64 0] 43)).drew (tnl x S (ts ++ [Blk w.heap.size (.cells #[.int .i64 0, .int .u64 0, .int .i64 0, .int .i64 0, .string ⟨#[]⟩, .int .i64 0] 43 (0, 0))]))) := G.out.kept (Fr.refl _ _).drew
  have pd := tn_cell GD.out 7 rfl
  have H7 : Hid (∀ (w : World) (S : TnS) (ts : List (World → (Nat → Prop) → Prop)), Things W w (tnl x S ts) → w.cell? ⟨x.T, 7, none⟩ = some (.map (some x.B))) := fun w S ts g => tn_cell g 7 rfl
  have HC := hid fun (w : World) (L : List (World → (Nat → Prop) → Prop)) (g : Things W w L) => n_charge' n gr L g
  have H1 : Hid (∀ (w : World) (ts : List (World → (Nat → Prop) → Prop)), Things W w (tnl x S ts) → ∃ w', (Instr.mapUpdate 72 (.map (some x.B)) (.int .i64 addr) (.agg #[.int .i64 n, .complex .f64 (fb (chargeI n)) (fb 0)])).run Tryz.prog w = .ok () w' ∧ Things W w' (tnl x { S with f := fun z => if z = addr then some (n, chargeI n) else S.f z, n := if (S.f addr).isSome then S.n else S.n + 1 } ts)) := fun w ts g => by
    obtain ⟨w', hr, ho, hf⟩ := (g.oo 3 rfl).store hm HWF.out (n, chargeI n)
    exact ⟨w', hr, g.ooTurned 3 rfl ho hf⟩
  have H2 : Hid (∀ (w : World) (ts : List (World → (Nat → Prop) → Prop)), Things W w (tnl x { S with f := fun z => if z = addr then some (n, chargeI n) else S.f z, n := if (S.f addr).isSome then S.n else S.n + 1 } ts) → w.cell? ⟨x.T, 4, none⟩ = some (.pointer (some ⟨x.c, 0, none⟩)) ∧ Calls Tryz.prog 89 #[.pointer (some ⟨x.c, 0, none⟩), .int .i64 addr] w fun e w' => e = .returned (.tuple #[.int .u64 (Ka.grV S.c addr), .int .i64 (Ka.grE S.c addr)]) ∧ Things W w' (tnl x (owS S addr n) ts)) := fun w ts g => ⟨tn_cell g 4 rfl, kq_grant g gr 1 rfl addr⟩
  have H3 : Hid (∀ (w : World) (ts : List (World → (Nat → Prop) → Prop)) (E hd : Int), Things W w (tnl x (owS S addr n) ts) → Calls Tryz.prog 32 #[.pointer (some ⟨x.T, 0, none⟩), ans E hd addr 0 ⟨#[]⟩ 0] w fun e w' => e = .returned (ans E hd addr 0 ⟨#[]⟩ S.s.cb) ∧ Things W w' (tnl x (owS S addr n) ts)) := fun w ts E hd g => n_say g E hd addr 0 ⟨#[]⟩ 0
  generalize owS S addr n = S2 at *
  generalize { S with f := fun z => if z = addr then some (n, chargeI n) else S.f z, n := if (S.f addr).isSome then S.n else S.n + 1 } = S1 at *
  generalize Ka.grV S.c addr = gv at *
  generalize Ka.grE S.c addr = ge at *
  generalize S.s.cb = cb at *
  generalize fb (chargeI n) = xb at *
  generalize fb 0 = yb at *
  clear g gr ha hm G
  have hbo := build_obj n xb yb
  go_enter Tryz.func52, Tryz.ntmps52
  go_wp2_with fail
  go_region_held3 (fun w' => w'.cell? ⟨x.T, 7, none⟩ = some (.map (some x.B))) (first | assumption | go_keep) (first | (go_at_call 51; refine (HC.out _ _ GD.out).mono ?_; rintro e w2 ⟨rfl, g2⟩; have G2 := hid g2; have p2 := H7.out _ _ _ g2; obtain ⟨w3, hr3, g3⟩ := H1.out _ _ g2; have G3 := hid g3; have p3 := H7.out _ _ _ g3; clear g2 g3) | (refine upd_arm rfl _ (.tmp 12) (.tmp 13) (.tmp 17) rfl rfl rfl rfl hr3 ?_))
  obtain ⟨c4, hr⟩ := H2.out _ _ G3.out
  have HR := hid hr
  clear GD pd HC H1 hbo G2 p2 hr3 p3 H2 hr
  go_wp2_with fail
  refine HR.out.mono ?_
  rintro e w4 ⟨rfl, g4⟩
  have G4 := hid g4
  clear g4 G3 HR c4
  go_wp2_with fail
  refine (H3.out _ _ _ _ G4.out).mono ?_
  rintro e w5 ⟨rfl, g5⟩
  have G5 := hid g5
  clear g5 G4 H3
  have z1 := fun i => box_frz (tn_box G5.out) i
  have b0 := box_cellT (tn_box G5.out) 0 rfl
  have b1 := box_cellT (tn_box G5.out) 1 rfl
  have b2 := box_cellT (tn_box G5.out) 2 rfl
  have b3 := box_cellT (tn_box G5.out) 3 rfl
  have b4 := box_cellT (tn_box G5.out) 4 rfl
  have b5 := box_cellT (tn_box G5.out) 5 rfl
  go_wp2
  clear z1 b0 b1 b2 b3 b4 b5
  obtain ⟨HF, hk⟩ := ans_put (tn_box G5.out) (ge) (gv) (addr) (0) ⟨#[]⟩ (cb)
  have TZ := Things.boxes1 (ts := tnl x S2 ts) G5.out HF
  have k0 := hk 0 _ rfl
  have k1 := hk 1 _ rfl
  have k2 := hk 2 _ rfl
  have k3 := hk 3 _ rfl
  have k4 := hk 4 _ rfl
  have k5 := hk 5 _ rfl
  clear HF hk
  generalize (((((w5.setCell ⟨w.heap.size, 0, none⟩ (.int .i64 (ge))).setCell ⟨w.heap.size, 1, none⟩ (.int .u64 (gv))).setCell ⟨w.heap.size, 2, none⟩ (.int .i64 (addr))).setCell ⟨w.heap.size, 3, none⟩ (.int .i64 (0))).setCell ⟨w.heap.size, 4, none⟩ (.string ⟨#[]⟩)).setCell ⟨w.heap.size, 5, none⟩ (.int .i64 (cb)) = wz at *
  exact bodyPost_ret (v := ans (ge) (gv) (addr) (0) ⟨#[]⟩ (cb)) (by simp [results, Tryz.results52, go_sem, k0, k1, k2, k3, k4, k5]) rfl ⟨rfl, TZ⟩
end
end Go.Proofs.YtndhbnhobhkmaaaGreatDoor
