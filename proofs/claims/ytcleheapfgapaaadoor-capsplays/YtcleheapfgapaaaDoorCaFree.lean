/-
  What the calls of package caps do: free, Revoke.
-/
import Derived.Test.YtcleheapfgapaaaDoorCaCallsE
namespace Go.Proofs.YtcleheapfgapaaaDoor
open Go.RowKit

section
variable {w : World} {a o ob s sb : Nat} {c : Ct}
theorem giS_in (l : List Bool) (k : Nat) (hk : k < l.length) : Sf.giS l (k : Int) = l.set k false := by
  unfold Sf.giS
  rw [if_pos (by simp [Sf.hasN, hk])]
  rfl
set_option maxRecDepth 20000 in
set_option maxHeartbeats 1000000 in
theorem k_free (h : Kt w a o ob s sb c) (k : Nat) (hk : k < 4160) : Calls Tryd.prog 33 #[.pointer (some ⟨a, 0, none⟩), .int .i64 k] w fun e w' => e = .returned (.tuple #[]) ∧ Kt w' a o ob s sb ⟨c.T, c.nx, del c.L k⟩ ∧ Fr (fun i => i = a ∨ i = ob ∨ i = sb) w w' := by
  have ca := h.ca k hk
  have cr := h.cr k hk
  have cn := h.cn k hk
  have g := fun i => h.fz i
  by_cases hlt : k < 4096
  · have HG := hid (Sf.s_give (h.wipe_o k) (k : Int))
    rw [giS_in _ k (by rw [tkn_length]; exact hlt)] at HG
    have c2 := (h.wipe_c k).1
    have HH := hid h
    clear h
    generalize hA c.L k = xa at *
    generalize hR c.L k = xr at *
    generalize hN c.L k = xn at *
    generalize Sf.giE (tkn c.L 0 4096) k = ee at *
    unfold wipe at c2
    have HF := hid fun (w1 : World) (f : Fr (fun i => i = ob) (wipe w a k) w1) hs => HH.out.gone_o hlt f hs
    have HFR := hid ((wipe_fr w a k).mono (S' := fun i => i = a ∨ i = ob ∨ i = sb) fun _ _ e => Or.inl e)
    unfold wipe at HG HF HFR
    go_enter Tryd.func33, Tryd.ntmps33
    go_wp2_with fail
    refine HG.out.mono ?_
    rintro e w1 ⟨rfl, h1, f1⟩
    have H1 := hid (HF.out w1 f1 h1)
    have F1 := hid (HFR.out.trans (f1.mono fun _ _ e => Or.inr (Or.inl e)))
    clear h1 f1 HG HF HFR
    go_wp2
    go_end0
    exact ⟨rfl, H1.out, F1.out⟩
  · obtain ⟨j, hkj⟩ : ∃ j, k = 4096 + j := ⟨k - 4096, by omega⟩
    have hj : j < 64 := by omega
    have hsub : (k : Int) - 4096 = (j : Int) := by omega
    have HG := hid (Sf.s_give (h.wipe_s k) (j : Int))
    rw [giS_in _ j (by rw [tkn_length]; exact hj)] at HG
    have c3 := (h.wipe_c k).2
    have HH := hid h
    clear h
    generalize hA c.L k = xa at *
    generalize hR c.L k = xr at *
    generalize hN c.L k = xn at *
    generalize Sf.giE (tkn c.L 4096 64) j = ee at *
    unfold wipe at c3
    have HF := hid fun (w1 : World) (f : Fr (fun i => i = sb) (wipe w a k) w1) (hs : Sf.Sh w1 s sb ((tkn c.L 4096 64).set j false)) => (show Kt w1 a o ob s sb ⟨c.T, c.nx, del c.L k⟩ by subst hkj; exact HH.out.gone_s hj f hs)
    have HFR := hid ((wipe_fr w a k).mono (S' := fun i => i = a ∨ i = ob ∨ i = sb) fun _ _ e => Or.inl e)
    unfold wipe at HG HF HFR
    clear hkj
    go_enter Tryd.func33, Tryd.ntmps33
    go_wp2_with fail
    refine HG.out.mono ?_
    rintro e w1 ⟨rfl, h1, f1⟩
    have H1 := hid (HF.out w1 f1 h1)
    have F1 := hid (HFR.out.trans (f1.mono fun _ _ e => Or.inr (Or.inr e)))
    clear h1 f1 HG HF HFR
    go_wp2
    go_end0
    exact ⟨rfl, H1.out, F1.out⟩
end
end Go.Proofs.YtcleheapfgapaaaDoor
