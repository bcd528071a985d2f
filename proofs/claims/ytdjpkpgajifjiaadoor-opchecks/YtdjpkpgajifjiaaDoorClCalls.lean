/-
  What the other calls of package class answer, each for every number: contracts.
-/
import Derived.Test.YtdjpkpgajifjiaaDoorClOf
import Derived.Laws.Bits64b
import Derived.Laws.OwnMore
namespace Go.Proofs.YtdjpkpgajifjiaaDoor
open Go.RowKit


/-- Where a law that began in w0 stands: no old block has turned, and the table lies there. -/
structure K (w0 w : World) : Prop where
  fr : Fr (fun _ => False) w0 w
  tab : Tab w
theorem K.start {w : World} (h : Tab w) : K w w := ⟨Fr.refl _ _, h⟩
theorem K.on {w0 w w' : World} (h : K w0 w) (f : Fr (fun _ => False) w w') : K w0 w' := ⟨h.fr.trans f, h.tab.carry f id⟩
theorem k_of (n : Int) {w0 w : World} (k : K w0 w) : Calls Tryd.prog 21 #[.int .i64 n] w fun e w' => e = .returned (.int .i64 (ofI n)) ∧ K w0 w' := (of_any n w k.tab).mono fun _ _ ⟨he, hw⟩ => ⟨he, hw ▸ k⟩
end Go.Proofs.YtdjpkpgajifjiaaDoor
