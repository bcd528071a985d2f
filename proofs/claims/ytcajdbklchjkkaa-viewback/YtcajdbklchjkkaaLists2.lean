/-
  Lists of numbers, more: one more put behind a row, and where it lies; two lists held against each other.
-/
import Derived.Test.YtcajdbklchjkkaaLists
import Derived.Deep.QuietTactic
import Derived.BigQuiet
import Derived.LoopTactic
namespace Go.Proofs.Ytcajdbklchjkkaa
open Go.RowKit

def nI (l : List Nat) : List Int := l.map fun n : Nat => (n : Int)
theorem nI_length (l : List Nat) : (nI l).length = l.length := by simp [nI]
theorem nI_snoc (l : List Nat) (x : Nat) : nI (l ++ [x]) = nI l ++ [(x : Int)] := by simp [nI]
theorem nI_get {l : List Nat} {i : Nat} (h : i < (nI l).length) : (nI l)[i] = ((l[i]'(by rwa [nI_length] at h) : Nat) : Int) := by simp [nI]
end Go.Proofs.Ytcajdbklchjkkaa
