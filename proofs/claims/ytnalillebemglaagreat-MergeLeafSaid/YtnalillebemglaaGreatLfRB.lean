/-
  The reference of layer 9: Within.
-/
import Derived.Test.YtnalillebemglaaGreatLfRA
import Derived.Deep.RegionWith
namespace Go.Proofs.YtnalillebemglaaGreat
open Go.RowKit Go.Sort
set_option linter.unusedVariables false
set_option linter.unusedSimpArgs false
set_option maxRecDepth 20000

theorem refWithin_take (r : Rg) (xs : List Rg) (j : Nat) (hj : j < xs.length) : withinL r (xs.take (j + 1)) = withinL r (xs.take j) ++ (if r.has xs[j].lo then [xs[j]] else []) := by
  unfold withinL
  rw [List.take_succ_eq_append_getElem hj, List.filter_append]
  congr 1
  by_cases h : r.has xs[j].lo = true
  · simp [h]
  · simp [h]
theorem refWithin_len (r : Rg) (xs : List Rg) : (withinL r xs).length ≤ xs.length := List.length_filter_le _ _
end Go.Proofs.YtnalillebemglaaGreat
