/-
  Within; half and Parts.
-/
import Derived.Test.YtipgbpopcamllaaGreatLfG
namespace Go.Proofs.YtipgbpopcamllaaGreat
open Go.RowKit Go.Sort
set_option linter.unusedVariables false
set_option linter.unusedSimpArgs false
set_option maxRecDepth 20000

theorem within_take (r : Rg) (xs : List Rg) (j : Nat) (hj : j < xs.length) : withinL r (xs.take (j + 1)) = withinL r (xs.take j) ++ (if r.has xs[j].lo then [xs[j]] else []) := by
  unfold withinL
  rw [List.take_succ_eq_append_getElem hj, List.filter_append]
  congr 1
  by_cases h : r.has xs[j].lo = true
  · simp [h]
  · simp [h]
theorem within_len (r : Rg) (xs : List Rg) : (withinL r xs).length ≤ xs.length := List.length_filter_le _ _

theorem half_eq (xs : List Rg) (n : Nat) (hn : n ≤ xs.length) (h1 : ∀ m, m < n → 2 * wtL (xs.take m) < wtL xs) (h2 : wtL xs ≤ 2 * wtL (xs.take n)) : halfN xs = n := by
  rcases Nat.lt_trichotomy (halfN xs) n with h | h | h
  · have := h1 _ h
    have := half_ge xs
    omega
  · exact h
  · have := half_lt xs n h
    omega
end Go.Proofs.YtipgbpopcamllaaGreat
