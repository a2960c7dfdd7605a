/-
  The region that draws in space.Space.Text (number 6), operation by operation. Written by draw2.py.
-/
import Derived.Test.YtmijbplhmjledaaVals
import Derived.Test.YtmijbplhmjledaaSpE
namespace Go.Proofs.Ytmijbplhmjledaa
open Go.RowKit
set_option linter.unusedVariables false
set_option linter.unusedSimpArgs false


def txrDl : List (Option Nat) := [some 17, some 18, some 19, some 20, some 21, some 22, some 23, some 24, some 25, none]
theorem txr_nd : txrDl.Pairwise (fun x y => x = none ∨ x ≠ y) := by decide
theorem txr_lt (d : Nat) (h : some d ∈ txrDl) : d < 29 := by
  have hh : txrDl.all (fun o => o.all (fun d => decide (d < 29))) = true := by decide
  simpa using List.all_eq_true.1 hh _ h
def txrVals (g m j q x y z : Nat) : List Value := [.slice (some ⟨g, 0, none⟩) m m, .int .i64 j, .int .i64 q, .pointer (some ⟨g, q, none⟩), .int .u8 x, .int .i64 j, .int .u8 y, .int .u8 z, .pointer (some ⟨g, q, none⟩)]
end Go.Proofs.Ytmijbplhmjledaa
