/-
  The region that draws in grangerref05.Text (number 6), operation by operation. Written by draw2.py.
-/
import Derived.Test.YtmijbplhmjledaaVals
import Derived.Test.YtmijbplhmjledaaSpRefA
namespace Go.Proofs.Ytmijbplhmjledaa
open Go.RowKit
set_option linter.unusedVariables false
set_option linter.unusedSimpArgs false


def rtrDl : List (Option Nat) := [some 20, some 21, some 22, some 23, some 24, some 25, some 26, some 27, some 28, some 29, some 30, some 31, some 32, none]
theorem rtr_nd : rtrDl.Pairwise (fun x y => x = none ∨ x ≠ y) := by decide
theorem rtr_lt (d : Nat) (h : some d ∈ rtrDl) : d < 35 := by
  have hh : rtrDl.all (fun o => o.all (fun d => decide (d < 35))) = true := by decide
  simpa using List.all_eq_true.1 hh _ h
def rtrVals (g m j q r x y z : Nat) : List Value := [.slice (some ⟨g, 0, none⟩) m m, .int .i64 j, .int .i64 q, .slice (some ⟨g, 0, none⟩) m m, .int .i64 j, .int .i64 q, .pointer (some ⟨g, q, none⟩), .int .u8 x, .int .i64 j, .int .i64 r, .int .u8 y, .int .u8 z, .pointer (some ⟨g, q, none⟩)]
end Go.Proofs.Ytmijbplhmjledaa
