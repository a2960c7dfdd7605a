/-
  The region that draws in space.Parse (number 9), operation by operation. Written by draw2.py.
-/
import Derived.Test.YtmijbplhmjledaaVals
import Derived.Test.YtmijbplhmjledaaSpE
namespace Go.Proofs.Ytmijbplhmjledaa
open Go.RowKit
set_option linter.unusedVariables false
set_option linter.unusedSimpArgs false


def psrDl : List (Option Nat) := [some 21, some 22, some 23, some 24, some 25, some 26, some 27, some 28, some 29, some 30, some 31, some 32, some 33, some 34, none]
theorem psr_nd : psrDl.Pairwise (fun x y => x = none ∨ x ≠ y) := by decide
theorem psr_lt (d : Nat) (h : some d ∈ psrDl) : d < 41 := by
  have hh : psrDl.all (fun o => o.all (fun d => decide (d < 41))) = true := by decide
  simpa using List.all_eq_true.1 hh _ h
def psrVals (p g n c j q x y z : Nat) (T : ByteArray) (b : Bool) : List Value := [.pointer (some ⟨p, 0, none⟩), .pointer (some ⟨p, 0, none⟩), .pointer (some ⟨p, 0, none⟩), .slice (some ⟨g, 0, none⟩) n c, .int .i64 j, .string T, .int .i64 j, .int .i64 q, .int .u8 x, .int .i64 j, .int .u8 y, .int .u8 z, .bool b, .pointer (some ⟨g, j, none⟩)]
end Go.Proofs.Ytmijbplhmjledaa
