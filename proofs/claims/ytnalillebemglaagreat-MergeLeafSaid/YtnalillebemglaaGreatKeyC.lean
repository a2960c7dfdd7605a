/-
  What slices.MinFunc does with the ends of two ranges, and Meet, of the program and of the reference.
  The region that draws in Meet (its region 1), operation by operation.
  What Meet does, of the program and of the reference.
-/
import Derived.Test.YtnalillebemglaaGreatKeyM
import Derived.Test.YtnalillebemglaaGreatDraw
import Derived.Test.YtnalillebemglaaGreatRowIn
namespace Go.Proofs.YtnalillebemglaaGreat
open Go.RowKit
set_option linter.unusedVariables false
set_option linter.unusedSimpArgs false

end Go.Proofs.YtnalillebemglaaGreat
namespace Go.Proofs.YtnalillebemglaaGreat
open Go.RowKit
set_option linter.unusedVariables false
set_option linter.unusedSimpArgs false

theorem run_max_str {P : Program} (w : World) (ts : Array TypeId) (t : TypeId) (x y : List UInt8) : (Builtin.max_ ts t #[.string (str x), .string (str y)]).run P w = .ok (.string (str (maxL x y))) w := by
  by_cases h : x < y <;> simp [Builtin.max_, Builtin.max2, Op.stringOp, asBool, maxL, less_iff, str_toList, h]

def meetDl : List (Option Nat) := [some 6, some 7, some 8, some 9, some 10, some 11, some 12, some 13, some 14, some 15, some 16, some 17, some 5, none]
theorem meet_nd : meetDl.Pairwise (fun x y => x = none ∨ x ≠ y) := by decide
theorem meet_lt (d : Nat) (h : some d ∈ meetDl) : d < 24 := by
  have hh : meetDl.all (fun o => o.all (fun d => decide (d < 24))) = true := by decide
  simpa using List.all_eq_true.1 hh _ h
end Go.Proofs.YtnalillebemglaaGreat
namespace Go.Proofs.YtnalillebemglaaGreat
open Go.RowKit
set_option linter.unusedVariables false
set_option linter.unusedSimpArgs false

/-- A pair of texts in a block of its own. -/
def PairAt (w : World) (g : Nat) (t : TypeId) (x y : List UInt8) : Prop := w.heap[g]? = some (.cells #[.string (str x), .string (str y)] t (0, 0))
theorem PairAt.c0 {w : World} {g : Nat} {t : TypeId} {x y : List UInt8} (h : PairAt w g t x y) : w.cell? ⟨g, 0, none⟩ = some (.string (str x)) := by simpa using cell_of_block h 0
theorem PairAt.c1 {w : World} {g : Nat} {t : TypeId} {x y : List UInt8} (h : PairAt w g t x y) : w.cell? ⟨g, 1, none⟩ = some (.string (str y)) := by simpa using cell_of_block h 1
theorem PairAt.f {w : World} {g : Nat} {t : TypeId} {x y : List UInt8} (h : PairAt w g t x y) (j : Nat) : w.frozen? ⟨g, j, none⟩ = false := frozen_of_block h j
theorem PairAt.step {w w' : World} {g : Nat} {t : TypeId} {x y : List UInt8} (h : PairAt w g t x y) (hs : Step noF w w') : PairAt w' g t x y := (hs.block g (lt_of_block h) (fun x => x)).trans h
theorem PairAt.set0 {w : World} {g : Nat} {t : TypeId} {x y : List UInt8} (h : PairAt w g t x y) (z : List UInt8) : PairAt (w.setCell ⟨g, 0, none⟩ (.string (str z))) g t z y := by simpa [PairAt] using block_setCell h 0 (.string (str z))
theorem PairAt.set1 {w : World} {g : Nat} {t : TypeId} {x y : List UInt8} (h : PairAt w g t x y) (z : List UInt8) : PairAt (w.setCell ⟨g, 1, none⟩ (.string (str z))) g t x z := by simpa [PairAt] using block_setCell h 1 (.string (str z))
theorem pair_new (w : World) (t : TypeId) (x y : List UInt8) : PairAt (w.alloc (.cells #[.string (str x), .string (str y)] t)) w.heap.size t x y := block_alloc_new w _
theorem PairAt.alloc {w : World} {g : Nat} {t : TypeId} {x y : List UInt8} (h : PairAt w g t x y) (o : Obj) : PairAt (w.alloc o) g t x y := block_alloc_old h o

end Go.Proofs.YtnalillebemglaaGreat
