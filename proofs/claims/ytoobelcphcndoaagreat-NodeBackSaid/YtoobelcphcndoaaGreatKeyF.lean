/-
  What the reference's Next does, and whether a range is empty, of both.
-/
import Derived.Test.YtoobelcphcndoaaGreatKeyE
import Derived.Test.YtoobelcphcndoaaGreatRowIn
namespace Go.Proofs.YtoobelcphcndoaaGreat
open Go.RowKit
set_option linter.unusedVariables false
set_option linter.unusedSimpArgs false

theorem run_index_str {P : Program} (t : TypeId) (h : P.underlying t = some .string) (l : List UInt8) (i : Nat) (hi : i < l.length) (w : World) : (Instr.index t (.string (str l)) (.int .i64 (i : Int))).run P w = .ok (.int .u8 (l[i].toNat : Int)) w := by
  have hi2 : (0 : Int) ≤ (i : Int) ∧ (i : Int) < (str l).size := by rw [str_size]; omega
  rw [run_index_string w t (str l) .i64 (i : Int) h, dif_pos hi2]
  congr 3
theorem run_take_str {P : Program} (t : TypeId) (h : P.underlying t = some .string) (l : List UInt8) (i : Nat) (hi : i ≤ l.length) (w : World) : (Instr.slice t (.string (str l)) none (some (.int .i64 (i : Int))) none).run P w = .ok (.string (str (l.take i))) w := by
  rw [run_slice_string_to_if w t (str l) .i64 (i : Int) h, if_pos (by rw [str_size]; omega)]
  rw [str_extract]
  simp

end Go.Proofs.YtoobelcphcndoaaGreat
