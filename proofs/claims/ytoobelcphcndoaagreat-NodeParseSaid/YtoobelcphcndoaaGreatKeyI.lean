/-
  What the reference's Meet does. Written by genmeet.py.
  What the reference's Cut does.
-/
import Derived.Test.YtoobelcphcndoaaGreatKeyC
import Derived.Test.YtoobelcphcndoaaGreatKeyG
namespace Go.Proofs.YtoobelcphcndoaaGreat
open Go.RowKit
set_option linter.unusedVariables false
set_option linter.unusedSimpArgs false

end Go.Proofs.YtoobelcphcndoaaGreat
namespace Go.Proofs.YtoobelcphcndoaaGreat
open Go.RowKit
set_option linter.unusedVariables false
set_option linter.unusedSimpArgs false

end Go.Proofs.YtoobelcphcndoaaGreat
