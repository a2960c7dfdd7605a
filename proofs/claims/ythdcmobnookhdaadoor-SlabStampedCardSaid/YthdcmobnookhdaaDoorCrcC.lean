/-
  What 'Parse' of package crc does.
-/
import Derived.Test.YthdcmobnookhdaaDoorCrcB
namespace Go.Proofs.YthdcmobnookhdaaDoor
open Go.RowKit
set_option linter.unusedVariables false

end Go.Proofs.YthdcmobnookhdaaDoor
