/-
  The shelf's contracts at this program: the layings alone.
-/
import Derived.Shelf.SlSortCmp.NoneTotal
import Derived.Test.YtgmgoaencaldmaaRows
namespace Go.Proofs
open Go.Shelf
def Try.insMg_ren : Go.Shelf.Ren := ⟨fun | 20 => 83 | n => n, fun | 24 => 39 | 22 => 24 | 3 => 3 | 25 => 81 | 4 => 4 | 0 => 0 | n => n, fun | n => n⟩
theorem Try.insMg : Go.Proofs.SlLaysF0.n20 Try.prog Try.insMg_ren := {
  mixed := by kernel_rfl
  f20 := ⟨Try.f83.name, by decide, Try.func83.trans (congrArg some (by kernel_rfl))⟩
  t0 := Try.underlying0
  a0 := Try.isAgg0
  z0 := Try.sizeOf0
  v0 := Try.zeroValue0
  t3 := Try.underlying3
  a3 := Try.isAgg3
  z3 := Try.sizeOf3
  v3 := Try.zeroValue3
  t4 := Try.underlying4
  a4 := Try.isAgg4
  z4 := Try.sizeOf4
  v4 := Try.zeroValue4
  t22 := Try.underlying24
  a22 := Try.isAgg24
  z22 := Try.sizeOf24
  v22 := Try.zeroValue24
  t25 := Try.underlying81
  a25 := Try.isAgg81
  z25 := Try.sizeOf81
  v25 := Try.zeroValue81 }
end Go.Proofs
