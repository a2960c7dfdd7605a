/-
  The shelf's contracts at this program: the layings alone.
-/
import Derived.Shelf.SlSortCmp.NoneTotal
import Derived.Test.YtgmgoaencaldmaaGreatRows
namespace Go.Proofs
open Go.Shelf
def Tryz.insMg_ren : Go.Shelf.Ren := ⟨fun | 20 => 108 | n => n, fun | 24 => 76 | 22 => 24 | 3 => 3 | 25 => 132 | 4 => 4 | 0 => 0 | n => n, fun | n => n⟩
theorem Tryz.insMg : Go.Proofs.SlLaysF0.n20 Tryz.prog Tryz.insMg_ren := {
  mixed := by kernel_rfl
  f20 := ⟨Tryz.f108.name, by decide, Tryz.func108.trans (congrArg some (by kernel_rfl))⟩
  t0 := Tryz.underlying0
  a0 := Tryz.isAgg0
  z0 := Tryz.sizeOf0
  v0 := Tryz.zeroValue0
  t3 := Tryz.underlying3
  a3 := Tryz.isAgg3
  z3 := Tryz.sizeOf3
  v3 := Tryz.zeroValue3
  t4 := Tryz.underlying4
  a4 := Tryz.isAgg4
  z4 := Tryz.sizeOf4
  v4 := Tryz.zeroValue4
  t22 := Tryz.underlying24
  a22 := Tryz.isAgg24
  z22 := Tryz.sizeOf24
  v22 := Tryz.zeroValue24
  t25 := Tryz.underlying132
  a25 := Tryz.isAgg132
  z25 := Tryz.sizeOf132
  v25 := Tryz.zeroValue132 }
end Go.Proofs
