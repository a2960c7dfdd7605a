/-
  What the rows' condition on the two tables gives the walks; the heap of the program's own initialisers meets it.
-/
import Derived.Test.YthdcmobnookhdaaDoorCrcA
import Derived.ProofKit
import Derived.LaidMore
import Derived.OpenShut
import Derived.ShutString
import Derived.ChangeOld
import Derived.Below
import Derived.Stop.Joined
import Derived.Lib.LaidTab
namespace Go.Proofs.YthdcmobnookhdaaDoor
open Go.ChangeShapes Go.WideShapes Go.ChangeAt Go.RowKit
set_option linter.unusedVariables false

def laidTwo : List (String × DataW Unit) := Rows.slabPlainRow.laid
theorem own_ok : ownKnob Tryd.prog.godebug = none := by kernel_rfl
theorem gLow : Tryd.prog.globalNamed (Rows.slabPlainRow.named.getD 0 default) = some 0 := by kernel_rfl
theorem gHigh : Tryd.prog.globalNamed (Rows.slabPlainRow.named.getD 1 default) = some 1 := by kernel_rfl
theorem tLow : (Tryd.prog.globals[0]?).map (·.type) = some 94 := by kernel_rfl
theorem tHigh : (Tryd.prog.globals[1]?).map (·.type) = some 94 := by kernel_rfl
theorem cellsU32 : Tryd.prog.cellsOf 46 = 1 := by kernel_rfl
theorem cellsTab : Tryd.prog.cellsOf 94 = 16 := by kernel_rfl

set_option maxRecDepth 100000 in
theorem door_met (os : Os) (args : Array Value) : laidMetH Tryd.prog laidTwo ((World.doorLaid Tryd.prog 60 os).forCall (fun _ _ => 0) ⟨#[], args, []⟩).memory :=
  laidMetH_of_parts3 (fuel := 8) (laidMet_of_run' 8 (by kernel_rfl) (by kernel_rfl)) (by kernel_rfl) (by kernel_rfl)

theorem tabs_of_laid {W : World} (h : laidMetH Tryd.prog laidTwo W) : Tabs W := by
  rw [MakeChecks.laidMetH_plain _ _ _ (by kernel_rfl)] at h
  obtain ⟨ps, ⟨g0, t0, cs0, f0, p0, q0, hg0, ht0, hv0, hd0, ⟨g1, t1, cs1, f1, p1, q1, hg1, ht1, hv1, hd1, _, _⟩, _⟩, _, _⟩ := h
  obtain rfl := Option.some.inj (gLow.symm.trans hg0)
  obtain rfl := Option.some.inj (gHigh.symm.trans hg1)
  obtain rfl := Option.some.inj (tLow.symm.trans ht0)
  obtain rfl := Option.some.inj (tHigh.symm.trans ht1)
  have e0 : Rows.laid_granger_crc_low = Lib.tabData (H := Unit) .u32 (lowT.map fun (n : Nat) => (n : Int)) := by rfl
  have e1 : Rows.laid_granger_crc_high = Lib.tabData (H := Unit) .u32 (highT.map fun (n : Nat) => (n : Int)) := by rfl
  rw [e0] at hd0
  rw [e1] at hd1
  have h0 := Lib.cells_of_tab Tryd.underlying94 Tryd.underlying46 cellsU32 cellsTab hd0
  have h1 := Lib.cells_of_tab Tryd.underlying94 Tryd.underlying46 cellsU32 cellsTab hd1
  refine ⟨fun j hj => ?_, fun j hj => ?_⟩
  · rw [World.var?_cell hg0 hv0 j, ← Array.getElem?_toList, h0, List.map_map, List.getElem?_map, List.getElem?_eq_getElem (by exact hj), Option.map_some, List.getD_eq_getElem?_getD, List.getElem?_eq_getElem (by exact hj)]
    rfl
  · rw [World.var?_cell hg1 hv1 j, ← Array.getElem?_toList, h1, List.map_map, List.getElem?_map, List.getElem?_eq_getElem (by exact hj), Option.map_some, List.getD_eq_getElem?_getD, List.getElem?_eq_getElem (by exact hj)]
    rfl
end Go.Proofs.YthdcmobnookhdaaDoor
