/-
  The region that draws in grangerlaw11.awake (number 7), operation by operation. Written by draw6.py.
  The checks ahead of each law of layer 11: awake is true; great: true, or few kids, pivots and messages of no great length.
  A kid that is picked by a number, and a node that is handed in.
-/
import Derived.Test.YtgmgoaencaldmaaGreatDraw
import Derived.Test.YtgmgoaencaldmaaGreatInA
import Derived.Test.YtgmgoaencaldmaaGreatInJ
import Derived.Deep.LoopGhost
import Derived.Deep.Cut
namespace Go.Proofs.YtgmgoaencaldmaaGreat
open Go.RowKit
set_option linter.unusedVariables false
set_option linter.unusedSimpArgs false


def iawDs : List Nat := [44, 45, 46, 47, 48, 49, 50, 51, 52, 53, 54, 55, 56, 57, 58, 59, 60, 61, 62, 63, 64, 65, 66, 67, 68, 69, 70, 71, 72, 73, 74, 75, 76, 77, 78, 79, 80, 81, 82, 83, 84, 85, 86, 87, 88, 89, 90, 91, 92, 93, 94, 95, 96, 97, 98, 99, 0]
def iawDl : List (Option Nat) := [some 44, some 45, some 46, some 47, some 48, some 49, some 50, some 51, some 52, some 53, some 54, some 55, some 56, some 57, some 58, some 59, some 60, some 61, some 62, some 63, some 64, some 65, some 66, some 67, some 68, some 69, some 70, some 71, some 72, some 73, some 74, some 75, some 76, some 77, some 78, some 79, some 80, some 81, some 82, some 83, some 84, some 85, some 86, some 87, some 88, some 89, some 90, some 91, some 92, some 93, some 94, some 95, some 96, some 97, some 98, some 99, some 0]
theorem iaw_dl : ((Tryz.f6.body.bind (regionOps 7)).getD #[]).toList.map (·.dst) = iawDl := by kernel_rfl
theorem iaw_back : backB ((Tryz.f6.body.bind (regionOps 7)).getD #[]) = true := by kernel_rfl
theorem iaw_size : ((Tryz.f6.body.bind (regionOps 7)).getD #[]).size = 57 := by kernel_rfl
theorem iaw_nd : iawDl.Pairwise (fun x y => x = none ∨ x ≠ y) := by decide
theorem iaw_lt (d : Nat) (h : some d ∈ iawDl) : d < 100 := by
  have hh : iawDl.all (fun o => o.all (fun d => decide (d < 100))) = true := by decide
  simpa using List.all_eq_true.1 hh _ h
theorem iawOp0 : opIs ((Tryz.f6.body.bind (regionOps 7)).getD #[]) 0 (some 44) (Op.move (Operand.tmp 5)) (none) := opIs_of (by kernel_rfl)
theorem iawOp1 : opIs ((Tryz.f6.body.bind (regionOps 7)).getD #[]) 1 (some 45) (Op.binOp BinOp.eql 30 (Operand.tmp 44) (Operand.const (Value.int IntKind.i64 0)) 30) (none) := opIs_of (by kernel_rfl)
theorem iawOp2 : opIs ((Tryz.f6.body.bind (regionOps 7)).getD #[]) 2 (some 46) (Op.move (Operand.tmp 45)) (none) := opIs_of (by kernel_rfl)
theorem iawOp3 : opIs ((Tryz.f6.body.bind (regionOps 7)).getD #[]) 3 (some 47) (Op.move (Operand.tmp 3)) (some (2, true)) := opIs_of (by kernel_rfl)
theorem iawOp4 : opIs ((Tryz.f6.body.bind (regionOps 7)).getD #[]) 4 (some 48) (Op.binOp BinOp.neq 29 (Operand.tmp 47) (Operand.const (Value.pointer none)) 29) (some (2, true)) := opIs_of (by kernel_rfl)
theorem iawOp5 : opIs ((Tryz.f6.body.bind (regionOps 7)).getD #[]) 5 (some 49) (Op.pick (Operand.tmp 46) (Operand.tmp 48) (Operand.const (Value.bool false))) (none) := opIs_of (by kernel_rfl)
theorem iawOp6 : opIs ((Tryz.f6.body.bind (regionOps 7)).getD #[]) 6 (some 50) (Op.move (Operand.tmp 49)) (none) := opIs_of (by kernel_rfl)
theorem iawOp7 : opIs ((Tryz.f6.body.bind (regionOps 7)).getD #[]) 7 (some 51) (Op.move (Operand.tmp 4)) (some (6, true)) := opIs_of (by kernel_rfl)
theorem iawOp8 : opIs ((Tryz.f6.body.bind (regionOps 7)).getD #[]) 8 (some 52) (Op.call { callee := Callee.builtin Builtin.len, args := #[Operand.tmp 51], argTypes := #[24] }) (some (6, true)) := opIs_of (by kernel_rfl)
theorem iawOp9 : opIs ((Tryz.f6.body.bind (regionOps 7)).getD #[]) 9 (some 53) (Op.binOp BinOp.eql 3 (Operand.tmp 52) (Operand.const (Value.int IntKind.i64 1)) 3) (some (6, true)) := opIs_of (by kernel_rfl)
theorem iawOp10 : opIs ((Tryz.f6.body.bind (regionOps 7)).getD #[]) 10 (some 54) (Op.pick (Operand.tmp 50) (Operand.tmp 53) (Operand.const (Value.bool false))) (none) := opIs_of (by kernel_rfl)
theorem iawOp11 : opIs ((Tryz.f6.body.bind (regionOps 7)).getD #[]) 11 (some 55) (Op.move (Operand.tmp 54)) (none) := opIs_of (by kernel_rfl)
theorem iawOp12 : opIs ((Tryz.f6.body.bind (regionOps 7)).getD #[]) 12 (some 56) (Op.move (Operand.tmp 4)) (some (11, true)) := opIs_of (by kernel_rfl)
theorem iawOp13 : opIs ((Tryz.f6.body.bind (regionOps 7)).getD #[]) 13 (some 57) (Op.indexAddr 24 (Operand.tmp 56) (Operand.const (Value.int IntKind.i64 0))) (some (11, true)) := opIs_of (by kernel_rfl)
theorem iawOp14 : opIs ((Tryz.f6.body.bind (regionOps 7)).getD #[]) 14 (some 58) (Op.load 76 (Operand.tmp 57)) (some (11, true)) := opIs_of (by kernel_rfl)
theorem iawOp15 : opIs ((Tryz.f6.body.bind (regionOps 7)).getD #[]) 15 (some 59) (Op.call { callee := Callee.value (Operand.func 34), args := #[Operand.const (Value.string { data := #[122] })], argTypes := #[9] }) (some (11, true)) := opIs_of (by kernel_rfl)
theorem iawOp16 : opIs ((Tryz.f6.body.bind (regionOps 7)).getD #[]) 16 (some 60) (Op.binOp BinOp.eql 76 (Operand.tmp 58) (Operand.tmp 59) 76) (some (11, true)) := opIs_of (by kernel_rfl)
theorem iawOp17 : opIs ((Tryz.f6.body.bind (regionOps 7)).getD #[]) 17 (some 61) (Op.pick (Operand.tmp 55) (Operand.tmp 60) (Operand.const (Value.bool false))) (none) := opIs_of (by kernel_rfl)
theorem iawOp18 : opIs ((Tryz.f6.body.bind (regionOps 7)).getD #[]) 18 (some 62) (Op.move (Operand.tmp 61)) (none) := opIs_of (by kernel_rfl)
theorem iawOp19 : opIs ((Tryz.f6.body.bind (regionOps 7)).getD #[]) 19 (some 63) (Op.move (Operand.tmp 3)) (some (18, true)) := opIs_of (by kernel_rfl)
theorem iawOp20 : opIs ((Tryz.f6.body.bind (regionOps 7)).getD #[]) 20 (some 64) (Op.call { callee := Callee.value (Operand.func 32), args := #[Operand.tmp 63], argTypes := #[29] }) (some (18, true)) := opIs_of (by kernel_rfl)
theorem iawOp21 : opIs ((Tryz.f6.body.bind (regionOps 7)).getD #[]) 21 (some 65) (Op.call { callee := Callee.value (Operand.func 35), args := #[Operand.tmp 64], argTypes := #[71] }) (some (18, true)) := opIs_of (by kernel_rfl)
theorem iawOp22 : opIs ((Tryz.f6.body.bind (regionOps 7)).getD #[]) 22 (some 66) (Op.binOp BinOp.eql 3 (Operand.tmp 65) (Operand.const (Value.int IntKind.i64 1)) 3) (some (18, true)) := opIs_of (by kernel_rfl)
theorem iawOp23 : opIs ((Tryz.f6.body.bind (regionOps 7)).getD #[]) 23 (some 67) (Op.pick (Operand.tmp 62) (Operand.tmp 66) (Operand.const (Value.bool false))) (none) := opIs_of (by kernel_rfl)
theorem iawOp24 : opIs ((Tryz.f6.body.bind (regionOps 7)).getD #[]) 24 (some 68) (Op.move (Operand.tmp 67)) (none) := opIs_of (by kernel_rfl)
theorem iawOp25 : opIs ((Tryz.f6.body.bind (regionOps 7)).getD #[]) 25 (some 69) (Op.move (Operand.tmp 7)) (some (24, true)) := opIs_of (by kernel_rfl)
theorem iawOp26 : opIs ((Tryz.f6.body.bind (regionOps 7)).getD #[]) 26 (some 70) (Op.binOp BinOp.eql 30 (Operand.tmp 69) (Operand.const (Value.int IntKind.i64 0)) 30) (some (24, true)) := opIs_of (by kernel_rfl)
theorem iawOp27 : opIs ((Tryz.f6.body.bind (regionOps 7)).getD #[]) 27 (some 71) (Op.pick (Operand.tmp 68) (Operand.tmp 70) (Operand.const (Value.bool false))) (none) := opIs_of (by kernel_rfl)
theorem iawOp28 : opIs ((Tryz.f6.body.bind (regionOps 7)).getD #[]) 28 (some 72) (Op.move (Operand.tmp 71)) (none) := opIs_of (by kernel_rfl)
theorem iawOp29 : opIs ((Tryz.f6.body.bind (regionOps 7)).getD #[]) 29 (some 73) (Op.move (Operand.tmp 6)) (some (28, true)) := opIs_of (by kernel_rfl)
theorem iawOp30 : opIs ((Tryz.f6.body.bind (regionOps 7)).getD #[]) 30 (some 74) (Op.binOp BinOp.neq 29 (Operand.tmp 73) (Operand.const (Value.pointer none)) 29) (some (28, true)) := opIs_of (by kernel_rfl)
theorem iawOp31 : opIs ((Tryz.f6.body.bind (regionOps 7)).getD #[]) 31 (some 75) (Op.pick (Operand.tmp 72) (Operand.tmp 74) (Operand.const (Value.bool false))) (none) := opIs_of (by kernel_rfl)
theorem iawOp32 : opIs ((Tryz.f6.body.bind (regionOps 7)).getD #[]) 32 (some 76) (Op.move (Operand.tmp 75)) (none) := opIs_of (by kernel_rfl)
theorem iawOp33 : opIs ((Tryz.f6.body.bind (regionOps 7)).getD #[]) 33 (some 77) (Op.move (Operand.tmp 6)) (some (32, true)) := opIs_of (by kernel_rfl)
theorem iawOp34 : opIs ((Tryz.f6.body.bind (regionOps 7)).getD #[]) 34 (some 78) (Op.call { callee := Callee.value (Operand.func 12), args := #[Operand.tmp 77], argTypes := #[29] }) (some (32, true)) := opIs_of (by kernel_rfl)
theorem iawOp35 : opIs ((Tryz.f6.body.bind (regionOps 7)).getD #[]) 35 (some 79) (Op.binOp BinOp.eql 3 (Operand.tmp 78) (Operand.const (Value.int IntKind.i64 3)) 3) (some (32, true)) := opIs_of (by kernel_rfl)
theorem iawOp36 : opIs ((Tryz.f6.body.bind (regionOps 7)).getD #[]) 36 (some 80) (Op.pick (Operand.tmp 76) (Operand.tmp 79) (Operand.const (Value.bool false))) (none) := opIs_of (by kernel_rfl)
theorem iawOp37 : opIs ((Tryz.f6.body.bind (regionOps 7)).getD #[]) 37 (some 81) (Op.move (Operand.tmp 80)) (none) := opIs_of (by kernel_rfl)
theorem iawOp38 : opIs ((Tryz.f6.body.bind (regionOps 7)).getD #[]) 38 (some 82) (Op.move (Operand.tmp 6)) (some (37, true)) := opIs_of (by kernel_rfl)
theorem iawOp39 : opIs ((Tryz.f6.body.bind (regionOps 7)).getD #[]) 39 (some 83) (Op.call { callee := Callee.value (Operand.func 13), args := #[Operand.tmp 82, Operand.const (Value.string { data := #[100] })], argTypes := #[29, 9] }) (some (37, true)) := opIs_of (by kernel_rfl)
theorem iawOp40 : opIs ((Tryz.f6.body.bind (regionOps 7)).getD #[]) 40 (some 84) (Op.binOp BinOp.eql 3 (Operand.tmp 83) (Operand.const (Value.int IntKind.i64 1)) 3) (some (37, true)) := opIs_of (by kernel_rfl)
theorem iawOp41 : opIs ((Tryz.f6.body.bind (regionOps 7)).getD #[]) 41 (some 85) (Op.pick (Operand.tmp 81) (Operand.tmp 84) (Operand.const (Value.bool false))) (none) := opIs_of (by kernel_rfl)
theorem iawOp42 : opIs ((Tryz.f6.body.bind (regionOps 7)).getD #[]) 42 (some 86) (Op.move (Operand.tmp 85)) (none) := opIs_of (by kernel_rfl)
theorem iawOp43 : opIs ((Tryz.f6.body.bind (regionOps 7)).getD #[]) 43 (some 87) (Op.move (Operand.tmp 1)) (some (42, true)) := opIs_of (by kernel_rfl)
theorem iawOp44 : opIs ((Tryz.f6.body.bind (regionOps 7)).getD #[]) 44 (some 88) (Op.call { callee := Callee.value (Operand.func 13), args := #[Operand.tmp 87, Operand.const (Value.string { data := #[109] })], argTypes := #[29, 9] }) (some (42, true)) := opIs_of (by kernel_rfl)
theorem iawOp45 : opIs ((Tryz.f6.body.bind (regionOps 7)).getD #[]) 45 (some 89) (Op.binOp BinOp.eql 3 (Operand.tmp 88) (Operand.const (Value.int IntKind.i64 1)) 3) (some (42, true)) := opIs_of (by kernel_rfl)
theorem iawOp46 : opIs ((Tryz.f6.body.bind (regionOps 7)).getD #[]) 46 (some 90) (Op.pick (Operand.tmp 86) (Operand.tmp 89) (Operand.const (Value.bool false))) (none) := opIs_of (by kernel_rfl)
theorem iawOp47 : opIs ((Tryz.f6.body.bind (regionOps 7)).getD #[]) 47 (some 91) (Op.move (Operand.tmp 90)) (none) := opIs_of (by kernel_rfl)
theorem iawOp48 : opIs ((Tryz.f6.body.bind (regionOps 7)).getD #[]) 48 (some 92) (Op.move (Operand.tmp 1)) (some (47, true)) := opIs_of (by kernel_rfl)
theorem iawOp49 : opIs ((Tryz.f6.body.bind (regionOps 7)).getD #[]) 49 (some 93) (Op.call { callee := Callee.value (Operand.func 12), args := #[Operand.tmp 92], argTypes := #[29] }) (some (47, true)) := opIs_of (by kernel_rfl)
theorem iawOp50 : opIs ((Tryz.f6.body.bind (regionOps 7)).getD #[]) 50 (some 94) (Op.binOp BinOp.eql 3 (Operand.tmp 93) (Operand.const (Value.int IntKind.i64 2)) 3) (some (47, true)) := opIs_of (by kernel_rfl)
theorem iawOp51 : opIs ((Tryz.f6.body.bind (regionOps 7)).getD #[]) 51 (some 95) (Op.pick (Operand.tmp 91) (Operand.tmp 94) (Operand.const (Value.bool false))) (none) := opIs_of (by kernel_rfl)
theorem iawOp52 : opIs ((Tryz.f6.body.bind (regionOps 7)).getD #[]) 52 (some 96) (Op.move (Operand.tmp 95)) (none) := opIs_of (by kernel_rfl)
theorem iawOp53 : opIs ((Tryz.f6.body.bind (regionOps 7)).getD #[]) 53 (some 97) (Op.move (Operand.tmp 9)) (some (52, true)) := opIs_of (by kernel_rfl)
theorem iawOp54 : opIs ((Tryz.f6.body.bind (regionOps 7)).getD #[]) 54 (some 98) (Op.binOp BinOp.eql 30 (Operand.tmp 97) (Operand.const (Value.int IntKind.i64 3)) 30) (some (52, true)) := opIs_of (by kernel_rfl)
theorem iawOp55 : opIs ((Tryz.f6.body.bind (regionOps 7)).getD #[]) 55 (some 99) (Op.pick (Operand.tmp 96) (Operand.tmp 98) (Operand.const (Value.bool false))) (none) := opIs_of (by kernel_rfl)
theorem iawOp56 : opIs ((Tryz.f6.body.bind (regionOps 7)).getD #[]) 56 (some 0) (Op.assign (Operand.tmp 99)) (none) := opIs_of (by kernel_rfl)
/-- What is said of each slot. -/
def iawSp (p1 p3 p6 q3 g4 o4 c4 : Nat) (i : Nat) (w : World) (v : Value) : Prop := match i with
  | 0 => v = .int .i64 0
  | 1 => v = .bool true
  | 2 => v = .bool true
  | 3 => v = .pointer (some ⟨p3, 0, none⟩)
  | 4 => v = .bool true
  | 5 => v = .bool true
  | 6 => v = .bool true
  | 7 => v = .slice (some ⟨g4, o4, none⟩) 1 c4
  | 8 => v = .int .i64 1
  | 9 => v = .bool true
  | 10 => v = .bool true
  | 11 => v = .bool true
  | 12 => v = .slice (some ⟨g4, o4, none⟩) 1 c4
  | 13 => v = .pointer (some ⟨g4, o4, none⟩)
  | 14 => v = .agg #[.int .i64 2, .string (str [122]), .string (str [])]
  | 15 => v = .agg #[.int .i64 2, .string (str [122]), .string (str [])]
  | 16 => v = .bool true
  | 17 => v = .bool true
  | 18 => v = .bool true
  | 19 => v = .pointer (some ⟨p3, 0, none⟩)
  | 20 => v = .pointer (some ⟨q3, 0, none⟩)
  | 21 => v = .int .i64 1
  | 22 => v = .bool true
  | 23 => v = .bool true
  | 24 => v = .bool true
  | 25 => v = .int .i64 0
  | 26 => v = .bool true
  | 27 => v = .bool true
  | 28 => v = .bool true
  | 29 => v = .pointer (some ⟨p6, 0, none⟩)
  | 30 => v = .bool true
  | 31 => v = .bool true
  | 32 => v = .bool true
  | 33 => v = .pointer (some ⟨p6, 0, none⟩)
  | 34 => v = .int .i64 3
  | 35 => v = .bool true
  | 36 => v = .bool true
  | 37 => v = .bool true
  | 38 => v = .pointer (some ⟨p6, 0, none⟩)
  | 39 => v = .int .i64 1
  | 40 => v = .bool true
  | 41 => v = .bool true
  | 42 => v = .bool true
  | 43 => v = .pointer (some ⟨p1, 0, none⟩)
  | 44 => v = .int .i64 1
  | 45 => v = .bool true
  | 46 => v = .bool true
  | 47 => v = .bool true
  | 48 => v = .pointer (some ⟨p1, 0, none⟩)
  | 49 => v = .int .i64 2
  | 50 => v = .bool true
  | 51 => v = .bool true
  | 52 => v = .bool true
  | 53 => v = .int .i64 3
  | 54 => v = .bool true
  | 55 => v = .bool true
  | 56 => v = .bool true
  | _ => True
theorem iawSp_mono (p1 p3 p6 q3 g4 o4 c4 : Nat) : ∀ i w w' v, Step noF w w' → iawSp p1 p3 p6 q3 g4 o4 c4 i w v → iawSp p1 p3 p6 q3 g4 o4 c4 i w' v := by
  intro i w w' v hs h
  match i with
  | 0 => exact h
  | 1 => exact h
  | 2 => exact h
  | 3 => exact h
  | 4 => exact h
  | 5 => exact h
  | 6 => exact h
  | 7 => exact h
  | 8 => exact h
  | 9 => exact h
  | 10 => exact h
  | 11 => exact h
  | 12 => exact h
  | 13 => exact h
  | 14 => exact h
  | 15 => exact h
  | 16 => exact h
  | 17 => exact h
  | 18 => exact h
  | 19 => exact h
  | 20 => exact h
  | 21 => exact h
  | 22 => exact h
  | 23 => exact h
  | 24 => exact h
  | 25 => exact h
  | 26 => exact h
  | 27 => exact h
  | 28 => exact h
  | 29 => exact h
  | 30 => exact h
  | 31 => exact h
  | 32 => exact h
  | 33 => exact h
  | 34 => exact h
  | 35 => exact h
  | 36 => exact h
  | 37 => exact h
  | 38 => exact h
  | 39 => exact h
  | 40 => exact h
  | 41 => exact h
  | 42 => exact h
  | 43 => exact h
  | 44 => exact h
  | 45 => exact h
  | 46 => exact h
  | 47 => exact h
  | 48 => exact h
  | 49 => exact h
  | 50 => exact h
  | 51 => exact h
  | 52 => exact h
  | 53 => exact h
  | 54 => exact h
  | 55 => exact h
  | 56 => exact h
  | k + 57 => exact h

set_option maxHeartbeats 4000000 in
set_option maxRecDepth 100000 in
theorem iaw_go (p1 p3 p6 q3 g4 o4 c4 : Nat) (w0 : World) (u00 : w0.cell? ⟨g4, o4, none⟩ = some (.int .i64 2)) (u10 : w0.cell? ⟨g4, o4 + 1, none⟩ = some (.string (str [122]))) (u20 : w0.cell? ⟨g4, o4 + 2, none⟩ = some (.string (str []))) (c590 : ∀ w0', Step noF w0 w0' → Calls Tryz.prog 34 #[.string ⟨#[122]⟩] w0' fun e w0'' => e = .returned (.agg #[.int .i64 2, .string (str [122]), .string (str [])]) ∧ Step noF w0' w0'') (c640 : ∀ w0', Step noF w0 w0' → Calls Tryz.prog 32 #[.pointer (some ⟨p3, 0, none⟩)] w0' fun e w0'' => e = .returned (.pointer (some ⟨q3, 0, none⟩)) ∧ Step noF w0' w0'') (c650 : ∀ w0', Step noF w0 w0' → Calls Tryz.prog 35 #[.pointer (some ⟨q3, 0, none⟩)] w0' fun e w0'' => e = .returned (.int .i64 1) ∧ Step noF w0' w0'') (c780 : ∀ w0', Step noF w0 w0' → Calls Tryz.prog 12 #[.pointer (some ⟨p6, 0, none⟩)] w0' fun e w0'' => e = .returned (.int .i64 3) ∧ Step noF w0' w0'') (c830 : ∀ w0', Step noF w0 w0' → Calls Tryz.prog 13 #[.pointer (some ⟨p6, 0, none⟩), .string ⟨#[100]⟩] w0' fun e w0'' => e = .returned (.int .i64 1) ∧ Step noF w0' w0'') (c880 : ∀ w0', Step noF w0 w0' → Calls Tryz.prog 13 #[.pointer (some ⟨p1, 0, none⟩), .string ⟨#[109]⟩] w0' fun e w0'' => e = .returned (.int .i64 1) ∧ Step noF w0' w0'') (c930 : ∀ w0', Step noF w0 w0' → Calls Tryz.prog 12 #[.pointer (some ⟨p1, 0, none⟩)] w0' fun e w0'' => e = .returned (.int .i64 2) ∧ Step noF w0' w0'')
    {Q : Exit → Act → World → Prop} (a0 : Act) (hsz : a0.tmps.size = 100) (h1 : a0.tmps.getD 1 undef = .pointer (some ⟨p1, 0, none⟩)) (h3 : a0.tmps.getD 3 undef = .pointer (some ⟨p3, 0, none⟩)) (h4 : a0.tmps.getD 4 undef = .slice (some ⟨g4, o4, none⟩) 1 c4) (h5 : a0.tmps.getD 5 undef = .int .i64 0) (h6 : a0.tmps.getD 6 undef = .pointer (some ⟨p6, 0, none⟩)) (h7 : a0.tmps.getD 7 undef = .int .i64 0) (h9 : a0.tmps.getD 9 undef = .int .i64 3)
    (hend : ∀ (f : Nat → Value) (w : World), Step noF w0 w → iawSp p1 p3 p6 q3 g4 o4 c4 56 w (f 0) → Q .normal (putAll a0 (iawDs.map some) (iawDs.map f)) w) :
    (Code.region 7 ((Tryz.f6.body.bind (regionOps 7)).getD #[]) true).wp Tryz.prog Q a0 w0 := by
  refine wp_region_preds (iawSp p1 p3 p6 q3 g4 o4 c4) (iawSp_mono p1 p3 p6 q3 g4 o4 c4) iawDl (by kernel_rfl) iaw_back iaw_dl iaw_nd (fun d h => by rw [hsz]; exact iaw_lt d h) ?_ ?_
  · intro i hi a w hs hfr hat
    rw [iaw_size] at hi
    have n1 := (hfr 1 (by decide)).trans h1
    have n3 := (hfr 3 (by decide)).trans h3
    have n4 := (hfr 4 (by decide)).trans h4
    have n5 := (hfr 5 (by decide)).trans h5
    have n6 := (hfr 6 (by decide)).trans h6
    have n7 := (hfr 7 (by decide)).trans h7
    have n9 := (hfr 9 (by decide)).trans h9
    have u0 : w.cell? ⟨g4, o4, none⟩ = some (.int .i64 2) := hs.after u00
    have u1 : w.cell? ⟨g4, o4 + 1, none⟩ = some (.string (str [122])) := hs.after u10
    have u2 : w.cell? ⟨g4, o4 + 2, none⟩ = some (.string (str [])) := hs.after u20
    have c59 : ∀ w', Step noF w w' → Calls Tryz.prog 34 #[.string ⟨#[122]⟩] w' fun e w'' => e = .returned (.agg #[.int .i64 2, .string (str [122]), .string (str [])]) ∧ Step noF w' w'' := fun w' s' => c590 w' (hs.trans s')
    have c64 : ∀ w', Step noF w w' → Calls Tryz.prog 32 #[.pointer (some ⟨p3, 0, none⟩)] w' fun e w'' => e = .returned (.pointer (some ⟨q3, 0, none⟩)) ∧ Step noF w' w'' := fun w' s' => c640 w' (hs.trans s')
    have c65 : ∀ w', Step noF w w' → Calls Tryz.prog 35 #[.pointer (some ⟨q3, 0, none⟩)] w' fun e w'' => e = .returned (.int .i64 1) ∧ Step noF w' w'' := fun w' s' => c650 w' (hs.trans s')
    have c78 : ∀ w', Step noF w w' → Calls Tryz.prog 12 #[.pointer (some ⟨p6, 0, none⟩)] w' fun e w'' => e = .returned (.int .i64 3) ∧ Step noF w' w'' := fun w' s' => c780 w' (hs.trans s')
    have c83 : ∀ w', Step noF w w' → Calls Tryz.prog 13 #[.pointer (some ⟨p6, 0, none⟩), .string ⟨#[100]⟩] w' fun e w'' => e = .returned (.int .i64 1) ∧ Step noF w' w'' := fun w' s' => c830 w' (hs.trans s')
    have c88 : ∀ w', Step noF w w' → Calls Tryz.prog 13 #[.pointer (some ⟨p1, 0, none⟩), .string ⟨#[109]⟩] w' fun e w'' => e = .returned (.int .i64 1) ∧ Step noF w' w'' := fun w' s' => c880 w' (hs.trans s')
    have c93 : ∀ w', Step noF w w' → Calls Tryz.prog 12 #[.pointer (some ⟨p1, 0, none⟩)] w' fun e w'' => e = .returned (.int .i64 2) ∧ Step noF w' w'' := fun w' s' => c930 w' (hs.trans s')
    match i, hi with
    | 0, _ =>
      refine op_runs (d := some 44) iawOp0 (wants_none a) (v := .int .i64 0) (w' := w) ?_ ⟨44, _, rfl, rfl, Step.refl _ _, rfl⟩
      intro oo hoo
      simp only [execOp, hoo, Act.eval, n5]
      go_simp
    | 1, _ =>
      have n44 : a.tmps.getD 44 undef = _ := hat 0 (lc (by kernel_rfl)) 44 rfl
      refine op_runs (d := some 45) iawOp1 (wants_none a) (v := .bool true) (w' := w) ?_ ⟨45, _, rfl, rfl, Step.refl _ _, rfl⟩
      intro oo hoo
      simp only [execOp, hoo, Act.eval, n44]
      go_simp
    | 2, _ =>
      have n45 : a.tmps.getD 45 undef = _ := hat 1 (lc (by kernel_rfl)) 45 rfl
      refine op_runs (d := some 46) iawOp2 (wants_none a) (v := .bool true) (w' := w) ?_ ⟨46, _, rfl, rfl, Step.refl _ _, rfl⟩
      intro oo hoo
      simp only [execOp, hoo, Act.eval, n45]
      go_simp
    | 3, _ =>
      have n46 : a.tmps.getD 46 undef = _ := hat 2 (lc (by kernel_rfl)) 46 rfl
      refine op_runs (d := some 47) iawOp3 (wants_some (d := 46) (b := true) (by kernel_rfl) n46) (v := .pointer (some ⟨p3, 0, none⟩)) (w' := w) ?_ ⟨47, _, rfl, rfl, Step.refl _ _, rfl⟩
      intro oo hoo
      simp only [execOp, hoo, Act.eval, n3]
      go_simp
    | 4, _ =>
      have n47 : a.tmps.getD 47 undef = _ := hat 3 (lc (by kernel_rfl)) 47 rfl
      have n46 : a.tmps.getD 46 undef = _ := hat 2 (lc (by kernel_rfl)) 46 rfl
      refine op_runs (d := some 48) iawOp4 (wants_some (d := 46) (b := true) (by kernel_rfl) n46) (v := .bool true) (w' := w) ?_ ⟨48, _, rfl, rfl, Step.refl _ _, rfl⟩
      intro oo hoo
      simp only [execOp, hoo, Act.eval, n47]
      go_simp
    | 5, _ =>
      have n46 : a.tmps.getD 46 undef = _ := hat 2 (lc (by kernel_rfl)) 46 rfl
      have n48 : a.tmps.getD 48 undef = _ := hat 4 (lc (by kernel_rfl)) 48 rfl
      refine op_runs (d := some 49) iawOp5 (wants_none a) (v := .bool true) (w' := w) ?_ ⟨49, _, rfl, rfl, Step.refl _ _, rfl⟩
      intro oo hoo
      simp only [execOp, hoo, Act.eval, n46, n48]
      go_simp
    | 6, _ =>
      have n49 : a.tmps.getD 49 undef = _ := hat 5 (lc (by kernel_rfl)) 49 rfl
      refine op_runs (d := some 50) iawOp6 (wants_none a) (v := .bool true) (w' := w) ?_ ⟨50, _, rfl, rfl, Step.refl _ _, rfl⟩
      intro oo hoo
      simp only [execOp, hoo, Act.eval, n49]
      go_simp
    | 7, _ =>
      have n50 : a.tmps.getD 50 undef = _ := hat 6 (lc (by kernel_rfl)) 50 rfl
      refine op_runs (d := some 51) iawOp7 (wants_some (d := 50) (b := true) (by kernel_rfl) n50) (v := .slice (some ⟨g4, o4, none⟩) 1 c4) (w' := w) ?_ ⟨51, _, rfl, rfl, Step.refl _ _, rfl⟩
      intro oo hoo
      simp only [execOp, hoo, Act.eval, n4]
      go_simp
    | 8, _ =>
      have n51 : a.tmps.getD 51 undef = _ := hat 7 (lc (by kernel_rfl)) 51 rfl
      have n50 : a.tmps.getD 50 undef = _ := hat 6 (lc (by kernel_rfl)) 50 rfl
      refine op_runs (d := some 52) iawOp8 (wants_some (d := 50) (b := true) (by kernel_rfl) n50) (v := .int .i64 1) (w' := w) ?_ ⟨52, _, rfl, rfl, Step.refl _ _, rfl⟩
      intro oo hoo
      simp only [execOp, hoo, Act.eval, n51]
      go_simp
    | 9, _ =>
      have n52 : a.tmps.getD 52 undef = _ := hat 8 (lc (by kernel_rfl)) 52 rfl
      have n50 : a.tmps.getD 50 undef = _ := hat 6 (lc (by kernel_rfl)) 50 rfl
      refine op_runs (d := some 53) iawOp9 (wants_some (d := 50) (b := true) (by kernel_rfl) n50) (v := .bool true) (w' := w) ?_ ⟨53, _, rfl, rfl, Step.refl _ _, rfl⟩
      intro oo hoo
      simp only [execOp, hoo, Act.eval, n52]
      go_simp
    | 10, _ =>
      have n50 : a.tmps.getD 50 undef = _ := hat 6 (lc (by kernel_rfl)) 50 rfl
      have n53 : a.tmps.getD 53 undef = _ := hat 9 (lc (by kernel_rfl)) 53 rfl
      refine op_runs (d := some 54) iawOp10 (wants_none a) (v := .bool true) (w' := w) ?_ ⟨54, _, rfl, rfl, Step.refl _ _, rfl⟩
      intro oo hoo
      simp only [execOp, hoo, Act.eval, n50, n53]
      go_simp
    | 11, _ =>
      have n54 : a.tmps.getD 54 undef = _ := hat 10 (lc (by kernel_rfl)) 54 rfl
      refine op_runs (d := some 55) iawOp11 (wants_none a) (v := .bool true) (w' := w) ?_ ⟨55, _, rfl, rfl, Step.refl _ _, rfl⟩
      intro oo hoo
      simp only [execOp, hoo, Act.eval, n54]
      go_simp
    | 12, _ =>
      have n55 : a.tmps.getD 55 undef = _ := hat 11 (lc (by kernel_rfl)) 55 rfl
      refine op_runs (d := some 56) iawOp12 (wants_some (d := 55) (b := true) (by kernel_rfl) n55) (v := .slice (some ⟨g4, o4, none⟩) 1 c4) (w' := w) ?_ ⟨56, _, rfl, rfl, Step.refl _ _, rfl⟩
      intro oo hoo
      simp only [execOp, hoo, Act.eval, n4]
      go_simp
    | 13, _ =>
      have n56 : a.tmps.getD 56 undef = _ := hat 12 (lc (by kernel_rfl)) 56 rfl
      have n55 : a.tmps.getD 55 undef = _ := hat 11 (lc (by kernel_rfl)) 55 rfl
      refine op_runs (d := some 57) iawOp13 (wants_some (d := 55) (b := true) (by kernel_rfl) n55) (v := .pointer (some ⟨g4, o4, none⟩)) (w' := w) ?_ ⟨57, _, rfl, rfl, Step.refl _ _, rfl⟩
      intro oo hoo
      simp only [execOp, hoo, Act.eval, n56]
      go_simp
    | 14, _ =>
      have n57 : a.tmps.getD 57 undef = _ := hat 13 (lc (by kernel_rfl)) 57 rfl
      have n55 : a.tmps.getD 55 undef = _ := hat 11 (lc (by kernel_rfl)) 55 rfl
      refine op_runs (d := some 58) iawOp14 (wants_some (d := 55) (b := true) (by kernel_rfl) n55) (v := .agg #[.int .i64 2, .string (str [122]), .string (str [])]) (w' := w) ?_ ⟨58, _, rfl, rfl, Step.refl _ _, rfl⟩
      intro oo hoo
      simp only [execOp, hoo, Act.eval, n57]
      go_simp
    | 15, _ =>
      have n55 : a.tmps.getD 55 undef = _ := hat 11 (lc (by kernel_rfl)) 55 rfl
      refine op_calls iawOp15 (wants_some (d := 55) (b := true) (by kernel_rfl) n55) Tryz.func34 (by kernel_rfl) (by kernel_rfl) (args := #[.string ⟨#[122]⟩]) (by simp [Act.eval, ]) ((c59 w (Step.refl _ _)).mono ?_)
      rintro e w' ⟨rfl, s'⟩
      exact ⟨_, rfl, 59, _, rfl, rfl, s', rfl⟩
    | 16, _ =>
      have n58 : a.tmps.getD 58 undef = _ := hat 14 (lc (by kernel_rfl)) 58 rfl
      have n59 : a.tmps.getD 59 undef = _ := hat 15 (lc (by kernel_rfl)) 59 rfl
      have n55 : a.tmps.getD 55 undef = _ := hat 11 (lc (by kernel_rfl)) 55 rfl
      refine op_runs (d := some 60) iawOp16 (wants_some (d := 55) (b := true) (by kernel_rfl) n55) (v := .bool true) (w' := w) ?_ ⟨60, _, rfl, rfl, Step.refl _ _, rfl⟩
      intro oo hoo
      simp only [execOp, hoo, Act.eval, n58, n59]
      go_simp
    | 17, _ =>
      have n55 : a.tmps.getD 55 undef = _ := hat 11 (lc (by kernel_rfl)) 55 rfl
      have n60 : a.tmps.getD 60 undef = _ := hat 16 (lc (by kernel_rfl)) 60 rfl
      refine op_runs (d := some 61) iawOp17 (wants_none a) (v := .bool true) (w' := w) ?_ ⟨61, _, rfl, rfl, Step.refl _ _, rfl⟩
      intro oo hoo
      simp only [execOp, hoo, Act.eval, n55, n60]
      go_simp
    | 18, _ =>
      have n61 : a.tmps.getD 61 undef = _ := hat 17 (lc (by kernel_rfl)) 61 rfl
      refine op_runs (d := some 62) iawOp18 (wants_none a) (v := .bool true) (w' := w) ?_ ⟨62, _, rfl, rfl, Step.refl _ _, rfl⟩
      intro oo hoo
      simp only [execOp, hoo, Act.eval, n61]
      go_simp
    | 19, _ =>
      have n62 : a.tmps.getD 62 undef = _ := hat 18 (lc (by kernel_rfl)) 62 rfl
      refine op_runs (d := some 63) iawOp19 (wants_some (d := 62) (b := true) (by kernel_rfl) n62) (v := .pointer (some ⟨p3, 0, none⟩)) (w' := w) ?_ ⟨63, _, rfl, rfl, Step.refl _ _, rfl⟩
      intro oo hoo
      simp only [execOp, hoo, Act.eval, n3]
      go_simp
    | 20, _ =>
      have n63 : a.tmps.getD 63 undef = _ := hat 19 (lc (by kernel_rfl)) 63 rfl
      have n62 : a.tmps.getD 62 undef = _ := hat 18 (lc (by kernel_rfl)) 62 rfl
      refine op_calls iawOp20 (wants_some (d := 62) (b := true) (by kernel_rfl) n62) Tryz.func32 (by kernel_rfl) (by kernel_rfl) (args := #[.pointer (some ⟨p3, 0, none⟩)]) (by simp [Act.eval, n63]) ((c64 w (Step.refl _ _)).mono ?_)
      rintro e w' ⟨rfl, s'⟩
      exact ⟨_, rfl, 64, _, rfl, rfl, s', rfl⟩
    | 21, _ =>
      have n64 : a.tmps.getD 64 undef = _ := hat 20 (lc (by kernel_rfl)) 64 rfl
      have n62 : a.tmps.getD 62 undef = _ := hat 18 (lc (by kernel_rfl)) 62 rfl
      refine op_calls iawOp21 (wants_some (d := 62) (b := true) (by kernel_rfl) n62) Tryz.func35 (by kernel_rfl) (by kernel_rfl) (args := #[.pointer (some ⟨q3, 0, none⟩)]) (by simp [Act.eval, n64]) ((c65 w (Step.refl _ _)).mono ?_)
      rintro e w' ⟨rfl, s'⟩
      exact ⟨_, rfl, 65, _, rfl, rfl, s', rfl⟩
    | 22, _ =>
      have n65 : a.tmps.getD 65 undef = _ := hat 21 (lc (by kernel_rfl)) 65 rfl
      have n62 : a.tmps.getD 62 undef = _ := hat 18 (lc (by kernel_rfl)) 62 rfl
      refine op_runs (d := some 66) iawOp22 (wants_some (d := 62) (b := true) (by kernel_rfl) n62) (v := .bool true) (w' := w) ?_ ⟨66, _, rfl, rfl, Step.refl _ _, rfl⟩
      intro oo hoo
      simp only [execOp, hoo, Act.eval, n65]
      go_simp
    | 23, _ =>
      have n62 : a.tmps.getD 62 undef = _ := hat 18 (lc (by kernel_rfl)) 62 rfl
      have n66 : a.tmps.getD 66 undef = _ := hat 22 (lc (by kernel_rfl)) 66 rfl
      refine op_runs (d := some 67) iawOp23 (wants_none a) (v := .bool true) (w' := w) ?_ ⟨67, _, rfl, rfl, Step.refl _ _, rfl⟩
      intro oo hoo
      simp only [execOp, hoo, Act.eval, n62, n66]
      go_simp
    | 24, _ =>
      have n67 : a.tmps.getD 67 undef = _ := hat 23 (lc (by kernel_rfl)) 67 rfl
      refine op_runs (d := some 68) iawOp24 (wants_none a) (v := .bool true) (w' := w) ?_ ⟨68, _, rfl, rfl, Step.refl _ _, rfl⟩
      intro oo hoo
      simp only [execOp, hoo, Act.eval, n67]
      go_simp
    | 25, _ =>
      have n68 : a.tmps.getD 68 undef = _ := hat 24 (lc (by kernel_rfl)) 68 rfl
      refine op_runs (d := some 69) iawOp25 (wants_some (d := 68) (b := true) (by kernel_rfl) n68) (v := .int .i64 0) (w' := w) ?_ ⟨69, _, rfl, rfl, Step.refl _ _, rfl⟩
      intro oo hoo
      simp only [execOp, hoo, Act.eval, n7]
      go_simp
    | 26, _ =>
      have n69 : a.tmps.getD 69 undef = _ := hat 25 (lc (by kernel_rfl)) 69 rfl
      have n68 : a.tmps.getD 68 undef = _ := hat 24 (lc (by kernel_rfl)) 68 rfl
      refine op_runs (d := some 70) iawOp26 (wants_some (d := 68) (b := true) (by kernel_rfl) n68) (v := .bool true) (w' := w) ?_ ⟨70, _, rfl, rfl, Step.refl _ _, rfl⟩
      intro oo hoo
      simp only [execOp, hoo, Act.eval, n69]
      go_simp
    | 27, _ =>
      have n68 : a.tmps.getD 68 undef = _ := hat 24 (lc (by kernel_rfl)) 68 rfl
      have n70 : a.tmps.getD 70 undef = _ := hat 26 (lc (by kernel_rfl)) 70 rfl
      refine op_runs (d := some 71) iawOp27 (wants_none a) (v := .bool true) (w' := w) ?_ ⟨71, _, rfl, rfl, Step.refl _ _, rfl⟩
      intro oo hoo
      simp only [execOp, hoo, Act.eval, n68, n70]
      go_simp
    | 28, _ =>
      have n71 : a.tmps.getD 71 undef = _ := hat 27 (lc (by kernel_rfl)) 71 rfl
      refine op_runs (d := some 72) iawOp28 (wants_none a) (v := .bool true) (w' := w) ?_ ⟨72, _, rfl, rfl, Step.refl _ _, rfl⟩
      intro oo hoo
      simp only [execOp, hoo, Act.eval, n71]
      go_simp
    | 29, _ =>
      have n72 : a.tmps.getD 72 undef = _ := hat 28 (lc (by kernel_rfl)) 72 rfl
      refine op_runs (d := some 73) iawOp29 (wants_some (d := 72) (b := true) (by kernel_rfl) n72) (v := .pointer (some ⟨p6, 0, none⟩)) (w' := w) ?_ ⟨73, _, rfl, rfl, Step.refl _ _, rfl⟩
      intro oo hoo
      simp only [execOp, hoo, Act.eval, n6]
      go_simp
    | 30, _ =>
      have n73 : a.tmps.getD 73 undef = _ := hat 29 (lc (by kernel_rfl)) 73 rfl
      have n72 : a.tmps.getD 72 undef = _ := hat 28 (lc (by kernel_rfl)) 72 rfl
      refine op_runs (d := some 74) iawOp30 (wants_some (d := 72) (b := true) (by kernel_rfl) n72) (v := .bool true) (w' := w) ?_ ⟨74, _, rfl, rfl, Step.refl _ _, rfl⟩
      intro oo hoo
      simp only [execOp, hoo, Act.eval, n73]
      go_simp
    | 31, _ =>
      have n72 : a.tmps.getD 72 undef = _ := hat 28 (lc (by kernel_rfl)) 72 rfl
      have n74 : a.tmps.getD 74 undef = _ := hat 30 (lc (by kernel_rfl)) 74 rfl
      refine op_runs (d := some 75) iawOp31 (wants_none a) (v := .bool true) (w' := w) ?_ ⟨75, _, rfl, rfl, Step.refl _ _, rfl⟩
      intro oo hoo
      simp only [execOp, hoo, Act.eval, n72, n74]
      go_simp
    | 32, _ =>
      have n75 : a.tmps.getD 75 undef = _ := hat 31 (lc (by kernel_rfl)) 75 rfl
      refine op_runs (d := some 76) iawOp32 (wants_none a) (v := .bool true) (w' := w) ?_ ⟨76, _, rfl, rfl, Step.refl _ _, rfl⟩
      intro oo hoo
      simp only [execOp, hoo, Act.eval, n75]
      go_simp
    | 33, _ =>
      have n76 : a.tmps.getD 76 undef = _ := hat 32 (lc (by kernel_rfl)) 76 rfl
      refine op_runs (d := some 77) iawOp33 (wants_some (d := 76) (b := true) (by kernel_rfl) n76) (v := .pointer (some ⟨p6, 0, none⟩)) (w' := w) ?_ ⟨77, _, rfl, rfl, Step.refl _ _, rfl⟩
      intro oo hoo
      simp only [execOp, hoo, Act.eval, n6]
      go_simp
    | 34, _ =>
      have n77 : a.tmps.getD 77 undef = _ := hat 33 (lc (by kernel_rfl)) 77 rfl
      have n76 : a.tmps.getD 76 undef = _ := hat 32 (lc (by kernel_rfl)) 76 rfl
      refine op_calls iawOp34 (wants_some (d := 76) (b := true) (by kernel_rfl) n76) Tryz.func12 (by kernel_rfl) (by kernel_rfl) (args := #[.pointer (some ⟨p6, 0, none⟩)]) (by simp [Act.eval, n77]) ((c78 w (Step.refl _ _)).mono ?_)
      rintro e w' ⟨rfl, s'⟩
      exact ⟨_, rfl, 78, _, rfl, rfl, s', rfl⟩
    | 35, _ =>
      have n78 : a.tmps.getD 78 undef = _ := hat 34 (lc (by kernel_rfl)) 78 rfl
      have n76 : a.tmps.getD 76 undef = _ := hat 32 (lc (by kernel_rfl)) 76 rfl
      refine op_runs (d := some 79) iawOp35 (wants_some (d := 76) (b := true) (by kernel_rfl) n76) (v := .bool true) (w' := w) ?_ ⟨79, _, rfl, rfl, Step.refl _ _, rfl⟩
      intro oo hoo
      simp only [execOp, hoo, Act.eval, n78]
      go_simp
    | 36, _ =>
      have n76 : a.tmps.getD 76 undef = _ := hat 32 (lc (by kernel_rfl)) 76 rfl
      have n79 : a.tmps.getD 79 undef = _ := hat 35 (lc (by kernel_rfl)) 79 rfl
      refine op_runs (d := some 80) iawOp36 (wants_none a) (v := .bool true) (w' := w) ?_ ⟨80, _, rfl, rfl, Step.refl _ _, rfl⟩
      intro oo hoo
      simp only [execOp, hoo, Act.eval, n76, n79]
      go_simp
    | 37, _ =>
      have n80 : a.tmps.getD 80 undef = _ := hat 36 (lc (by kernel_rfl)) 80 rfl
      refine op_runs (d := some 81) iawOp37 (wants_none a) (v := .bool true) (w' := w) ?_ ⟨81, _, rfl, rfl, Step.refl _ _, rfl⟩
      intro oo hoo
      simp only [execOp, hoo, Act.eval, n80]
      go_simp
    | 38, _ =>
      have n81 : a.tmps.getD 81 undef = _ := hat 37 (lc (by kernel_rfl)) 81 rfl
      refine op_runs (d := some 82) iawOp38 (wants_some (d := 81) (b := true) (by kernel_rfl) n81) (v := .pointer (some ⟨p6, 0, none⟩)) (w' := w) ?_ ⟨82, _, rfl, rfl, Step.refl _ _, rfl⟩
      intro oo hoo
      simp only [execOp, hoo, Act.eval, n6]
      go_simp
    | 39, _ =>
      have n82 : a.tmps.getD 82 undef = _ := hat 38 (lc (by kernel_rfl)) 82 rfl
      have n81 : a.tmps.getD 81 undef = _ := hat 37 (lc (by kernel_rfl)) 81 rfl
      refine op_calls iawOp39 (wants_some (d := 81) (b := true) (by kernel_rfl) n81) Tryz.func13 (by kernel_rfl) (by kernel_rfl) (args := #[.pointer (some ⟨p6, 0, none⟩), .string ⟨#[100]⟩]) (by simp [Act.eval, n82]) ((c83 w (Step.refl _ _)).mono ?_)
      rintro e w' ⟨rfl, s'⟩
      exact ⟨_, rfl, 83, _, rfl, rfl, s', rfl⟩
    | 40, _ =>
      have n83 : a.tmps.getD 83 undef = _ := hat 39 (lc (by kernel_rfl)) 83 rfl
      have n81 : a.tmps.getD 81 undef = _ := hat 37 (lc (by kernel_rfl)) 81 rfl
      refine op_runs (d := some 84) iawOp40 (wants_some (d := 81) (b := true) (by kernel_rfl) n81) (v := .bool true) (w' := w) ?_ ⟨84, _, rfl, rfl, Step.refl _ _, rfl⟩
      intro oo hoo
      simp only [execOp, hoo, Act.eval, n83]
      go_simp
    | 41, _ =>
      have n81 : a.tmps.getD 81 undef = _ := hat 37 (lc (by kernel_rfl)) 81 rfl
      have n84 : a.tmps.getD 84 undef = _ := hat 40 (lc (by kernel_rfl)) 84 rfl
      refine op_runs (d := some 85) iawOp41 (wants_none a) (v := .bool true) (w' := w) ?_ ⟨85, _, rfl, rfl, Step.refl _ _, rfl⟩
      intro oo hoo
      simp only [execOp, hoo, Act.eval, n81, n84]
      go_simp
    | 42, _ =>
      have n85 : a.tmps.getD 85 undef = _ := hat 41 (lc (by kernel_rfl)) 85 rfl
      refine op_runs (d := some 86) iawOp42 (wants_none a) (v := .bool true) (w' := w) ?_ ⟨86, _, rfl, rfl, Step.refl _ _, rfl⟩
      intro oo hoo
      simp only [execOp, hoo, Act.eval, n85]
      go_simp
    | 43, _ =>
      have n86 : a.tmps.getD 86 undef = _ := hat 42 (lc (by kernel_rfl)) 86 rfl
      refine op_runs (d := some 87) iawOp43 (wants_some (d := 86) (b := true) (by kernel_rfl) n86) (v := .pointer (some ⟨p1, 0, none⟩)) (w' := w) ?_ ⟨87, _, rfl, rfl, Step.refl _ _, rfl⟩
      intro oo hoo
      simp only [execOp, hoo, Act.eval, n1]
      go_simp
    | 44, _ =>
      have n87 : a.tmps.getD 87 undef = _ := hat 43 (lc (by kernel_rfl)) 87 rfl
      have n86 : a.tmps.getD 86 undef = _ := hat 42 (lc (by kernel_rfl)) 86 rfl
      refine op_calls iawOp44 (wants_some (d := 86) (b := true) (by kernel_rfl) n86) Tryz.func13 (by kernel_rfl) (by kernel_rfl) (args := #[.pointer (some ⟨p1, 0, none⟩), .string ⟨#[109]⟩]) (by simp [Act.eval, n87]) ((c88 w (Step.refl _ _)).mono ?_)
      rintro e w' ⟨rfl, s'⟩
      exact ⟨_, rfl, 88, _, rfl, rfl, s', rfl⟩
    | 45, _ =>
      have n88 : a.tmps.getD 88 undef = _ := hat 44 (lc (by kernel_rfl)) 88 rfl
      have n86 : a.tmps.getD 86 undef = _ := hat 42 (lc (by kernel_rfl)) 86 rfl
      refine op_runs (d := some 89) iawOp45 (wants_some (d := 86) (b := true) (by kernel_rfl) n86) (v := .bool true) (w' := w) ?_ ⟨89, _, rfl, rfl, Step.refl _ _, rfl⟩
      intro oo hoo
      simp only [execOp, hoo, Act.eval, n88]
      go_simp
    | 46, _ =>
      have n86 : a.tmps.getD 86 undef = _ := hat 42 (lc (by kernel_rfl)) 86 rfl
      have n89 : a.tmps.getD 89 undef = _ := hat 45 (lc (by kernel_rfl)) 89 rfl
      refine op_runs (d := some 90) iawOp46 (wants_none a) (v := .bool true) (w' := w) ?_ ⟨90, _, rfl, rfl, Step.refl _ _, rfl⟩
      intro oo hoo
      simp only [execOp, hoo, Act.eval, n86, n89]
      go_simp
    | 47, _ =>
      have n90 : a.tmps.getD 90 undef = _ := hat 46 (lc (by kernel_rfl)) 90 rfl
      refine op_runs (d := some 91) iawOp47 (wants_none a) (v := .bool true) (w' := w) ?_ ⟨91, _, rfl, rfl, Step.refl _ _, rfl⟩
      intro oo hoo
      simp only [execOp, hoo, Act.eval, n90]
      go_simp
    | 48, _ =>
      have n91 : a.tmps.getD 91 undef = _ := hat 47 (lc (by kernel_rfl)) 91 rfl
      refine op_runs (d := some 92) iawOp48 (wants_some (d := 91) (b := true) (by kernel_rfl) n91) (v := .pointer (some ⟨p1, 0, none⟩)) (w' := w) ?_ ⟨92, _, rfl, rfl, Step.refl _ _, rfl⟩
      intro oo hoo
      simp only [execOp, hoo, Act.eval, n1]
      go_simp
    | 49, _ =>
      have n92 : a.tmps.getD 92 undef = _ := hat 48 (lc (by kernel_rfl)) 92 rfl
      have n91 : a.tmps.getD 91 undef = _ := hat 47 (lc (by kernel_rfl)) 91 rfl
      refine op_calls iawOp49 (wants_some (d := 91) (b := true) (by kernel_rfl) n91) Tryz.func12 (by kernel_rfl) (by kernel_rfl) (args := #[.pointer (some ⟨p1, 0, none⟩)]) (by simp [Act.eval, n92]) ((c93 w (Step.refl _ _)).mono ?_)
      rintro e w' ⟨rfl, s'⟩
      exact ⟨_, rfl, 93, _, rfl, rfl, s', rfl⟩
    | 50, _ =>
      have n93 : a.tmps.getD 93 undef = _ := hat 49 (lc (by kernel_rfl)) 93 rfl
      have n91 : a.tmps.getD 91 undef = _ := hat 47 (lc (by kernel_rfl)) 91 rfl
      refine op_runs (d := some 94) iawOp50 (wants_some (d := 91) (b := true) (by kernel_rfl) n91) (v := .bool true) (w' := w) ?_ ⟨94, _, rfl, rfl, Step.refl _ _, rfl⟩
      intro oo hoo
      simp only [execOp, hoo, Act.eval, n93]
      go_simp
    | 51, _ =>
      have n91 : a.tmps.getD 91 undef = _ := hat 47 (lc (by kernel_rfl)) 91 rfl
      have n94 : a.tmps.getD 94 undef = _ := hat 50 (lc (by kernel_rfl)) 94 rfl
      refine op_runs (d := some 95) iawOp51 (wants_none a) (v := .bool true) (w' := w) ?_ ⟨95, _, rfl, rfl, Step.refl _ _, rfl⟩
      intro oo hoo
      simp only [execOp, hoo, Act.eval, n91, n94]
      go_simp
    | 52, _ =>
      have n95 : a.tmps.getD 95 undef = _ := hat 51 (lc (by kernel_rfl)) 95 rfl
      refine op_runs (d := some 96) iawOp52 (wants_none a) (v := .bool true) (w' := w) ?_ ⟨96, _, rfl, rfl, Step.refl _ _, rfl⟩
      intro oo hoo
      simp only [execOp, hoo, Act.eval, n95]
      go_simp
    | 53, _ =>
      have n96 : a.tmps.getD 96 undef = _ := hat 52 (lc (by kernel_rfl)) 96 rfl
      refine op_runs (d := some 97) iawOp53 (wants_some (d := 96) (b := true) (by kernel_rfl) n96) (v := .int .i64 3) (w' := w) ?_ ⟨97, _, rfl, rfl, Step.refl _ _, rfl⟩
      intro oo hoo
      simp only [execOp, hoo, Act.eval, n9]
      go_simp
    | 54, _ =>
      have n97 : a.tmps.getD 97 undef = _ := hat 53 (lc (by kernel_rfl)) 97 rfl
      have n96 : a.tmps.getD 96 undef = _ := hat 52 (lc (by kernel_rfl)) 96 rfl
      refine op_runs (d := some 98) iawOp54 (wants_some (d := 96) (b := true) (by kernel_rfl) n96) (v := .bool true) (w' := w) ?_ ⟨98, _, rfl, rfl, Step.refl _ _, rfl⟩
      intro oo hoo
      simp only [execOp, hoo, Act.eval, n97]
      go_simp
    | 55, _ =>
      have n96 : a.tmps.getD 96 undef = _ := hat 52 (lc (by kernel_rfl)) 96 rfl
      have n98 : a.tmps.getD 98 undef = _ := hat 54 (lc (by kernel_rfl)) 98 rfl
      refine op_runs (d := some 99) iawOp55 (wants_none a) (v := .bool true) (w' := w) ?_ ⟨99, _, rfl, rfl, Step.refl _ _, rfl⟩
      intro oo hoo
      simp only [execOp, hoo, Act.eval, n96, n98]
      go_simp
    | 56, _ =>
      have n99 : a.tmps.getD 99 undef = _ := hat 55 (lc (by kernel_rfl)) 99 rfl
      refine op_runs (d := some 0) iawOp56 (wants_none a) (v := .bool true) (w' := w) ?_ ⟨0, _, rfl, rfl, Step.refl _ _, rfl⟩
      intro oo hoo
      simp only [execOp, hoo, Act.eval, n99]
      go_simp
    | k + 57, h => exact absurd h (by omega)
  · intro a w hs hdf hs2 hfr hat
    rw [iaw_size] at hat
    have e := act_vals (a := a) (a0 := a0) iawDs (by decide) (fun d hd => by rw [hsz]; exact iaw_lt d (by revert hd; revert d; decide)) hdf hs2 (fun k hk => hfr k (fun hk2 => hk (by revert hk2; simp [iawDl, iawDs])))
    rw [e]
    exact hend (fun d => a.tmps.getD d undef) w hs (hat 56 (by omega) 0 rfl)
set_option maxRecDepth 100000 in
theorem iaw_lit (f : Nat → Value) (D : List Deferred) (x0 x1 x2 x3 x4 x5 x6 x7 x8 x9 x10 x11 x12 x13 x14 x15 x16 x17 x18 x19 x20 x21 x22 x23 x24 x25 x26 x27 x28 x29 x30 x31 x32 x33 x34 x35 x36 x37 x38 x39 x40 x41 x42 x43 x44 x45 x46 x47 x48 x49 x50 x51 x52 x53 x54 x55 x56 x57 x58 x59 x60 x61 x62 x63 x64 x65 x66 x67 x68 x69 x70 x71 x72 x73 x74 x75 x76 x77 x78 x79 x80 x81 x82 x83 x84 x85 x86 x87 x88 x89 x90 x91 x92 x93 x94 x95 x96 x97 x98 x99 : Value) : putAll { tmps := #[x0, x1, x2, x3, x4, x5, x6, x7, x8, x9, x10, x11, x12, x13, x14, x15, x16, x17, x18, x19, x20, x21, x22, x23, x24, x25, x26, x27, x28, x29, x30, x31, x32, x33, x34, x35, x36, x37, x38, x39, x40, x41, x42, x43, x44, x45, x46, x47, x48, x49, x50, x51, x52, x53, x54, x55, x56, x57, x58, x59, x60, x61, x62, x63, x64, x65, x66, x67, x68, x69, x70, x71, x72, x73, x74, x75, x76, x77, x78, x79, x80, x81, x82, x83, x84, x85, x86, x87, x88, x89, x90, x91, x92, x93, x94, x95, x96, x97, x98, x99], defers := D } (iawDs.map some) (iawDs.map f) = { tmps := #[f 0, x1, x2, x3, x4, x5, x6, x7, x8, x9, x10, x11, x12, x13, x14, x15, x16, x17, x18, x19, x20, x21, x22, x23, x24, x25, x26, x27, x28, x29, x30, x31, x32, x33, x34, x35, x36, x37, x38, x39, x40, x41, x42, x43, f 44, f 45, f 46, f 47, f 48, f 49, f 50, f 51, f 52, f 53, f 54, f 55, f 56, f 57, f 58, f 59, f 60, f 61, f 62, f 63, f 64, f 65, f 66, f 67, f 68, f 69, f 70, f 71, f 72, f 73, f 74, f 75, f 76, f 77, f 78, f 79, f 80, f 81, f 82, f 83, f 84, f 85, f 86, f 87, f 88, f 89, f 90, f 91, f 92, f 93, f 94, f 95, f 96, f 97, f 98, f 99], defers := D } := by kernel_rfl
end Go.Proofs.YtgmgoaencaldmaaGreat
namespace Go.Proofs.YtgmgoaencaldmaaGreat
open Go.RowKit Go.Sort
set_option linter.unusedVariables false
set_option linter.unusedSimpArgs false
set_option maxRecDepth 20000

set_option maxHeartbeats 4000000 in
/-- great: true, or few kids, pivots and messages of no great length. -/
theorem greatN_any (ks : List Int) (hkl : ks.length ≤ maxLen) (ps : List (List UInt8)) (hpl : ps.length ≤ maxLen) (hpq : ∀ x ∈ ps, x.length ≤ maxLen) (ms : List Mg) (hml : ms.length ≤ maxLen) (hmq : ∀ x ∈ ms, x.key.length ≤ maxLen ∧ x.val.length ≤ maxLen) (ka pa a : Option Addr) (kc pc c : Nat) (w : World) (hp : RowAt w noF pa (texts ps)) (h : MsgsAt w noF a ms) :
    Calls Tryz.prog 7 #[.slice ka ks.length kc, .slice pa ps.length pc, .slice a ms.length c] w fun e w' => (e = .returned (.bool true) ∨ (e = .returned (.bool false) ∧ ks.length ≤ 30 ∧ ps.length ≤ 30 ∧ ms.length ≤ 40 ∧ (∀ x ∈ ps, x.length ≤ 512) ∧ ∀ x ∈ ms, x.key.length ≤ 512 ∧ x.val.length ≤ 512)) ∧ w = w' := by
  have hz := str_size
  have HR := hid h
  have HQ := hid hmq
  have HPR := hid hp
  have HPQ := hid hpq
  unfold maxLen at hkl hpl hml
  clear h hmq hp hpq
  go_enter Tryz.func7, Tryz.ntmps7
  go_wp2_with fail
  go_loopg [7] 31 (fun kx s7 wr => ∃ (j : Nat), s7 = .int .i64 j ∧ j ≤ ps.length ∧ j ≤ 31 ∧ 31 - j ≤ kx ∧ wr = w ∧ Hid (∀ i (h : i < ps.length), i < j → ps[i].length ≤ 512))
  case atStart => exact ⟨0, rfl, by omega, by omega, by omega, rfl, fun i _ h => absurd h (by omega)⟩
  case round =>
    obtain ⟨j, rfl, hj, hj2, hkx, rfl, HI⟩ := hrel
    by_cases hin : j < ps.length ∧ j < 31
    · obtain ⟨hjl, hj31⟩ := hin
      have hjz : (j : Int) < (ps.length : Int) := by omega
      have hjz2 : (j : Int) < 31 := by omega
      obtain ⟨b, off, rfl, c0⟩ := texts_at HPR.out j hjl
      have hb := HPQ.out ps[j] (List.getElem_mem hjl)
      unfold maxLen at hb
      have HN : Hid (ps[j].length ≤ 512 → ∀ i (h : i < ps.length), i < j + 1 → ps[i].length ≤ 512) := fun h1 i hi hij => by
        rcases Nat.lt_or_eq_of_le (Nat.le_of_lt_succ hij) with e | e
        · exact HI.out i hi e
        · subst e; exact h1
      obtain ⟨x, hm⟩ : ∃ m, ps[j] = m := ⟨_, rfl⟩
      rw [hm] at c0 HN hb
      clear hm
      by_cases g1 : 512 < x.length
      · have gz1 : (512 : Int) < (x.length : Int) := by omega
        go_wp2_with fail
        go_ret
        exact ⟨.inl rfl, rfl⟩
      · have gz1 : ¬ (512 : Int) < (x.length : Int) := by omega
        have HN2 := hid (HN.out (by omega))
        go_wp2_with fail
        go_roundg (31 - (j + 1))
        case measure => omega
        case rel => exact ⟨j + 1, by simp, by omega, by omega, Nat.le_refl _, rfl, HN2⟩
    · have HP : Hid (ps.length ≤ 30 → ∀ x ∈ ps, x.length ≤ 512) := fun h30 x hx => by
        obtain ⟨i, hi, rfl⟩ := List.getElem_of_mem hx
        exact HI.out i hi (by omega)
      have hstop0 : ¬ (j : Int) < (ps.length : Int) ∨ ((j : Int) < (ps.length : Int) ∧ ¬ (j : Int) < 31) := by omega
      obtain ⟨i0, hi0⟩ : ∃ i0, j = i0 := ⟨_, rfl⟩
      subst hi0
      rcases hstop0 with y1 | ⟨y1, y2⟩
      · skip
        go_wp2_with fail
        go_loopg [8] 41 (fun kx s8 wz => ∃ (j2 : Nat), s8 = .int .i64 j2 ∧ j2 ≤ ms.length ∧ j2 ≤ 41 ∧ 41 - j2 ≤ kx ∧ wz = wr ∧ Hid (∀ i (h : i < ms.length), i < j2 → ms[i].key.length ≤ 512 ∧ ms[i].val.length ≤ 512))
        case atStart => exact ⟨0, rfl, by omega, by omega, by omega, rfl, fun i _ h => absurd h (by omega)⟩
        case round =>
          clear HI hin
          obtain ⟨j, rfl, hj, hj2, hkx, rfl, HI⟩ := hrel
          by_cases hin : j < ms.length ∧ j < 41
          · obtain ⟨hjl, hj41⟩ := hin
            have hjz : (j : Int) < (ms.length : Int) := by omega
            have hjz2 : (j : Int) < 41 := by omega
            obtain ⟨g, off, rfl, _, c0, c1⟩ := HR.out.at j hjl
            have hb := HQ.out ms[j] (List.getElem_mem hjl)
            unfold maxLen at hb
            have HN : Hid (ms[j].key.length ≤ 512 → ms[j].val.length ≤ 512 → ∀ i (h : i < ms.length), i < j + 1 → ms[i].key.length ≤ 512 ∧ ms[i].val.length ≤ 512) := fun h1 h2 i hi hij => by
              rcases Nat.lt_or_eq_of_le (Nat.le_of_lt_succ hij) with e | e
              · exact HI.out i hi e
              · subst e; exact ⟨h1, h2⟩
            obtain ⟨⟨z, x, y⟩, hm⟩ : ∃ m, ms[j] = m := ⟨_, rfl⟩
            rw [hm] at c0 c1 HN hb
            clear hm
            simp only at hb
            obtain ⟨hb1, hb2⟩ := hb
            by_cases g1 : 512 < x.length
            · have gz1 : (512 : Int) < (x.length : Int) := by omega
              go_wp2_with fail
              go_ret
              exact ⟨.inl rfl, rfl⟩
            · have gz1 : ¬ (512 : Int) < (x.length : Int) := by omega
              by_cases g2 : 512 < y.length
              · have gz2 : (512 : Int) < (y.length : Int) := by omega
                go_wp2_with fail
                go_ret
                exact ⟨.inl rfl, rfl⟩
              · have gz2 : ¬ (512 : Int) < (y.length : Int) := by omega
                have HN2 := hid (HN.out (by simp; omega) (by simp; omega))
                go_wp2_with fail
                go_roundg (41 - (j + 1))
                case measure => omega
                case rel => exact ⟨j + 1, by simp, by omega, by omega, Nat.le_refl _, rfl, HN2⟩
          · have HM : Hid (ms.length ≤ 40 → ∀ x ∈ ms, x.key.length ≤ 512 ∧ x.val.length ≤ 512) := fun h40 x hx => by
              obtain ⟨i, hi, rfl⟩ := List.getElem_of_mem hx
              exact HI.out i hi (by omega)
            have hstop : ¬ (j : Int) < (ms.length : Int) ∨ ((j : Int) < (ms.length : Int) ∧ ¬ (j : Int) < 41) := by omega
            by_cases g1 : 30 < ks.length
            · have gz1 : (30 : Int) < (ks.length : Int) := by omega
              rcases hstop with z1 | ⟨z1, z2⟩
              · go_wp2_with fail
                go_ret
                exact ⟨.inl rfl, rfl⟩
              · go_wp2_with fail
                go_ret
                exact ⟨.inl rfl, rfl⟩
            · have gz1 : ¬ (30 : Int) < (ks.length : Int) := by omega
              by_cases g2 : 30 < ps.length
              · have gz2 : (30 : Int) < (ps.length : Int) := by omega
                rcases hstop with z1 | ⟨z1, z2⟩
                · go_wp2_with fail
                  go_ret
                  exact ⟨.inl rfl, rfl⟩
                · go_wp2_with fail
                  go_ret
                  exact ⟨.inl rfl, rfl⟩
              · have gz2 : ¬ (30 : Int) < (ps.length : Int) := by omega
                by_cases g3 : 40 < ms.length
                · have gz3 : (40 : Int) < (ms.length : Int) := by omega
                  rcases hstop with z1 | ⟨z1, z2⟩
                  · go_wp2_with fail
                    go_ret
                    exact ⟨.inl rfl, rfl⟩
                  · go_wp2_with fail
                    go_ret
                    exact ⟨.inl rfl, rfl⟩
                · have gz3 : ¬ (40 : Int) < (ms.length : Int) := by omega
                  have z1 : ¬ (j : Int) < (ms.length : Int) := by omega
                  clear hstop
                  go_wp2_with fail
                  go_ret
                  exact ⟨.inr ⟨rfl, by omega, by omega, by omega, HP.out (by omega), HM.out (by omega)⟩, rfl⟩
      · skip
        go_wp2_with fail
        go_loopg [8] 41 (fun kx s8 wz => ∃ (j2 : Nat), s8 = .int .i64 j2 ∧ j2 ≤ ms.length ∧ j2 ≤ 41 ∧ 41 - j2 ≤ kx ∧ wz = wr ∧ Hid (∀ i (h : i < ms.length), i < j2 → ms[i].key.length ≤ 512 ∧ ms[i].val.length ≤ 512))
        case atStart => exact ⟨0, rfl, by omega, by omega, by omega, rfl, fun i _ h => absurd h (by omega)⟩
        case round =>
          clear HI hin
          obtain ⟨j, rfl, hj, hj2, hkx, rfl, HI⟩ := hrel
          by_cases hin : j < ms.length ∧ j < 41
          · obtain ⟨hjl, hj41⟩ := hin
            have hjz : (j : Int) < (ms.length : Int) := by omega
            have hjz2 : (j : Int) < 41 := by omega
            obtain ⟨g, off, rfl, _, c0, c1⟩ := HR.out.at j hjl
            have hb := HQ.out ms[j] (List.getElem_mem hjl)
            unfold maxLen at hb
            have HN : Hid (ms[j].key.length ≤ 512 → ms[j].val.length ≤ 512 → ∀ i (h : i < ms.length), i < j + 1 → ms[i].key.length ≤ 512 ∧ ms[i].val.length ≤ 512) := fun h1 h2 i hi hij => by
              rcases Nat.lt_or_eq_of_le (Nat.le_of_lt_succ hij) with e | e
              · exact HI.out i hi e
              · subst e; exact ⟨h1, h2⟩
            obtain ⟨⟨z, x, y⟩, hm⟩ : ∃ m, ms[j] = m := ⟨_, rfl⟩
            rw [hm] at c0 c1 HN hb
            clear hm
            simp only at hb
            obtain ⟨hb1, hb2⟩ := hb
            by_cases g1 : 512 < x.length
            · have gz1 : (512 : Int) < (x.length : Int) := by omega
              go_wp2_with fail
              go_ret
              exact ⟨.inl rfl, rfl⟩
            · have gz1 : ¬ (512 : Int) < (x.length : Int) := by omega
              by_cases g2 : 512 < y.length
              · have gz2 : (512 : Int) < (y.length : Int) := by omega
                go_wp2_with fail
                go_ret
                exact ⟨.inl rfl, rfl⟩
              · have gz2 : ¬ (512 : Int) < (y.length : Int) := by omega
                have HN2 := hid (HN.out (by simp; omega) (by simp; omega))
                go_wp2_with fail
                go_roundg (41 - (j + 1))
                case measure => omega
                case rel => exact ⟨j + 1, by simp, by omega, by omega, Nat.le_refl _, rfl, HN2⟩
          · have HM : Hid (ms.length ≤ 40 → ∀ x ∈ ms, x.key.length ≤ 512 ∧ x.val.length ≤ 512) := fun h40 x hx => by
              obtain ⟨i, hi, rfl⟩ := List.getElem_of_mem hx
              exact HI.out i hi (by omega)
            have hstop : ¬ (j : Int) < (ms.length : Int) ∨ ((j : Int) < (ms.length : Int) ∧ ¬ (j : Int) < 41) := by omega
            by_cases g1 : 30 < ks.length
            · have gz1 : (30 : Int) < (ks.length : Int) := by omega
              rcases hstop with z1 | ⟨z1, z2⟩
              · go_wp2_with fail
                go_ret
                exact ⟨.inl rfl, rfl⟩
              · go_wp2_with fail
                go_ret
                exact ⟨.inl rfl, rfl⟩
            · have gz1 : ¬ (30 : Int) < (ks.length : Int) := by omega
              by_cases g2 : 30 < ps.length
              · have gz2 : (30 : Int) < (ps.length : Int) := by omega
                rcases hstop with z1 | ⟨z1, z2⟩
                · go_wp2_with fail
                  go_ret
                  exact ⟨.inl rfl, rfl⟩
                · go_wp2_with fail
                  go_ret
                  exact ⟨.inl rfl, rfl⟩
              · have gz2 : ¬ (30 : Int) < (ps.length : Int) := by omega
                by_cases g3 : 40 < ms.length
                · have gz3 : (40 : Int) < (ms.length : Int) := by omega
                  rcases hstop with z1 | ⟨z1, z2⟩
                  · go_wp2_with fail
                    go_ret
                    exact ⟨.inl rfl, rfl⟩
                  · go_wp2_with fail
                    go_ret
                    exact ⟨.inl rfl, rfl⟩
                · have gz3 : ¬ (40 : Int) < (ms.length : Int) := by omega
                  have z1 : ¬ (j : Int) < (ms.length : Int) := by omega
                  clear hstop
                  go_wp2_with fail
                  go_ret
                  exact ⟨.inr ⟨rfl, by omega, by omega, by omega, HP.out (by omega), HM.out (by omega)⟩, rfl⟩

theorem buffN_at (p : Nat) (v : Value) (w : World) (h : w.cell? ⟨p, 2, none⟩ = some v) (h0 : ∃ v0, w.cell? ⟨p, 0, none⟩ = some v0) : Calls Tryz.prog 32 #[.pointer (some ⟨p, 0, none⟩)] w fun e w' => e = .returned v ∧ w = w' := by
  obtain ⟨v0, h0⟩ := h0
  go_enter Tryz.func32, Tryz.ntmps32
  go_wp2
  go_ret
  exact ⟨rfl, rfl⟩
def awM : List Mg := [⟨2, [97], []⟩, ⟨2, [122], []⟩]
def awN : Nd := ⟨[5, 6], [[109]], awM⟩
def awO : Nd := ⟨[5, 6], [[109]], [⟨2, [97], []⟩]⟩
def awP : Nd := ⟨[7, 8, 6], [[99], [109]], awM⟩
theorem aw_is : awM.all Mg.is = true := by decide
theorem aw_puts : putsM awM [] = awM := (sameM_iff _ _).1 (by decide)
theorem aw_good : goodN [5, 6] [[109]] = true := by decide
theorem aw_good2 : goodN [7, 8, 6] [[99], [109]] = true := by decide
theorem aw_ok : NdOk awN := ⟨aw_good, List.all_eq_true.1 aw_is, by simp [awN, awM, RisingM]; decide, by simp [awN], by simp [awN, awM]⟩
theorem aw_take : takeM (rangeN ⟨[], []⟩ [[109]] 1) awM = [⟨2, [122], []⟩] := (sameM_iff _ _).1 (by decide)
theorem aw_drop : dropM (rangeN ⟨[], []⟩ [[109]] 1) awM = [⟨2, [97], []⟩] := (sameM_iff _ _).1 (by decide)
theorem aw_kid : kidOf [[109]] [109] = 1 := by decide
theorem aw_kid2 : kidOf [[99], [109]] [100] = 1 := by decide
theorem ints2_new (w : World) (x y : Int) : RowAt (w.alloc (.cells #[.int .i64 x, .int .i64 y] 3)) noF (some ⟨w.heap.size, 0, none⟩) (intsOf [x, y]) := by
  refine .inr ⟨w.heap.size, 0, rfl, fun h => h, fun j hj => ?_⟩
  rw [cell_of_block (block_alloc_new w _)]
  simp [intsOf] at hj
  match j, hj with
  | 0, _ => rfl
  | 1, _ => rfl
theorem text1_new (w : World) (x : List UInt8) : RowAt (w.alloc (.cells #[.string (str x)] 9)) noF (some ⟨w.heap.size, 0, none⟩) (texts [x]) := by
  refine .inr ⟨w.heap.size, 0, rfl, fun h => h, fun j hj => ?_⟩
  obtain rfl : j = 0 := by simp [texts] at hj; omega
  rw [cell_of_block (block_alloc_new w _)]
  rfl
theorem ms2_new (w : World) (a b : Mg) : MsgsAt (w.alloc (.cells #[.int .i64 a.kind, .string (str a.key), .string (str a.val), .int .i64 b.kind, .string (str b.key), .string (str b.val)] 76)) noF (some ⟨w.heap.size, 0, none⟩) [a, b] := by
  refine .inr ⟨w.heap.size, 0, rfl, fun h => h, by rw [World.size_alloc]; omega, fun j hj => ?_⟩
  simp at hj
  rw [cell_of_block (block_alloc_new w _), cell_of_block (block_alloc_new w _), cell_of_block (block_alloc_new w _)]
  match j, hj with
  | 0, _ => exact ⟨rfl, rfl, rfl⟩
  | 1, _ => exact ⟨rfl, rfl, rfl⟩
theorem pts2_new (w : World) (k1 : List UInt8) (z1 : Int) (k2 : List UInt8) (z2 : Int) : PtsAt (w.alloc (.cells #[.string (str k1), .int .i64 z1, .string (str k2), .int .i64 z2] 55)) (some ⟨w.heap.size, 0, none⟩) [(k1, z1), (k2, z2)] := by
  refine .inr ⟨w.heap.size, 0, rfl, by rw [World.size_alloc]; omega, fun j hj => ?_⟩
  simp at hj
  rw [cell_of_block (block_alloc_new w _), cell_of_block (block_alloc_new w _)]
  match j, hj with
  | 0, _ => exact ⟨rfl, rfl⟩
  | 1, _ => exact ⟨rfl, rfl⟩
set_option maxHeartbeats 4000000 in
theorem awakeN_any (w : World) : Calls Tryz.prog 6 #[] w fun e w' => e = .returned (.bool true) ∧ Step noF w w' := by
  have hn0 := nil_str
  have i1 : ∀ w, Calls Tryz.prog 34 #[.string ⟨#[97]⟩] w fun e w' => e = .returned (.agg #[.int .i64 2, .string ⟨#[97]⟩, .string ⟨#[]⟩]) ∧ Step noF w w' := fun w => ofDel_any [97] w
  have i2 : ∀ w, Calls Tryz.prog 34 #[.string ⟨#[122]⟩] w fun e w' => e = .returned (.agg #[.int .i64 2, .string ⟨#[122]⟩, .string ⟨#[]⟩]) ∧ Step noF w w' := fun w => ofDel_any [122] w
  go_enter Tryz.func6, Tryz.ntmps6
  go_wp2_with fail
  refine (i1 _).mono ?_
  rintro e w1 ⟨rfl, s1⟩
  have r0 := ints2_new w 5 6
  have r1 := text1_new (w.alloc (.cells #[.int .i64 5, .int .i64 6] 3)) [109]
  rw [World.size_alloc] at r1
  have R0 := hid (rowAt_step r0 (((Step.refl noF _).alloc _).trans s1) (fun _ _ h => h))
  have R1 := hid (rowAt_step r1 s1 (fun _ _ h => h))
  have S1 : Hid (Step noF w w1) := (((Step.refl noF w).alloc _).alloc _).trans s1
  clear r0 r1 s1
  go_wp2_with fail
  refine (i2 _).mono ?_
  rintro e w2 ⟨rfl, s2⟩
  have st2 : Step noF w2 (w2.alloc (.cells #[.int .i64 2, .string ⟨#[97]⟩, .string ⟨#[]⟩, .int .i64 2, .string ⟨#[122]⟩, .string ⟨#[]⟩] 76)) := (Step.refl noF w2).alloc _
  have cO := ofN_any [5, 6] [[109]] awM (by simp) (by simp) (by simp [awM]) (fun m hm => by simp [awM] at hm; rcases hm with rfl | rfl <;> exact Nat.zero_le _) (some ⟨w.heap.size, 0, none⟩) (some ⟨w.heap.size + 1, 0, none⟩) (some ⟨w2.heap.size, 0, none⟩) 2 1 2 (fun e => by cases e) (fun e => by cases e) (fun e => by cases e) _ (rowAt_step R0.out (s2.trans st2) (fun _ _ h => h)) (rowAt_step R1.out (s2.trans st2) (fun _ _ h => h)) (ms2_new w2 ⟨2, [97], []⟩ ⟨2, [122], []⟩)
  have S2 := hid ((S1.out.trans s2).trans st2)
  clear s2 st2 i1 i2
  go_wp2_with fail
  refine cO.mono ?_
  rintro e w3 ⟨ho, s3⟩
  have S3 := hid (S2.out.trans s3)
  clear s3 cO R0 R1
  rcases ho with ⟨h1, _⟩ | ⟨_, p, rfl, hi⟩
  · rw [aw_is, aw_good] at h1; cases h1
  rw [aw_puts] at hi
  have I3 : Hid (InnerAt w3 p awN) := hi
  clear hi
  go_wp2_with fail
  have cF := flushN_any p awN aw_ok 1 (by simp [awN]) w3 I3.out
  refine cF.mono ?_
  rintro e w4 ⟨p3, a4, c4, rfl, _, I4, M4, s4⟩
  have S4 := hid (S3.out.trans s4.out)
  have J4 := hid (I3.out.step s4.out)
  have e4 : takeM (rangeN ⟨[], []⟩ awN.pivs 1) awN.ms = [⟨2, [122], []⟩] := aw_take
  have e5 : dropM (rangeN ⟨[], []⟩ awN.pivs 1) awN.ms = [⟨2, [97], []⟩] := aw_drop
  rw [e4] at M4 ⊢
  rw [e5] at I4
  have I4' : Hid (InnerAt w4 p3 awO) := I4.out
  clear cF s4 I4 e4 e5
  obtain ⟨g4, o4, rfl, u0, u1, u2⟩ := M4.out.at 0 (by simp)
  simp only [List.getElem_cons_zero, Nat.zero_mul, Nat.add_zero] at u0 u1 u2
  have U0 := hid u0
  have U1 := hid u1
  have U2 := hid u2
  clear u0 u1 u2
  go_wp2_with fail
  have cS := swapN_any p [5, 6] [[109]] awM (by simp) (by simp) 0 (by simp) [([], 7), ([99], 8)] 2 rfl (by omega) (by omega) (some ⟨w4.heap.size, 0, none⟩) 2 (by omega) _ (J4.out.step ((Step.refl noF w4).alloc _)) (pts2_new w4 [] 7 [99] 8)
  refine cS.mono ?_
  rintro e w5 ⟨hm, s5⟩
  have t5 : Step noF w4 w5 := ((Step.refl noF w4).alloc _).trans s5
  rcases hm with ⟨h1, _⟩ | ⟨_, p6, rfl, hi⟩
  · exact absurd (show goodN (swapKids [5, 6] 0 [7, 8]) (swapPivs [[109]] 0 [[], [99]]) = true from aw_good2) (by rw [show goodN (swapKids [5, 6] 0 [7, 8]) (swapPivs [[109]] 0 [[], [99]]) = false from h1]; simp)
  have I6 : Hid (InnerAt w5 p6 awP) := hi
  have S5 := hid (S4.out.trans t5)
  have T5 := hid t5
  clear cS s5 t5 hi
  go_wp2_with fail
  have cU := fuseN_last p awN 1 (by simp [awN]) (by simp [awN]) 9 w5 (J4.out.step T5.out)
  refine cU.mono ?_
  rintro e w6 ⟨rfl, rfl⟩
  have J5 := hid (J4.out.step T5.out)
  have K5 := hid (I4'.out.step T5.out)
  obtain ⟨ka, pa, kc, pc, q3, x0, x1, x2, _, _, hb⟩ := K5.out.cell
  have HB := hid hb
  have X0 := hid x0
  have X2 := hid x2
  have v0 := T5.out.after U0.out
  have v1 := T5.out.after U1.out
  have v2 := T5.out.after U2.out
  clear cU hb x0 x1 x2 U0 U1 U2 J4 I4' I3 M4
  go_upto_region 7 with fail
  change Code.wp _ (Code.region 7 ((Tryz.f6.body.bind (regionOps 7)).getD #[]) true) _ _ _
  refine iaw_go p p3 p6 q3 g4 o4 c4 w5 v0 v1 v2 (fun w' hs => ofDel_any [122] w') (fun w' hs => ?_) (fun w' hs => ?_) (fun w' hs => ?_) (fun w' hs => ?_) (fun w' hs => ?_) (fun w' hs => ?_) _ rfl rfl rfl rfl rfl rfl rfl rfl ?_
  · refine (buffN_at p3 _ w' (hs.after X2.out) ⟨_, hs.after X0.out⟩).mono ?_
    rintro e w'' ⟨rfl, rfl⟩
    exact ⟨rfl, Step.refl _ _⟩
  · refine (lenB_any q3 awO.ms w' (HB.out.step hs)).mono ?_
    rintro e w'' ⟨rfl, rfl⟩
    exact ⟨rfl, Step.refl _ _⟩
  · refine (lenN_any p6 awP w' (I6.out.step hs)).mono ?_
    rintro e w'' ⟨rfl, rfl⟩
    exact ⟨rfl, Step.refl _ _⟩
  · refine (kidOfN_any p6 awP aw_good2 (by simp [awP]) [100] w' (I6.out.step hs)).mono ?_
    rintro e w'' ⟨rfl, s⟩
    exact ⟨by rw [show kidOf awP.pivs [100] = 1 from aw_kid2]; rfl, s⟩
  · refine (kidOfN_any p awN aw_good (by simp [awN]) [109] w' (J5.out.step hs)).mono ?_
    rintro e w'' ⟨rfl, s⟩
    exact ⟨by rw [show kidOf awN.pivs [109] = 1 from aw_kid]; rfl, s⟩
  · refine (lenN_any p awN w' (J5.out.step hs)).mono ?_
    rintro e w'' ⟨rfl, rfl⟩
    exact ⟨rfl, Step.refl _ _⟩
  · intro ff w7 s7 e0
    have e0' : ff 0 = .bool true := e0
    have S7 := hid (S5.out.trans s7)
    clear s7 e0
    rw [iaw_lit, e0']
    go_wp2_with fail
    go_ret
    exact ⟨rfl, S7.out⟩
end Go.Proofs.YtgmgoaencaldmaaGreat
namespace Go.Proofs.YtgmgoaencaldmaaGreat
open Go.RowKit Go.Sort
set_option linter.unusedVariables false
set_option linter.unusedSimpArgs false
set_option maxRecDepth 20000

theorem pick_kid (z : Int) (n : Nat) (hn : 0 < n) (hn2 : n ≤ 1000) : ∃ i : Nat, i < n ∧ (IntKind.u64.wrap z).tmod (n : Int) = (i : Int) := by
  have h0 : 0 ≤ IntKind.u64.wrap z := by rw [IntKind.wrap_u64]; omega
  rw [Int.tmod_eq_emod_of_nonneg h0]
  refine ⟨((IntKind.u64.wrap z) % (n : Int)).toNat, ?_, ?_⟩
  · have h1 := Int.emod_lt_of_pos (IntKind.u64.wrap z) (show (0 : Int) < (n : Int) by omega)
    have h2 := Int.emod_nonneg (IntKind.u64.wrap z) (show (n : Int) ≠ 0 by omega)
    omega
  · have h2 := Int.emod_nonneg (IntKind.u64.wrap z) (show (n : Int) ≠ 0 by omega)
    omega
theorem ndOk_of {ks : List Int} {ps : List (List UInt8)} {ms : List Mg} (h : (ms.all Mg.is && goodN ks ps) = true) (hk : ks.length ≤ 1000) (hm : ms.length ≤ 1000) : NdOk ⟨ks, ps, putsM ms []⟩ := by
  rw [Bool.and_eq_true] at h
  have hG : GoodM ms := List.all_eq_true.1 h.1
  have hp := putsM_all ms hG [] (fun _ h => by simp at h) List.Pairwise.nil
  have hl := putsM_len ms []
  refine ⟨h.2, hp.1, hp.2, hk, ?_⟩
  show (putsM ms []).length ≤ 100000
  simp at hl
  omega

end Go.Proofs.YtgmgoaencaldmaaGreat
