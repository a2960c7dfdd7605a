/-
  The region that draws in grangerlaw10.awake (number 7), operation by operation. Written by draw4.py.
  awake of the laws of layer 10: true.
  heavy and wide: what the laws of layer 10 ask first.
-/
import Derived.Test.YtipgbpopcamllaaGreatPart
import Derived.Test.YtipgbpopcamllaaGreatKeyRow
import Derived.Test.YtipgbpopcamllaaGreatKeyA
import Derived.Test.YtipgbpopcamllaaGreatBfC
import Derived.Test.YtipgbpopcamllaaGreatBfK
import Derived.Test.YtipgbpopcamllaaGreatMsgA
import Derived.Test.YtipgbpopcamllaaGreatBfA
namespace Go.Proofs.YtipgbpopcamllaaGreat
open Go.RowKit
set_option linter.unusedVariables false
set_option linter.unusedSimpArgs false

/-- A slice of one text. -/
def isTxB : SP noF := ⟨fun w v => ∃ a c, v = .slice a 1 c ∧ RowAt w noF a (texts [[109]]), fun _ _ _ hs ⟨a, c, h1, h2⟩ => ⟨a, c, h1, h2.step hs⟩⟩
/-- A slice of one message. -/
def isMsB : SP noF := ⟨fun w v => ∃ (a : Option Addr) (c : Nat), v = .slice a 1 c ∧ True, fun _ _ _ hs ⟨a, c, h1, h2⟩ => ⟨a, c, h1, h2⟩⟩
theorem tx_newB (w : World) (t : TypeId) (x : List UInt8) : RowAt (w.alloc (.cells #[.string (str x)] t)) noF (some ⟨w.heap.size, 0, none⟩) (texts [x]) := by
  refine .inr ⟨w.heap.size, 0, rfl, fun h => h, fun i hi => ?_⟩
  obtain rfl : i = 0 := by simp [texts] at hi; omega
  rw [cell_of_block (block_alloc_new w _)]
  rfl

def bfawDl : List (Option Nat) := [some 37, some 38, some 39, some 40, some 41, some 42, some 43, some 44, some 45, some 46, some 47, some 48, some 49, some 50, some 51, some 52, some 53, some 54, some 55, some 56, some 57, some 58, some 59, some 60, some 61, some 62, some 63, some 64, some 65, some 66, some 67, some 68, some 69, some 70, some 71, some 72, some 73, some 74, some 75, some 76, some 77, some 78, some 79, some 80, some 81, some 82, some 83, some 84, some 85, some 86, some 0]
theorem bfaw_dl : ((Tryz.f5.body.bind (regionOps 7)).getD #[]).toList.map (·.dst) = bfawDl := by kernel_rfl
theorem bfaw_back : backB ((Tryz.f5.body.bind (regionOps 7)).getD #[]) = true := by kernel_rfl
theorem bfaw_size : ((Tryz.f5.body.bind (regionOps 7)).getD #[]).size = 51 := by kernel_rfl
theorem bfaw_nd : bfawDl.Pairwise (fun x y => x = none ∨ x ≠ y) := by decide
theorem bfaw_lt (d : Nat) (h : some d ∈ bfawDl) : d < 87 := by
  have hh : bfawDl.all (fun o => o.all (fun d => decide (d < 87))) = true := by decide
  simpa using List.all_eq_true.1 hh _ h
def bfawSp (p g3 gl : Nat) : List (SP noF) := [(is (.pointer (some ⟨p, 0, none⟩))), (is (.int .i64 2)), (is (.bool true)), (is (.bool true)), (is (.pointer (some ⟨p, 0, none⟩))), (is (.int .i64 9)), (is (.bool true)), (is (.bool true)), (is (.bool true)), (is (.agg #[.int .i64 2, .string (str [120]), .string (str [])])), (is (.agg #[.int .i64 2, .string (str [120]), .string (str [])])), (is (.bool true)), (is (.bool true)), (is (.bool true)), (is (.bool true)), (is (.bool true)), (is (.bool true)), (is (.slice (some ⟨gl, 0, none⟩) 2 2)), (is (.int .i64 2)), (is (.bool true)), (is (.bool true)), (is (.bool true)), (is (.slice (some ⟨gl, 0, none⟩) 2 2)), (is (.pointer (some ⟨gl, 0, none⟩))), (is (.int .i64 5)), (is (.bool true)), (is (.bool true)), (is (.bool true)), (is (.slice (some ⟨gl, 0, none⟩) 2 2)), (is (.pointer (some ⟨gl, 1, none⟩))), (is (.int .i64 4)), (is (.bool true)), (is (.bool true)), (is (.bool true)), (is (.pointer (some ⟨p, 0, none⟩))), (isTxB), (is (.int .i64 0)), (is (.bool true)), (is (.bool true)), (is (.bool true)), (is (.int .i64 1)), (is (.bool true)), (is (.bool true)), (is (.bool true)), (is (.pointer (some ⟨p, 0, none⟩))), (is (.agg #[.string (str []), .string (str [98])])), (isMsB), (is (.int .i64 1)), (is (.bool true)), (is (.bool true)), (is (.bool true))]
theorem bfawOp0 : opIs ((Tryz.f5.body.bind (regionOps 7)).getD #[]) 0 (some 37) (Op.move (Operand.tmp 1)) (none) := opIs_of (by kernel_rfl)
theorem bfawOp1 : opIs ((Tryz.f5.body.bind (regionOps 7)).getD #[]) 1 (some 38) (Op.call { callee := Callee.value (Operand.func 17), args := #[Operand.tmp 37], argTypes := #[27] }) (none) := opIs_of (by kernel_rfl)
theorem bfawOp2 : opIs ((Tryz.f5.body.bind (regionOps 7)).getD #[]) 2 (some 39) (Op.binOp BinOp.eql 3 (Operand.tmp 38) (Operand.const (Value.int IntKind.i64 2)) 3) (none) := opIs_of (by kernel_rfl)
theorem bfawOp3 : opIs ((Tryz.f5.body.bind (regionOps 7)).getD #[]) 3 (some 40) (Op.move (Operand.tmp 39)) (none) := opIs_of (by kernel_rfl)
theorem bfawOp4 : opIs ((Tryz.f5.body.bind (regionOps 7)).getD #[]) 4 (some 41) (Op.move (Operand.tmp 1)) (some (3, true)) := opIs_of (by kernel_rfl)
theorem bfawOp5 : opIs ((Tryz.f5.body.bind (regionOps 7)).getD #[]) 5 (some 42) (Op.call { callee := Callee.value (Operand.func 18), args := #[Operand.tmp 41], argTypes := #[27] }) (some (3, true)) := opIs_of (by kernel_rfl)
theorem bfawOp6 : opIs ((Tryz.f5.body.bind (regionOps 7)).getD #[]) 6 (some 43) (Op.binOp BinOp.eql 3 (Operand.tmp 42) (Operand.const (Value.int IntKind.i64 9)) 3) (some (3, true)) := opIs_of (by kernel_rfl)
theorem bfawOp7 : opIs ((Tryz.f5.body.bind (regionOps 7)).getD #[]) 7 (some 44) (Op.pick (Operand.tmp 40) (Operand.tmp 43) (Operand.const (Value.bool false))) (none) := opIs_of (by kernel_rfl)
theorem bfawOp8 : opIs ((Tryz.f5.body.bind (regionOps 7)).getD #[]) 8 (some 45) (Op.move (Operand.tmp 44)) (none) := opIs_of (by kernel_rfl)
theorem bfawOp9 : opIs ((Tryz.f5.body.bind (regionOps 7)).getD #[]) 9 (some 46) (Op.load 40 (Operand.tmp 3)) (some (8, true)) := opIs_of (by kernel_rfl)
theorem bfawOp10 : opIs ((Tryz.f5.body.bind (regionOps 7)).getD #[]) 10 (some 47) (Op.call { callee := Callee.value (Operand.func 28), args := #[Operand.const (Value.string { data := #[120] })], argTypes := #[9] }) (some (8, true)) := opIs_of (by kernel_rfl)
theorem bfawOp11 : opIs ((Tryz.f5.body.bind (regionOps 7)).getD #[]) 11 (some 48) (Op.binOp BinOp.eql 40 (Operand.tmp 46) (Operand.tmp 47) 40) (some (8, true)) := opIs_of (by kernel_rfl)
theorem bfawOp12 : opIs ((Tryz.f5.body.bind (regionOps 7)).getD #[]) 12 (some 49) (Op.pick (Operand.tmp 45) (Operand.tmp 48) (Operand.const (Value.bool false))) (none) := opIs_of (by kernel_rfl)
theorem bfawOp13 : opIs ((Tryz.f5.body.bind (regionOps 7)).getD #[]) 13 (some 50) (Op.move (Operand.tmp 49)) (none) := opIs_of (by kernel_rfl)
theorem bfawOp14 : opIs ((Tryz.f5.body.bind (regionOps 7)).getD #[]) 14 (some 51) (Op.move (Operand.tmp 4)) (some (13, true)) := opIs_of (by kernel_rfl)
theorem bfawOp15 : opIs ((Tryz.f5.body.bind (regionOps 7)).getD #[]) 15 (some 52) (Op.pick (Operand.tmp 50) (Operand.tmp 51) (Operand.const (Value.bool false))) (none) := opIs_of (by kernel_rfl)
theorem bfawOp16 : opIs ((Tryz.f5.body.bind (regionOps 7)).getD #[]) 16 (some 53) (Op.move (Operand.tmp 52)) (none) := opIs_of (by kernel_rfl)
theorem bfawOp17 : opIs ((Tryz.f5.body.bind (regionOps 7)).getD #[]) 17 (some 54) (Op.move (Operand.tmp 5)) (some (16, true)) := opIs_of (by kernel_rfl)
theorem bfawOp18 : opIs ((Tryz.f5.body.bind (regionOps 7)).getD #[]) 18 (some 55) (Op.call { callee := Callee.builtin Builtin.len, args := #[Operand.tmp 54], argTypes := #[34] }) (some (16, true)) := opIs_of (by kernel_rfl)
theorem bfawOp19 : opIs ((Tryz.f5.body.bind (regionOps 7)).getD #[]) 19 (some 56) (Op.binOp BinOp.eql 3 (Operand.tmp 55) (Operand.const (Value.int IntKind.i64 2)) 3) (some (16, true)) := opIs_of (by kernel_rfl)
theorem bfawOp20 : opIs ((Tryz.f5.body.bind (regionOps 7)).getD #[]) 20 (some 57) (Op.pick (Operand.tmp 53) (Operand.tmp 56) (Operand.const (Value.bool false))) (none) := opIs_of (by kernel_rfl)
theorem bfawOp21 : opIs ((Tryz.f5.body.bind (regionOps 7)).getD #[]) 21 (some 58) (Op.move (Operand.tmp 57)) (none) := opIs_of (by kernel_rfl)
theorem bfawOp22 : opIs ((Tryz.f5.body.bind (regionOps 7)).getD #[]) 22 (some 59) (Op.move (Operand.tmp 5)) (some (21, true)) := opIs_of (by kernel_rfl)
theorem bfawOp23 : opIs ((Tryz.f5.body.bind (regionOps 7)).getD #[]) 23 (some 60) (Op.indexAddr 34 (Operand.tmp 59) (Operand.const (Value.int IntKind.i64 0))) (some (21, true)) := opIs_of (by kernel_rfl)
theorem bfawOp24 : opIs ((Tryz.f5.body.bind (regionOps 7)).getD #[]) 24 (some 61) (Op.load 3 (Operand.tmp 60)) (some (21, true)) := opIs_of (by kernel_rfl)
theorem bfawOp25 : opIs ((Tryz.f5.body.bind (regionOps 7)).getD #[]) 25 (some 62) (Op.binOp BinOp.eql 3 (Operand.tmp 61) (Operand.const (Value.int IntKind.i64 5)) 3) (some (21, true)) := opIs_of (by kernel_rfl)
theorem bfawOp26 : opIs ((Tryz.f5.body.bind (regionOps 7)).getD #[]) 26 (some 63) (Op.pick (Operand.tmp 58) (Operand.tmp 62) (Operand.const (Value.bool false))) (none) := opIs_of (by kernel_rfl)
theorem bfawOp27 : opIs ((Tryz.f5.body.bind (regionOps 7)).getD #[]) 27 (some 64) (Op.move (Operand.tmp 63)) (none) := opIs_of (by kernel_rfl)
theorem bfawOp28 : opIs ((Tryz.f5.body.bind (regionOps 7)).getD #[]) 28 (some 65) (Op.move (Operand.tmp 5)) (some (27, true)) := opIs_of (by kernel_rfl)
theorem bfawOp29 : opIs ((Tryz.f5.body.bind (regionOps 7)).getD #[]) 29 (some 66) (Op.indexAddr 34 (Operand.tmp 65) (Operand.const (Value.int IntKind.i64 1))) (some (27, true)) := opIs_of (by kernel_rfl)
theorem bfawOp30 : opIs ((Tryz.f5.body.bind (regionOps 7)).getD #[]) 30 (some 67) (Op.load 3 (Operand.tmp 66)) (some (27, true)) := opIs_of (by kernel_rfl)
theorem bfawOp31 : opIs ((Tryz.f5.body.bind (regionOps 7)).getD #[]) 31 (some 68) (Op.binOp BinOp.eql 3 (Operand.tmp 67) (Operand.const (Value.int IntKind.i64 4)) 3) (some (27, true)) := opIs_of (by kernel_rfl)
theorem bfawOp32 : opIs ((Tryz.f5.body.bind (regionOps 7)).getD #[]) 32 (some 69) (Op.pick (Operand.tmp 64) (Operand.tmp 68) (Operand.const (Value.bool false))) (none) := opIs_of (by kernel_rfl)
theorem bfawOp33 : opIs ((Tryz.f5.body.bind (regionOps 7)).getD #[]) 33 (some 70) (Op.move (Operand.tmp 69)) (none) := opIs_of (by kernel_rfl)
theorem bfawOp34 : opIs ((Tryz.f5.body.bind (regionOps 7)).getD #[]) 34 (some 71) (Op.move (Operand.tmp 1)) (some (33, true)) := opIs_of (by kernel_rfl)
theorem bfawOp35 : opIs ((Tryz.f5.body.bind (regionOps 7)).getD #[]) 35 (some 72) (Op.buildSlice 23 1 #[(0, Operand.const (Value.string { data := #[109] }))]) (some (33, true)) := opIs_of (by kernel_rfl)
theorem bfawOp36 : opIs ((Tryz.f5.body.bind (regionOps 7)).getD #[]) 36 (some 73) (Op.call { callee := Callee.value (Operand.func 13), args := #[Operand.tmp 71, Operand.tmp 72], argTypes := #[27, 23] }) (some (33, true)) := opIs_of (by kernel_rfl)
theorem bfawOp37 : opIs ((Tryz.f5.body.bind (regionOps 7)).getD #[]) 37 (some 74) (Op.binOp BinOp.eql 3 (Operand.tmp 73) (Operand.const (Value.int IntKind.i64 0)) 3) (some (33, true)) := opIs_of (by kernel_rfl)
theorem bfawOp38 : opIs ((Tryz.f5.body.bind (regionOps 7)).getD #[]) 38 (some 75) (Op.pick (Operand.tmp 70) (Operand.tmp 74) (Operand.const (Value.bool false))) (none) := opIs_of (by kernel_rfl)
theorem bfawOp39 : opIs ((Tryz.f5.body.bind (regionOps 7)).getD #[]) 39 (some 76) (Op.move (Operand.tmp 75)) (none) := opIs_of (by kernel_rfl)
theorem bfawOp40 : opIs ((Tryz.f5.body.bind (regionOps 7)).getD #[]) 40 (some 77) (Op.move (Operand.tmp 7)) (some (39, true)) := opIs_of (by kernel_rfl)
theorem bfawOp41 : opIs ((Tryz.f5.body.bind (regionOps 7)).getD #[]) 41 (some 78) (Op.binOp BinOp.eql 28 (Operand.tmp 77) (Operand.const (Value.int IntKind.i64 1)) 28) (some (39, true)) := opIs_of (by kernel_rfl)
theorem bfawOp42 : opIs ((Tryz.f5.body.bind (regionOps 7)).getD #[]) 42 (some 79) (Op.pick (Operand.tmp 76) (Operand.tmp 78) (Operand.const (Value.bool false))) (none) := opIs_of (by kernel_rfl)
theorem bfawOp43 : opIs ((Tryz.f5.body.bind (regionOps 7)).getD #[]) 43 (some 80) (Op.move (Operand.tmp 79)) (none) := opIs_of (by kernel_rfl)
theorem bfawOp44 : opIs ((Tryz.f5.body.bind (regionOps 7)).getD #[]) 44 (some 81) (Op.move (Operand.tmp 1)) (some (43, true)) := opIs_of (by kernel_rfl)
theorem bfawOp45 : opIs ((Tryz.f5.body.bind (regionOps 7)).getD #[]) 45 (some 82) (Op.build 47 #[(1, Operand.const (Value.string { data := #[98] }))]) (some (43, true)) := opIs_of (by kernel_rfl)
theorem bfawOp46 : opIs ((Tryz.f5.body.bind (regionOps 7)).getD #[]) 46 (some 83) (Op.call { callee := Callee.value (Operand.func 20), args := #[Operand.tmp 81, Operand.tmp 82], argTypes := #[27, 47] }) (some (43, true)) := opIs_of (by kernel_rfl)
theorem bfawOp47 : opIs ((Tryz.f5.body.bind (regionOps 7)).getD #[]) 47 (some 84) (Op.call { callee := Callee.builtin Builtin.len, args := #[Operand.tmp 83], argTypes := #[22] }) (some (43, true)) := opIs_of (by kernel_rfl)
theorem bfawOp48 : opIs ((Tryz.f5.body.bind (regionOps 7)).getD #[]) 48 (some 85) (Op.binOp BinOp.eql 3 (Operand.tmp 84) (Operand.const (Value.int IntKind.i64 1)) 3) (some (43, true)) := opIs_of (by kernel_rfl)
theorem bfawOp49 : opIs ((Tryz.f5.body.bind (regionOps 7)).getD #[]) 49 (some 86) (Op.pick (Operand.tmp 80) (Operand.tmp 85) (Operand.const (Value.bool false))) (none) := opIs_of (by kernel_rfl)
theorem bfawOp50 : opIs ((Tryz.f5.body.bind (regionOps 7)).getD #[]) 50 (some 0) (Op.assign (Operand.tmp 86)) (none) := opIs_of (by kernel_rfl)

theorem bfawStep0 (p g3 gl : Nat)  {Q : Exit → Act → World → Prop} (a : Act) (w : World) (v0 : w.cell? ⟨g3, 0, none⟩ = some (.int .i64 2)) (v1 : w.cell? ⟨g3, 1, none⟩ = some (.string (str [120]))) (v2 : w.cell? ⟨g3, 2, none⟩ = some (.string (str []))) (u0 : w.cell? ⟨gl, 0, none⟩ = some (.int .i64 5)) (u1 : w.cell? ⟨gl, 1, none⟩ = some (.int .i64 4)) (k38 : Calls Tryz.prog 17 #[.pointer (some ⟨p, 0, none⟩)] w fun e w' => e = .returned (.int .i64 2) ∧ Step noF w w') (k42 : Calls Tryz.prog 18 #[.pointer (some ⟨p, 0, none⟩)] w fun e w' => e = .returned (.int .i64 9) ∧ Step noF w w') (k47 : Calls Tryz.prog 28 #[.string (str [120])] w fun e w' => e = .returned (.agg #[.int .i64 2, .string (str [120]), .string (str [])]) ∧ Step noF w w') (k73 : ∀ a c, RowAt w noF a (texts [[109]]) → Calls Tryz.prog 13 #[.pointer (some ⟨p, 0, none⟩), .slice a 1 c] w fun e w' => e = .returned (.int .i64 0) ∧ Step noF w w') (k83 : Calls Tryz.prog 20 #[.pointer (some ⟨p, 0, none⟩), .agg #[.string (str []), .string (str [98])]] w fun e w' => ∃ v, e = .returned v ∧ Step noF w w' ∧ isMsB.1 w' v) (h1 : a.tmps.getD 1 undef = .pointer (some ⟨p, 0, none⟩)) (h3 : a.tmps.getD 3 undef = .pointer (some ⟨g3, 0, none⟩)) (h4 : a.tmps.getD 4 undef = .bool true) (h5 : a.tmps.getD 5 undef = .slice (some ⟨gl, 0, none⟩) 2 2) (h7 : a.tmps.getD 7 undef = .int .i64 1) (hat : ∀ jj ∈ deps ((Tryz.f5.body.bind (regionOps 7)).getD #[]) 0, At (bfawSp p g3 gl) bfawDl a w jj) :
    wpOp Tryz.prog ((Tryz.f5.body.bind (regionOps 7)).getD #[]) Q 0 (fun a' w' => ∃ o v, bfawDl[0]? = some o ∧ a' = a.put o v ∧ Step noF w w' ∧ ∀ pp, (bfawSp p g3 gl)[0]? = some pp → pp.1 w' (o.elim undef fun _ => v)) a w := by
  exact slot_runs (is (.pointer (some ⟨p, 0, none⟩))) bfawOp0 rfl rfl (wants_none a) (runs_move (show a.eval _ = _ from h1)) (Step.refl _ _) rfl

theorem bfawStep1 (p g3 gl : Nat)  {Q : Exit → Act → World → Prop} (a : Act) (w : World) (v0 : w.cell? ⟨g3, 0, none⟩ = some (.int .i64 2)) (v1 : w.cell? ⟨g3, 1, none⟩ = some (.string (str [120]))) (v2 : w.cell? ⟨g3, 2, none⟩ = some (.string (str []))) (u0 : w.cell? ⟨gl, 0, none⟩ = some (.int .i64 5)) (u1 : w.cell? ⟨gl, 1, none⟩ = some (.int .i64 4)) (k38 : Calls Tryz.prog 17 #[.pointer (some ⟨p, 0, none⟩)] w fun e w' => e = .returned (.int .i64 2) ∧ Step noF w w') (k42 : Calls Tryz.prog 18 #[.pointer (some ⟨p, 0, none⟩)] w fun e w' => e = .returned (.int .i64 9) ∧ Step noF w w') (k47 : Calls Tryz.prog 28 #[.string (str [120])] w fun e w' => e = .returned (.agg #[.int .i64 2, .string (str [120]), .string (str [])]) ∧ Step noF w w') (k73 : ∀ a c, RowAt w noF a (texts [[109]]) → Calls Tryz.prog 13 #[.pointer (some ⟨p, 0, none⟩), .slice a 1 c] w fun e w' => e = .returned (.int .i64 0) ∧ Step noF w w') (k83 : Calls Tryz.prog 20 #[.pointer (some ⟨p, 0, none⟩), .agg #[.string (str []), .string (str [98])]] w fun e w' => ∃ v, e = .returned v ∧ Step noF w w' ∧ isMsB.1 w' v) (h1 : a.tmps.getD 1 undef = .pointer (some ⟨p, 0, none⟩)) (h3 : a.tmps.getD 3 undef = .pointer (some ⟨g3, 0, none⟩)) (h4 : a.tmps.getD 4 undef = .bool true) (h5 : a.tmps.getD 5 undef = .slice (some ⟨gl, 0, none⟩) 2 2) (h7 : a.tmps.getD 7 undef = .int .i64 1) (hat : ∀ jj ∈ deps ((Tryz.f5.body.bind (regionOps 7)).getD #[]) 1, At (bfawSp p g3 gl) bfawDl a w jj) :
    wpOp Tryz.prog ((Tryz.f5.body.bind (regionOps 7)).getD #[]) Q 1 (fun a' w' => ∃ o v, bfawDl[1]? = some o ∧ a' = a.put o v ∧ Step noF w w' ∧ ∀ pp, (bfawSp p g3 gl)[1]? = some pp → pp.1 w' (o.elim undef fun _ => v)) a w := by
  have h37 : a.tmps.getD 37 undef = .pointer (some ⟨p, 0, none⟩) := dep hat 0 (by kernel_rfl) (is (.pointer (some ⟨p, 0, none⟩))) 37 rfl rfl
  refine slot_calls (is (.int .i64 2)) bfawOp1 rfl rfl (wants_none a) Tryz.func17 (by kernel_rfl) (by kernel_rfl) (by simp only [List.map_toArray, List.map_cons, List.map_nil, Act.eval, h37]; rfl) ?_
  exact Calls.mono (k38) (fun e w' hh => ⟨_, hh.1, hh.2, rfl⟩)

theorem bfawStep2 (p g3 gl : Nat)  {Q : Exit → Act → World → Prop} (a : Act) (w : World) (v0 : w.cell? ⟨g3, 0, none⟩ = some (.int .i64 2)) (v1 : w.cell? ⟨g3, 1, none⟩ = some (.string (str [120]))) (v2 : w.cell? ⟨g3, 2, none⟩ = some (.string (str []))) (u0 : w.cell? ⟨gl, 0, none⟩ = some (.int .i64 5)) (u1 : w.cell? ⟨gl, 1, none⟩ = some (.int .i64 4)) (k38 : Calls Tryz.prog 17 #[.pointer (some ⟨p, 0, none⟩)] w fun e w' => e = .returned (.int .i64 2) ∧ Step noF w w') (k42 : Calls Tryz.prog 18 #[.pointer (some ⟨p, 0, none⟩)] w fun e w' => e = .returned (.int .i64 9) ∧ Step noF w w') (k47 : Calls Tryz.prog 28 #[.string (str [120])] w fun e w' => e = .returned (.agg #[.int .i64 2, .string (str [120]), .string (str [])]) ∧ Step noF w w') (k73 : ∀ a c, RowAt w noF a (texts [[109]]) → Calls Tryz.prog 13 #[.pointer (some ⟨p, 0, none⟩), .slice a 1 c] w fun e w' => e = .returned (.int .i64 0) ∧ Step noF w w') (k83 : Calls Tryz.prog 20 #[.pointer (some ⟨p, 0, none⟩), .agg #[.string (str []), .string (str [98])]] w fun e w' => ∃ v, e = .returned v ∧ Step noF w w' ∧ isMsB.1 w' v) (h1 : a.tmps.getD 1 undef = .pointer (some ⟨p, 0, none⟩)) (h3 : a.tmps.getD 3 undef = .pointer (some ⟨g3, 0, none⟩)) (h4 : a.tmps.getD 4 undef = .bool true) (h5 : a.tmps.getD 5 undef = .slice (some ⟨gl, 0, none⟩) 2 2) (h7 : a.tmps.getD 7 undef = .int .i64 1) (hat : ∀ jj ∈ deps ((Tryz.f5.body.bind (regionOps 7)).getD #[]) 2, At (bfawSp p g3 gl) bfawDl a w jj) :
    wpOp Tryz.prog ((Tryz.f5.body.bind (regionOps 7)).getD #[]) Q 2 (fun a' w' => ∃ o v, bfawDl[2]? = some o ∧ a' = a.put o v ∧ Step noF w w' ∧ ∀ pp, (bfawSp p g3 gl)[2]? = some pp → pp.1 w' (o.elim undef fun _ => v)) a w := by
  have h38 : a.tmps.getD 38 undef = .int .i64 2 := dep hat 1 (by kernel_rfl) (is (.int .i64 2)) 38 rfl rfl
  refine slot_runs (is (.bool true)) bfawOp2 rfl rfl (wants_none a) (v := .bool true) (w' := w) ?_ (Step.refl _ _) rfl
  intro oo hoo
  simp only [execOp, hoo, Act.eval, Option.map_some, Option.map_none, h38]
  go_simp

theorem bfawStep3 (p g3 gl : Nat)  {Q : Exit → Act → World → Prop} (a : Act) (w : World) (v0 : w.cell? ⟨g3, 0, none⟩ = some (.int .i64 2)) (v1 : w.cell? ⟨g3, 1, none⟩ = some (.string (str [120]))) (v2 : w.cell? ⟨g3, 2, none⟩ = some (.string (str []))) (u0 : w.cell? ⟨gl, 0, none⟩ = some (.int .i64 5)) (u1 : w.cell? ⟨gl, 1, none⟩ = some (.int .i64 4)) (k38 : Calls Tryz.prog 17 #[.pointer (some ⟨p, 0, none⟩)] w fun e w' => e = .returned (.int .i64 2) ∧ Step noF w w') (k42 : Calls Tryz.prog 18 #[.pointer (some ⟨p, 0, none⟩)] w fun e w' => e = .returned (.int .i64 9) ∧ Step noF w w') (k47 : Calls Tryz.prog 28 #[.string (str [120])] w fun e w' => e = .returned (.agg #[.int .i64 2, .string (str [120]), .string (str [])]) ∧ Step noF w w') (k73 : ∀ a c, RowAt w noF a (texts [[109]]) → Calls Tryz.prog 13 #[.pointer (some ⟨p, 0, none⟩), .slice a 1 c] w fun e w' => e = .returned (.int .i64 0) ∧ Step noF w w') (k83 : Calls Tryz.prog 20 #[.pointer (some ⟨p, 0, none⟩), .agg #[.string (str []), .string (str [98])]] w fun e w' => ∃ v, e = .returned v ∧ Step noF w w' ∧ isMsB.1 w' v) (h1 : a.tmps.getD 1 undef = .pointer (some ⟨p, 0, none⟩)) (h3 : a.tmps.getD 3 undef = .pointer (some ⟨g3, 0, none⟩)) (h4 : a.tmps.getD 4 undef = .bool true) (h5 : a.tmps.getD 5 undef = .slice (some ⟨gl, 0, none⟩) 2 2) (h7 : a.tmps.getD 7 undef = .int .i64 1) (hat : ∀ jj ∈ deps ((Tryz.f5.body.bind (regionOps 7)).getD #[]) 3, At (bfawSp p g3 gl) bfawDl a w jj) :
    wpOp Tryz.prog ((Tryz.f5.body.bind (regionOps 7)).getD #[]) Q 3 (fun a' w' => ∃ o v, bfawDl[3]? = some o ∧ a' = a.put o v ∧ Step noF w w' ∧ ∀ pp, (bfawSp p g3 gl)[3]? = some pp → pp.1 w' (o.elim undef fun _ => v)) a w := by
  have h39 : a.tmps.getD 39 undef = .bool true := dep hat 2 (by kernel_rfl) (is (.bool true)) 39 rfl rfl
  exact slot_runs (is (.bool true)) bfawOp3 rfl rfl (wants_none a) (runs_move (show a.eval _ = _ from h39)) (Step.refl _ _) rfl

theorem bfawStep4 (p g3 gl : Nat)  {Q : Exit → Act → World → Prop} (a : Act) (w : World) (v0 : w.cell? ⟨g3, 0, none⟩ = some (.int .i64 2)) (v1 : w.cell? ⟨g3, 1, none⟩ = some (.string (str [120]))) (v2 : w.cell? ⟨g3, 2, none⟩ = some (.string (str []))) (u0 : w.cell? ⟨gl, 0, none⟩ = some (.int .i64 5)) (u1 : w.cell? ⟨gl, 1, none⟩ = some (.int .i64 4)) (k38 : Calls Tryz.prog 17 #[.pointer (some ⟨p, 0, none⟩)] w fun e w' => e = .returned (.int .i64 2) ∧ Step noF w w') (k42 : Calls Tryz.prog 18 #[.pointer (some ⟨p, 0, none⟩)] w fun e w' => e = .returned (.int .i64 9) ∧ Step noF w w') (k47 : Calls Tryz.prog 28 #[.string (str [120])] w fun e w' => e = .returned (.agg #[.int .i64 2, .string (str [120]), .string (str [])]) ∧ Step noF w w') (k73 : ∀ a c, RowAt w noF a (texts [[109]]) → Calls Tryz.prog 13 #[.pointer (some ⟨p, 0, none⟩), .slice a 1 c] w fun e w' => e = .returned (.int .i64 0) ∧ Step noF w w') (k83 : Calls Tryz.prog 20 #[.pointer (some ⟨p, 0, none⟩), .agg #[.string (str []), .string (str [98])]] w fun e w' => ∃ v, e = .returned v ∧ Step noF w w' ∧ isMsB.1 w' v) (h1 : a.tmps.getD 1 undef = .pointer (some ⟨p, 0, none⟩)) (h3 : a.tmps.getD 3 undef = .pointer (some ⟨g3, 0, none⟩)) (h4 : a.tmps.getD 4 undef = .bool true) (h5 : a.tmps.getD 5 undef = .slice (some ⟨gl, 0, none⟩) 2 2) (h7 : a.tmps.getD 7 undef = .int .i64 1) (hat : ∀ jj ∈ deps ((Tryz.f5.body.bind (regionOps 7)).getD #[]) 4, At (bfawSp p g3 gl) bfawDl a w jj) :
    wpOp Tryz.prog ((Tryz.f5.body.bind (regionOps 7)).getD #[]) Q 4 (fun a' w' => ∃ o v, bfawDl[4]? = some o ∧ a' = a.put o v ∧ Step noF w w' ∧ ∀ pp, (bfawSp p g3 gl)[4]? = some pp → pp.1 w' (o.elim undef fun _ => v)) a w := by
  have h40 : a.tmps.getD 40 undef = .bool true := dep hat 3 (by kernel_rfl) (is (.bool true)) 40 rfl rfl
  exact slot_runs (is (.pointer (some ⟨p, 0, none⟩))) bfawOp4 rfl rfl ((wants_some (d := 40) (b := true) (by kernel_rfl) h40)) (runs_move (show a.eval _ = _ from h1)) (Step.refl _ _) rfl

theorem bfawStep5 (p g3 gl : Nat)  {Q : Exit → Act → World → Prop} (a : Act) (w : World) (v0 : w.cell? ⟨g3, 0, none⟩ = some (.int .i64 2)) (v1 : w.cell? ⟨g3, 1, none⟩ = some (.string (str [120]))) (v2 : w.cell? ⟨g3, 2, none⟩ = some (.string (str []))) (u0 : w.cell? ⟨gl, 0, none⟩ = some (.int .i64 5)) (u1 : w.cell? ⟨gl, 1, none⟩ = some (.int .i64 4)) (k38 : Calls Tryz.prog 17 #[.pointer (some ⟨p, 0, none⟩)] w fun e w' => e = .returned (.int .i64 2) ∧ Step noF w w') (k42 : Calls Tryz.prog 18 #[.pointer (some ⟨p, 0, none⟩)] w fun e w' => e = .returned (.int .i64 9) ∧ Step noF w w') (k47 : Calls Tryz.prog 28 #[.string (str [120])] w fun e w' => e = .returned (.agg #[.int .i64 2, .string (str [120]), .string (str [])]) ∧ Step noF w w') (k73 : ∀ a c, RowAt w noF a (texts [[109]]) → Calls Tryz.prog 13 #[.pointer (some ⟨p, 0, none⟩), .slice a 1 c] w fun e w' => e = .returned (.int .i64 0) ∧ Step noF w w') (k83 : Calls Tryz.prog 20 #[.pointer (some ⟨p, 0, none⟩), .agg #[.string (str []), .string (str [98])]] w fun e w' => ∃ v, e = .returned v ∧ Step noF w w' ∧ isMsB.1 w' v) (h1 : a.tmps.getD 1 undef = .pointer (some ⟨p, 0, none⟩)) (h3 : a.tmps.getD 3 undef = .pointer (some ⟨g3, 0, none⟩)) (h4 : a.tmps.getD 4 undef = .bool true) (h5 : a.tmps.getD 5 undef = .slice (some ⟨gl, 0, none⟩) 2 2) (h7 : a.tmps.getD 7 undef = .int .i64 1) (hat : ∀ jj ∈ deps ((Tryz.f5.body.bind (regionOps 7)).getD #[]) 5, At (bfawSp p g3 gl) bfawDl a w jj) :
    wpOp Tryz.prog ((Tryz.f5.body.bind (regionOps 7)).getD #[]) Q 5 (fun a' w' => ∃ o v, bfawDl[5]? = some o ∧ a' = a.put o v ∧ Step noF w w' ∧ ∀ pp, (bfawSp p g3 gl)[5]? = some pp → pp.1 w' (o.elim undef fun _ => v)) a w := by
  have h40 : a.tmps.getD 40 undef = .bool true := dep hat 3 (by kernel_rfl) (is (.bool true)) 40 rfl rfl
  have h41 : a.tmps.getD 41 undef = .pointer (some ⟨p, 0, none⟩) := dep hat 4 (by kernel_rfl) (is (.pointer (some ⟨p, 0, none⟩))) 41 rfl rfl
  refine slot_calls (is (.int .i64 9)) bfawOp5 rfl rfl ((wants_some (d := 40) (b := true) (by kernel_rfl) h40)) Tryz.func18 (by kernel_rfl) (by kernel_rfl) (by simp only [List.map_toArray, List.map_cons, List.map_nil, Act.eval, h41]; rfl) ?_
  exact Calls.mono (k42) (fun e w' hh => ⟨_, hh.1, hh.2, rfl⟩)

theorem bfawStep6 (p g3 gl : Nat)  {Q : Exit → Act → World → Prop} (a : Act) (w : World) (v0 : w.cell? ⟨g3, 0, none⟩ = some (.int .i64 2)) (v1 : w.cell? ⟨g3, 1, none⟩ = some (.string (str [120]))) (v2 : w.cell? ⟨g3, 2, none⟩ = some (.string (str []))) (u0 : w.cell? ⟨gl, 0, none⟩ = some (.int .i64 5)) (u1 : w.cell? ⟨gl, 1, none⟩ = some (.int .i64 4)) (k38 : Calls Tryz.prog 17 #[.pointer (some ⟨p, 0, none⟩)] w fun e w' => e = .returned (.int .i64 2) ∧ Step noF w w') (k42 : Calls Tryz.prog 18 #[.pointer (some ⟨p, 0, none⟩)] w fun e w' => e = .returned (.int .i64 9) ∧ Step noF w w') (k47 : Calls Tryz.prog 28 #[.string (str [120])] w fun e w' => e = .returned (.agg #[.int .i64 2, .string (str [120]), .string (str [])]) ∧ Step noF w w') (k73 : ∀ a c, RowAt w noF a (texts [[109]]) → Calls Tryz.prog 13 #[.pointer (some ⟨p, 0, none⟩), .slice a 1 c] w fun e w' => e = .returned (.int .i64 0) ∧ Step noF w w') (k83 : Calls Tryz.prog 20 #[.pointer (some ⟨p, 0, none⟩), .agg #[.string (str []), .string (str [98])]] w fun e w' => ∃ v, e = .returned v ∧ Step noF w w' ∧ isMsB.1 w' v) (h1 : a.tmps.getD 1 undef = .pointer (some ⟨p, 0, none⟩)) (h3 : a.tmps.getD 3 undef = .pointer (some ⟨g3, 0, none⟩)) (h4 : a.tmps.getD 4 undef = .bool true) (h5 : a.tmps.getD 5 undef = .slice (some ⟨gl, 0, none⟩) 2 2) (h7 : a.tmps.getD 7 undef = .int .i64 1) (hat : ∀ jj ∈ deps ((Tryz.f5.body.bind (regionOps 7)).getD #[]) 6, At (bfawSp p g3 gl) bfawDl a w jj) :
    wpOp Tryz.prog ((Tryz.f5.body.bind (regionOps 7)).getD #[]) Q 6 (fun a' w' => ∃ o v, bfawDl[6]? = some o ∧ a' = a.put o v ∧ Step noF w w' ∧ ∀ pp, (bfawSp p g3 gl)[6]? = some pp → pp.1 w' (o.elim undef fun _ => v)) a w := by
  have h40 : a.tmps.getD 40 undef = .bool true := dep hat 3 (by kernel_rfl) (is (.bool true)) 40 rfl rfl
  have h42 : a.tmps.getD 42 undef = .int .i64 9 := dep hat 5 (by kernel_rfl) (is (.int .i64 9)) 42 rfl rfl
  refine slot_runs (is (.bool true)) bfawOp6 rfl rfl ((wants_some (d := 40) (b := true) (by kernel_rfl) h40)) (v := .bool true) (w' := w) ?_ (Step.refl _ _) rfl
  intro oo hoo
  simp only [execOp, hoo, Act.eval, Option.map_some, Option.map_none, h42]
  go_simp

theorem bfawStep7 (p g3 gl : Nat)  {Q : Exit → Act → World → Prop} (a : Act) (w : World) (v0 : w.cell? ⟨g3, 0, none⟩ = some (.int .i64 2)) (v1 : w.cell? ⟨g3, 1, none⟩ = some (.string (str [120]))) (v2 : w.cell? ⟨g3, 2, none⟩ = some (.string (str []))) (u0 : w.cell? ⟨gl, 0, none⟩ = some (.int .i64 5)) (u1 : w.cell? ⟨gl, 1, none⟩ = some (.int .i64 4)) (k38 : Calls Tryz.prog 17 #[.pointer (some ⟨p, 0, none⟩)] w fun e w' => e = .returned (.int .i64 2) ∧ Step noF w w') (k42 : Calls Tryz.prog 18 #[.pointer (some ⟨p, 0, none⟩)] w fun e w' => e = .returned (.int .i64 9) ∧ Step noF w w') (k47 : Calls Tryz.prog 28 #[.string (str [120])] w fun e w' => e = .returned (.agg #[.int .i64 2, .string (str [120]), .string (str [])]) ∧ Step noF w w') (k73 : ∀ a c, RowAt w noF a (texts [[109]]) → Calls Tryz.prog 13 #[.pointer (some ⟨p, 0, none⟩), .slice a 1 c] w fun e w' => e = .returned (.int .i64 0) ∧ Step noF w w') (k83 : Calls Tryz.prog 20 #[.pointer (some ⟨p, 0, none⟩), .agg #[.string (str []), .string (str [98])]] w fun e w' => ∃ v, e = .returned v ∧ Step noF w w' ∧ isMsB.1 w' v) (h1 : a.tmps.getD 1 undef = .pointer (some ⟨p, 0, none⟩)) (h3 : a.tmps.getD 3 undef = .pointer (some ⟨g3, 0, none⟩)) (h4 : a.tmps.getD 4 undef = .bool true) (h5 : a.tmps.getD 5 undef = .slice (some ⟨gl, 0, none⟩) 2 2) (h7 : a.tmps.getD 7 undef = .int .i64 1) (hat : ∀ jj ∈ deps ((Tryz.f5.body.bind (regionOps 7)).getD #[]) 7, At (bfawSp p g3 gl) bfawDl a w jj) :
    wpOp Tryz.prog ((Tryz.f5.body.bind (regionOps 7)).getD #[]) Q 7 (fun a' w' => ∃ o v, bfawDl[7]? = some o ∧ a' = a.put o v ∧ Step noF w w' ∧ ∀ pp, (bfawSp p g3 gl)[7]? = some pp → pp.1 w' (o.elim undef fun _ => v)) a w := by
  have h40 : a.tmps.getD 40 undef = .bool true := dep hat 3 (by kernel_rfl) (is (.bool true)) 40 rfl rfl
  have h43 : a.tmps.getD 43 undef = .bool true := dep hat 6 (by kernel_rfl) (is (.bool true)) 43 rfl rfl
  refine slot_runs (is (.bool true)) bfawOp7 rfl rfl (wants_none a) (v := .bool true) (w' := w) ?_ (Step.refl _ _) rfl
  intro oo hoo
  simp only [execOp, hoo, Act.eval, Option.map_some, Option.map_none, h40, h43]
  go_simp

theorem bfawStep8 (p g3 gl : Nat)  {Q : Exit → Act → World → Prop} (a : Act) (w : World) (v0 : w.cell? ⟨g3, 0, none⟩ = some (.int .i64 2)) (v1 : w.cell? ⟨g3, 1, none⟩ = some (.string (str [120]))) (v2 : w.cell? ⟨g3, 2, none⟩ = some (.string (str []))) (u0 : w.cell? ⟨gl, 0, none⟩ = some (.int .i64 5)) (u1 : w.cell? ⟨gl, 1, none⟩ = some (.int .i64 4)) (k38 : Calls Tryz.prog 17 #[.pointer (some ⟨p, 0, none⟩)] w fun e w' => e = .returned (.int .i64 2) ∧ Step noF w w') (k42 : Calls Tryz.prog 18 #[.pointer (some ⟨p, 0, none⟩)] w fun e w' => e = .returned (.int .i64 9) ∧ Step noF w w') (k47 : Calls Tryz.prog 28 #[.string (str [120])] w fun e w' => e = .returned (.agg #[.int .i64 2, .string (str [120]), .string (str [])]) ∧ Step noF w w') (k73 : ∀ a c, RowAt w noF a (texts [[109]]) → Calls Tryz.prog 13 #[.pointer (some ⟨p, 0, none⟩), .slice a 1 c] w fun e w' => e = .returned (.int .i64 0) ∧ Step noF w w') (k83 : Calls Tryz.prog 20 #[.pointer (some ⟨p, 0, none⟩), .agg #[.string (str []), .string (str [98])]] w fun e w' => ∃ v, e = .returned v ∧ Step noF w w' ∧ isMsB.1 w' v) (h1 : a.tmps.getD 1 undef = .pointer (some ⟨p, 0, none⟩)) (h3 : a.tmps.getD 3 undef = .pointer (some ⟨g3, 0, none⟩)) (h4 : a.tmps.getD 4 undef = .bool true) (h5 : a.tmps.getD 5 undef = .slice (some ⟨gl, 0, none⟩) 2 2) (h7 : a.tmps.getD 7 undef = .int .i64 1) (hat : ∀ jj ∈ deps ((Tryz.f5.body.bind (regionOps 7)).getD #[]) 8, At (bfawSp p g3 gl) bfawDl a w jj) :
    wpOp Tryz.prog ((Tryz.f5.body.bind (regionOps 7)).getD #[]) Q 8 (fun a' w' => ∃ o v, bfawDl[8]? = some o ∧ a' = a.put o v ∧ Step noF w w' ∧ ∀ pp, (bfawSp p g3 gl)[8]? = some pp → pp.1 w' (o.elim undef fun _ => v)) a w := by
  have h44 : a.tmps.getD 44 undef = .bool true := dep hat 7 (by kernel_rfl) (is (.bool true)) 44 rfl rfl
  exact slot_runs (is (.bool true)) bfawOp8 rfl rfl (wants_none a) (runs_move (show a.eval _ = _ from h44)) (Step.refl _ _) rfl

theorem bfawStep9 (p g3 gl : Nat)  {Q : Exit → Act → World → Prop} (a : Act) (w : World) (v0 : w.cell? ⟨g3, 0, none⟩ = some (.int .i64 2)) (v1 : w.cell? ⟨g3, 1, none⟩ = some (.string (str [120]))) (v2 : w.cell? ⟨g3, 2, none⟩ = some (.string (str []))) (u0 : w.cell? ⟨gl, 0, none⟩ = some (.int .i64 5)) (u1 : w.cell? ⟨gl, 1, none⟩ = some (.int .i64 4)) (k38 : Calls Tryz.prog 17 #[.pointer (some ⟨p, 0, none⟩)] w fun e w' => e = .returned (.int .i64 2) ∧ Step noF w w') (k42 : Calls Tryz.prog 18 #[.pointer (some ⟨p, 0, none⟩)] w fun e w' => e = .returned (.int .i64 9) ∧ Step noF w w') (k47 : Calls Tryz.prog 28 #[.string (str [120])] w fun e w' => e = .returned (.agg #[.int .i64 2, .string (str [120]), .string (str [])]) ∧ Step noF w w') (k73 : ∀ a c, RowAt w noF a (texts [[109]]) → Calls Tryz.prog 13 #[.pointer (some ⟨p, 0, none⟩), .slice a 1 c] w fun e w' => e = .returned (.int .i64 0) ∧ Step noF w w') (k83 : Calls Tryz.prog 20 #[.pointer (some ⟨p, 0, none⟩), .agg #[.string (str []), .string (str [98])]] w fun e w' => ∃ v, e = .returned v ∧ Step noF w w' ∧ isMsB.1 w' v) (h1 : a.tmps.getD 1 undef = .pointer (some ⟨p, 0, none⟩)) (h3 : a.tmps.getD 3 undef = .pointer (some ⟨g3, 0, none⟩)) (h4 : a.tmps.getD 4 undef = .bool true) (h5 : a.tmps.getD 5 undef = .slice (some ⟨gl, 0, none⟩) 2 2) (h7 : a.tmps.getD 7 undef = .int .i64 1) (hat : ∀ jj ∈ deps ((Tryz.f5.body.bind (regionOps 7)).getD #[]) 9, At (bfawSp p g3 gl) bfawDl a w jj) :
    wpOp Tryz.prog ((Tryz.f5.body.bind (regionOps 7)).getD #[]) Q 9 (fun a' w' => ∃ o v, bfawDl[9]? = some o ∧ a' = a.put o v ∧ Step noF w w' ∧ ∀ pp, (bfawSp p g3 gl)[9]? = some pp → pp.1 w' (o.elim undef fun _ => v)) a w := by
  have h45 : a.tmps.getD 45 undef = .bool true := dep hat 8 (by kernel_rfl) (is (.bool true)) 45 rfl rfl
  refine slot_runs (is (.agg #[.int .i64 2, .string (str [120]), .string (str [])])) bfawOp9 rfl rfl ((wants_some (d := 45) (b := true) (by kernel_rfl) h45)) (v := .agg #[.int .i64 2, .string (str [120]), .string (str [])]) (w' := w) ?_ (Step.refl _ _) rfl
  intro oo hoo
  simp only [execOp, hoo, Act.eval, Option.map_some, Option.map_none, h3]
  go_simp

theorem bfawStep10 (p g3 gl : Nat)  {Q : Exit → Act → World → Prop} (a : Act) (w : World) (v0 : w.cell? ⟨g3, 0, none⟩ = some (.int .i64 2)) (v1 : w.cell? ⟨g3, 1, none⟩ = some (.string (str [120]))) (v2 : w.cell? ⟨g3, 2, none⟩ = some (.string (str []))) (u0 : w.cell? ⟨gl, 0, none⟩ = some (.int .i64 5)) (u1 : w.cell? ⟨gl, 1, none⟩ = some (.int .i64 4)) (k38 : Calls Tryz.prog 17 #[.pointer (some ⟨p, 0, none⟩)] w fun e w' => e = .returned (.int .i64 2) ∧ Step noF w w') (k42 : Calls Tryz.prog 18 #[.pointer (some ⟨p, 0, none⟩)] w fun e w' => e = .returned (.int .i64 9) ∧ Step noF w w') (k47 : Calls Tryz.prog 28 #[.string (str [120])] w fun e w' => e = .returned (.agg #[.int .i64 2, .string (str [120]), .string (str [])]) ∧ Step noF w w') (k73 : ∀ a c, RowAt w noF a (texts [[109]]) → Calls Tryz.prog 13 #[.pointer (some ⟨p, 0, none⟩), .slice a 1 c] w fun e w' => e = .returned (.int .i64 0) ∧ Step noF w w') (k83 : Calls Tryz.prog 20 #[.pointer (some ⟨p, 0, none⟩), .agg #[.string (str []), .string (str [98])]] w fun e w' => ∃ v, e = .returned v ∧ Step noF w w' ∧ isMsB.1 w' v) (h1 : a.tmps.getD 1 undef = .pointer (some ⟨p, 0, none⟩)) (h3 : a.tmps.getD 3 undef = .pointer (some ⟨g3, 0, none⟩)) (h4 : a.tmps.getD 4 undef = .bool true) (h5 : a.tmps.getD 5 undef = .slice (some ⟨gl, 0, none⟩) 2 2) (h7 : a.tmps.getD 7 undef = .int .i64 1) (hat : ∀ jj ∈ deps ((Tryz.f5.body.bind (regionOps 7)).getD #[]) 10, At (bfawSp p g3 gl) bfawDl a w jj) :
    wpOp Tryz.prog ((Tryz.f5.body.bind (regionOps 7)).getD #[]) Q 10 (fun a' w' => ∃ o v, bfawDl[10]? = some o ∧ a' = a.put o v ∧ Step noF w w' ∧ ∀ pp, (bfawSp p g3 gl)[10]? = some pp → pp.1 w' (o.elim undef fun _ => v)) a w := by
  have h45 : a.tmps.getD 45 undef = .bool true := dep hat 8 (by kernel_rfl) (is (.bool true)) 45 rfl rfl
  refine slot_calls (is (.agg #[.int .i64 2, .string (str [120]), .string (str [])])) bfawOp10 rfl rfl ((wants_some (d := 45) (b := true) (by kernel_rfl) h45)) Tryz.func28 (by kernel_rfl) (by kernel_rfl) (by simp only [List.map_toArray, List.map_cons, List.map_nil, Act.eval]; rfl) ?_
  exact Calls.mono (k47) (fun e w' hh => ⟨_, hh.1, hh.2, rfl⟩)

theorem bfawStep11 (p g3 gl : Nat)  {Q : Exit → Act → World → Prop} (a : Act) (w : World) (v0 : w.cell? ⟨g3, 0, none⟩ = some (.int .i64 2)) (v1 : w.cell? ⟨g3, 1, none⟩ = some (.string (str [120]))) (v2 : w.cell? ⟨g3, 2, none⟩ = some (.string (str []))) (u0 : w.cell? ⟨gl, 0, none⟩ = some (.int .i64 5)) (u1 : w.cell? ⟨gl, 1, none⟩ = some (.int .i64 4)) (k38 : Calls Tryz.prog 17 #[.pointer (some ⟨p, 0, none⟩)] w fun e w' => e = .returned (.int .i64 2) ∧ Step noF w w') (k42 : Calls Tryz.prog 18 #[.pointer (some ⟨p, 0, none⟩)] w fun e w' => e = .returned (.int .i64 9) ∧ Step noF w w') (k47 : Calls Tryz.prog 28 #[.string (str [120])] w fun e w' => e = .returned (.agg #[.int .i64 2, .string (str [120]), .string (str [])]) ∧ Step noF w w') (k73 : ∀ a c, RowAt w noF a (texts [[109]]) → Calls Tryz.prog 13 #[.pointer (some ⟨p, 0, none⟩), .slice a 1 c] w fun e w' => e = .returned (.int .i64 0) ∧ Step noF w w') (k83 : Calls Tryz.prog 20 #[.pointer (some ⟨p, 0, none⟩), .agg #[.string (str []), .string (str [98])]] w fun e w' => ∃ v, e = .returned v ∧ Step noF w w' ∧ isMsB.1 w' v) (h1 : a.tmps.getD 1 undef = .pointer (some ⟨p, 0, none⟩)) (h3 : a.tmps.getD 3 undef = .pointer (some ⟨g3, 0, none⟩)) (h4 : a.tmps.getD 4 undef = .bool true) (h5 : a.tmps.getD 5 undef = .slice (some ⟨gl, 0, none⟩) 2 2) (h7 : a.tmps.getD 7 undef = .int .i64 1) (hat : ∀ jj ∈ deps ((Tryz.f5.body.bind (regionOps 7)).getD #[]) 11, At (bfawSp p g3 gl) bfawDl a w jj) :
    wpOp Tryz.prog ((Tryz.f5.body.bind (regionOps 7)).getD #[]) Q 11 (fun a' w' => ∃ o v, bfawDl[11]? = some o ∧ a' = a.put o v ∧ Step noF w w' ∧ ∀ pp, (bfawSp p g3 gl)[11]? = some pp → pp.1 w' (o.elim undef fun _ => v)) a w := by
  have h45 : a.tmps.getD 45 undef = .bool true := dep hat 8 (by kernel_rfl) (is (.bool true)) 45 rfl rfl
  have h46 : a.tmps.getD 46 undef = .agg #[.int .i64 2, .string (str [120]), .string (str [])] := dep hat 9 (by kernel_rfl) (is (.agg #[.int .i64 2, .string (str [120]), .string (str [])])) 46 rfl rfl
  have h47 : a.tmps.getD 47 undef = .agg #[.int .i64 2, .string (str [120]), .string (str [])] := dep hat 10 (by kernel_rfl) (is (.agg #[.int .i64 2, .string (str [120]), .string (str [])])) 47 rfl rfl
  refine slot_runs (is (.bool true)) bfawOp11 rfl rfl ((wants_some (d := 45) (b := true) (by kernel_rfl) h45)) (v := .bool true) (w' := w) ?_ (Step.refl _ _) rfl
  intro oo hoo
  simp only [execOp, hoo, Act.eval, Option.map_some, Option.map_none, h46, h47]
  go_simp

theorem bfawStep12 (p g3 gl : Nat)  {Q : Exit → Act → World → Prop} (a : Act) (w : World) (v0 : w.cell? ⟨g3, 0, none⟩ = some (.int .i64 2)) (v1 : w.cell? ⟨g3, 1, none⟩ = some (.string (str [120]))) (v2 : w.cell? ⟨g3, 2, none⟩ = some (.string (str []))) (u0 : w.cell? ⟨gl, 0, none⟩ = some (.int .i64 5)) (u1 : w.cell? ⟨gl, 1, none⟩ = some (.int .i64 4)) (k38 : Calls Tryz.prog 17 #[.pointer (some ⟨p, 0, none⟩)] w fun e w' => e = .returned (.int .i64 2) ∧ Step noF w w') (k42 : Calls Tryz.prog 18 #[.pointer (some ⟨p, 0, none⟩)] w fun e w' => e = .returned (.int .i64 9) ∧ Step noF w w') (k47 : Calls Tryz.prog 28 #[.string (str [120])] w fun e w' => e = .returned (.agg #[.int .i64 2, .string (str [120]), .string (str [])]) ∧ Step noF w w') (k73 : ∀ a c, RowAt w noF a (texts [[109]]) → Calls Tryz.prog 13 #[.pointer (some ⟨p, 0, none⟩), .slice a 1 c] w fun e w' => e = .returned (.int .i64 0) ∧ Step noF w w') (k83 : Calls Tryz.prog 20 #[.pointer (some ⟨p, 0, none⟩), .agg #[.string (str []), .string (str [98])]] w fun e w' => ∃ v, e = .returned v ∧ Step noF w w' ∧ isMsB.1 w' v) (h1 : a.tmps.getD 1 undef = .pointer (some ⟨p, 0, none⟩)) (h3 : a.tmps.getD 3 undef = .pointer (some ⟨g3, 0, none⟩)) (h4 : a.tmps.getD 4 undef = .bool true) (h5 : a.tmps.getD 5 undef = .slice (some ⟨gl, 0, none⟩) 2 2) (h7 : a.tmps.getD 7 undef = .int .i64 1) (hat : ∀ jj ∈ deps ((Tryz.f5.body.bind (regionOps 7)).getD #[]) 12, At (bfawSp p g3 gl) bfawDl a w jj) :
    wpOp Tryz.prog ((Tryz.f5.body.bind (regionOps 7)).getD #[]) Q 12 (fun a' w' => ∃ o v, bfawDl[12]? = some o ∧ a' = a.put o v ∧ Step noF w w' ∧ ∀ pp, (bfawSp p g3 gl)[12]? = some pp → pp.1 w' (o.elim undef fun _ => v)) a w := by
  have h45 : a.tmps.getD 45 undef = .bool true := dep hat 8 (by kernel_rfl) (is (.bool true)) 45 rfl rfl
  have h48 : a.tmps.getD 48 undef = .bool true := dep hat 11 (by kernel_rfl) (is (.bool true)) 48 rfl rfl
  refine slot_runs (is (.bool true)) bfawOp12 rfl rfl (wants_none a) (v := .bool true) (w' := w) ?_ (Step.refl _ _) rfl
  intro oo hoo
  simp only [execOp, hoo, Act.eval, Option.map_some, Option.map_none, h45, h48]
  go_simp

theorem bfawStep13 (p g3 gl : Nat)  {Q : Exit → Act → World → Prop} (a : Act) (w : World) (v0 : w.cell? ⟨g3, 0, none⟩ = some (.int .i64 2)) (v1 : w.cell? ⟨g3, 1, none⟩ = some (.string (str [120]))) (v2 : w.cell? ⟨g3, 2, none⟩ = some (.string (str []))) (u0 : w.cell? ⟨gl, 0, none⟩ = some (.int .i64 5)) (u1 : w.cell? ⟨gl, 1, none⟩ = some (.int .i64 4)) (k38 : Calls Tryz.prog 17 #[.pointer (some ⟨p, 0, none⟩)] w fun e w' => e = .returned (.int .i64 2) ∧ Step noF w w') (k42 : Calls Tryz.prog 18 #[.pointer (some ⟨p, 0, none⟩)] w fun e w' => e = .returned (.int .i64 9) ∧ Step noF w w') (k47 : Calls Tryz.prog 28 #[.string (str [120])] w fun e w' => e = .returned (.agg #[.int .i64 2, .string (str [120]), .string (str [])]) ∧ Step noF w w') (k73 : ∀ a c, RowAt w noF a (texts [[109]]) → Calls Tryz.prog 13 #[.pointer (some ⟨p, 0, none⟩), .slice a 1 c] w fun e w' => e = .returned (.int .i64 0) ∧ Step noF w w') (k83 : Calls Tryz.prog 20 #[.pointer (some ⟨p, 0, none⟩), .agg #[.string (str []), .string (str [98])]] w fun e w' => ∃ v, e = .returned v ∧ Step noF w w' ∧ isMsB.1 w' v) (h1 : a.tmps.getD 1 undef = .pointer (some ⟨p, 0, none⟩)) (h3 : a.tmps.getD 3 undef = .pointer (some ⟨g3, 0, none⟩)) (h4 : a.tmps.getD 4 undef = .bool true) (h5 : a.tmps.getD 5 undef = .slice (some ⟨gl, 0, none⟩) 2 2) (h7 : a.tmps.getD 7 undef = .int .i64 1) (hat : ∀ jj ∈ deps ((Tryz.f5.body.bind (regionOps 7)).getD #[]) 13, At (bfawSp p g3 gl) bfawDl a w jj) :
    wpOp Tryz.prog ((Tryz.f5.body.bind (regionOps 7)).getD #[]) Q 13 (fun a' w' => ∃ o v, bfawDl[13]? = some o ∧ a' = a.put o v ∧ Step noF w w' ∧ ∀ pp, (bfawSp p g3 gl)[13]? = some pp → pp.1 w' (o.elim undef fun _ => v)) a w := by
  have h49 : a.tmps.getD 49 undef = .bool true := dep hat 12 (by kernel_rfl) (is (.bool true)) 49 rfl rfl
  exact slot_runs (is (.bool true)) bfawOp13 rfl rfl (wants_none a) (runs_move (show a.eval _ = _ from h49)) (Step.refl _ _) rfl

theorem bfawStep14 (p g3 gl : Nat)  {Q : Exit → Act → World → Prop} (a : Act) (w : World) (v0 : w.cell? ⟨g3, 0, none⟩ = some (.int .i64 2)) (v1 : w.cell? ⟨g3, 1, none⟩ = some (.string (str [120]))) (v2 : w.cell? ⟨g3, 2, none⟩ = some (.string (str []))) (u0 : w.cell? ⟨gl, 0, none⟩ = some (.int .i64 5)) (u1 : w.cell? ⟨gl, 1, none⟩ = some (.int .i64 4)) (k38 : Calls Tryz.prog 17 #[.pointer (some ⟨p, 0, none⟩)] w fun e w' => e = .returned (.int .i64 2) ∧ Step noF w w') (k42 : Calls Tryz.prog 18 #[.pointer (some ⟨p, 0, none⟩)] w fun e w' => e = .returned (.int .i64 9) ∧ Step noF w w') (k47 : Calls Tryz.prog 28 #[.string (str [120])] w fun e w' => e = .returned (.agg #[.int .i64 2, .string (str [120]), .string (str [])]) ∧ Step noF w w') (k73 : ∀ a c, RowAt w noF a (texts [[109]]) → Calls Tryz.prog 13 #[.pointer (some ⟨p, 0, none⟩), .slice a 1 c] w fun e w' => e = .returned (.int .i64 0) ∧ Step noF w w') (k83 : Calls Tryz.prog 20 #[.pointer (some ⟨p, 0, none⟩), .agg #[.string (str []), .string (str [98])]] w fun e w' => ∃ v, e = .returned v ∧ Step noF w w' ∧ isMsB.1 w' v) (h1 : a.tmps.getD 1 undef = .pointer (some ⟨p, 0, none⟩)) (h3 : a.tmps.getD 3 undef = .pointer (some ⟨g3, 0, none⟩)) (h4 : a.tmps.getD 4 undef = .bool true) (h5 : a.tmps.getD 5 undef = .slice (some ⟨gl, 0, none⟩) 2 2) (h7 : a.tmps.getD 7 undef = .int .i64 1) (hat : ∀ jj ∈ deps ((Tryz.f5.body.bind (regionOps 7)).getD #[]) 14, At (bfawSp p g3 gl) bfawDl a w jj) :
    wpOp Tryz.prog ((Tryz.f5.body.bind (regionOps 7)).getD #[]) Q 14 (fun a' w' => ∃ o v, bfawDl[14]? = some o ∧ a' = a.put o v ∧ Step noF w w' ∧ ∀ pp, (bfawSp p g3 gl)[14]? = some pp → pp.1 w' (o.elim undef fun _ => v)) a w := by
  have h50 : a.tmps.getD 50 undef = .bool true := dep hat 13 (by kernel_rfl) (is (.bool true)) 50 rfl rfl
  exact slot_runs (is (.bool true)) bfawOp14 rfl rfl ((wants_some (d := 50) (b := true) (by kernel_rfl) h50)) (runs_move (show a.eval _ = _ from h4)) (Step.refl _ _) rfl

theorem bfawStep15 (p g3 gl : Nat)  {Q : Exit → Act → World → Prop} (a : Act) (w : World) (v0 : w.cell? ⟨g3, 0, none⟩ = some (.int .i64 2)) (v1 : w.cell? ⟨g3, 1, none⟩ = some (.string (str [120]))) (v2 : w.cell? ⟨g3, 2, none⟩ = some (.string (str []))) (u0 : w.cell? ⟨gl, 0, none⟩ = some (.int .i64 5)) (u1 : w.cell? ⟨gl, 1, none⟩ = some (.int .i64 4)) (k38 : Calls Tryz.prog 17 #[.pointer (some ⟨p, 0, none⟩)] w fun e w' => e = .returned (.int .i64 2) ∧ Step noF w w') (k42 : Calls Tryz.prog 18 #[.pointer (some ⟨p, 0, none⟩)] w fun e w' => e = .returned (.int .i64 9) ∧ Step noF w w') (k47 : Calls Tryz.prog 28 #[.string (str [120])] w fun e w' => e = .returned (.agg #[.int .i64 2, .string (str [120]), .string (str [])]) ∧ Step noF w w') (k73 : ∀ a c, RowAt w noF a (texts [[109]]) → Calls Tryz.prog 13 #[.pointer (some ⟨p, 0, none⟩), .slice a 1 c] w fun e w' => e = .returned (.int .i64 0) ∧ Step noF w w') (k83 : Calls Tryz.prog 20 #[.pointer (some ⟨p, 0, none⟩), .agg #[.string (str []), .string (str [98])]] w fun e w' => ∃ v, e = .returned v ∧ Step noF w w' ∧ isMsB.1 w' v) (h1 : a.tmps.getD 1 undef = .pointer (some ⟨p, 0, none⟩)) (h3 : a.tmps.getD 3 undef = .pointer (some ⟨g3, 0, none⟩)) (h4 : a.tmps.getD 4 undef = .bool true) (h5 : a.tmps.getD 5 undef = .slice (some ⟨gl, 0, none⟩) 2 2) (h7 : a.tmps.getD 7 undef = .int .i64 1) (hat : ∀ jj ∈ deps ((Tryz.f5.body.bind (regionOps 7)).getD #[]) 15, At (bfawSp p g3 gl) bfawDl a w jj) :
    wpOp Tryz.prog ((Tryz.f5.body.bind (regionOps 7)).getD #[]) Q 15 (fun a' w' => ∃ o v, bfawDl[15]? = some o ∧ a' = a.put o v ∧ Step noF w w' ∧ ∀ pp, (bfawSp p g3 gl)[15]? = some pp → pp.1 w' (o.elim undef fun _ => v)) a w := by
  have h50 : a.tmps.getD 50 undef = .bool true := dep hat 13 (by kernel_rfl) (is (.bool true)) 50 rfl rfl
  have h51 : a.tmps.getD 51 undef = .bool true := dep hat 14 (by kernel_rfl) (is (.bool true)) 51 rfl rfl
  refine slot_runs (is (.bool true)) bfawOp15 rfl rfl (wants_none a) (v := .bool true) (w' := w) ?_ (Step.refl _ _) rfl
  intro oo hoo
  simp only [execOp, hoo, Act.eval, Option.map_some, Option.map_none, h50, h51]
  go_simp

theorem bfawStep16 (p g3 gl : Nat)  {Q : Exit → Act → World → Prop} (a : Act) (w : World) (v0 : w.cell? ⟨g3, 0, none⟩ = some (.int .i64 2)) (v1 : w.cell? ⟨g3, 1, none⟩ = some (.string (str [120]))) (v2 : w.cell? ⟨g3, 2, none⟩ = some (.string (str []))) (u0 : w.cell? ⟨gl, 0, none⟩ = some (.int .i64 5)) (u1 : w.cell? ⟨gl, 1, none⟩ = some (.int .i64 4)) (k38 : Calls Tryz.prog 17 #[.pointer (some ⟨p, 0, none⟩)] w fun e w' => e = .returned (.int .i64 2) ∧ Step noF w w') (k42 : Calls Tryz.prog 18 #[.pointer (some ⟨p, 0, none⟩)] w fun e w' => e = .returned (.int .i64 9) ∧ Step noF w w') (k47 : Calls Tryz.prog 28 #[.string (str [120])] w fun e w' => e = .returned (.agg #[.int .i64 2, .string (str [120]), .string (str [])]) ∧ Step noF w w') (k73 : ∀ a c, RowAt w noF a (texts [[109]]) → Calls Tryz.prog 13 #[.pointer (some ⟨p, 0, none⟩), .slice a 1 c] w fun e w' => e = .returned (.int .i64 0) ∧ Step noF w w') (k83 : Calls Tryz.prog 20 #[.pointer (some ⟨p, 0, none⟩), .agg #[.string (str []), .string (str [98])]] w fun e w' => ∃ v, e = .returned v ∧ Step noF w w' ∧ isMsB.1 w' v) (h1 : a.tmps.getD 1 undef = .pointer (some ⟨p, 0, none⟩)) (h3 : a.tmps.getD 3 undef = .pointer (some ⟨g3, 0, none⟩)) (h4 : a.tmps.getD 4 undef = .bool true) (h5 : a.tmps.getD 5 undef = .slice (some ⟨gl, 0, none⟩) 2 2) (h7 : a.tmps.getD 7 undef = .int .i64 1) (hat : ∀ jj ∈ deps ((Tryz.f5.body.bind (regionOps 7)).getD #[]) 16, At (bfawSp p g3 gl) bfawDl a w jj) :
    wpOp Tryz.prog ((Tryz.f5.body.bind (regionOps 7)).getD #[]) Q 16 (fun a' w' => ∃ o v, bfawDl[16]? = some o ∧ a' = a.put o v ∧ Step noF w w' ∧ ∀ pp, (bfawSp p g3 gl)[16]? = some pp → pp.1 w' (o.elim undef fun _ => v)) a w := by
  have h52 : a.tmps.getD 52 undef = .bool true := dep hat 15 (by kernel_rfl) (is (.bool true)) 52 rfl rfl
  exact slot_runs (is (.bool true)) bfawOp16 rfl rfl (wants_none a) (runs_move (show a.eval _ = _ from h52)) (Step.refl _ _) rfl

theorem bfawStep17 (p g3 gl : Nat)  {Q : Exit → Act → World → Prop} (a : Act) (w : World) (v0 : w.cell? ⟨g3, 0, none⟩ = some (.int .i64 2)) (v1 : w.cell? ⟨g3, 1, none⟩ = some (.string (str [120]))) (v2 : w.cell? ⟨g3, 2, none⟩ = some (.string (str []))) (u0 : w.cell? ⟨gl, 0, none⟩ = some (.int .i64 5)) (u1 : w.cell? ⟨gl, 1, none⟩ = some (.int .i64 4)) (k38 : Calls Tryz.prog 17 #[.pointer (some ⟨p, 0, none⟩)] w fun e w' => e = .returned (.int .i64 2) ∧ Step noF w w') (k42 : Calls Tryz.prog 18 #[.pointer (some ⟨p, 0, none⟩)] w fun e w' => e = .returned (.int .i64 9) ∧ Step noF w w') (k47 : Calls Tryz.prog 28 #[.string (str [120])] w fun e w' => e = .returned (.agg #[.int .i64 2, .string (str [120]), .string (str [])]) ∧ Step noF w w') (k73 : ∀ a c, RowAt w noF a (texts [[109]]) → Calls Tryz.prog 13 #[.pointer (some ⟨p, 0, none⟩), .slice a 1 c] w fun e w' => e = .returned (.int .i64 0) ∧ Step noF w w') (k83 : Calls Tryz.prog 20 #[.pointer (some ⟨p, 0, none⟩), .agg #[.string (str []), .string (str [98])]] w fun e w' => ∃ v, e = .returned v ∧ Step noF w w' ∧ isMsB.1 w' v) (h1 : a.tmps.getD 1 undef = .pointer (some ⟨p, 0, none⟩)) (h3 : a.tmps.getD 3 undef = .pointer (some ⟨g3, 0, none⟩)) (h4 : a.tmps.getD 4 undef = .bool true) (h5 : a.tmps.getD 5 undef = .slice (some ⟨gl, 0, none⟩) 2 2) (h7 : a.tmps.getD 7 undef = .int .i64 1) (hat : ∀ jj ∈ deps ((Tryz.f5.body.bind (regionOps 7)).getD #[]) 17, At (bfawSp p g3 gl) bfawDl a w jj) :
    wpOp Tryz.prog ((Tryz.f5.body.bind (regionOps 7)).getD #[]) Q 17 (fun a' w' => ∃ o v, bfawDl[17]? = some o ∧ a' = a.put o v ∧ Step noF w w' ∧ ∀ pp, (bfawSp p g3 gl)[17]? = some pp → pp.1 w' (o.elim undef fun _ => v)) a w := by
  have h53 : a.tmps.getD 53 undef = .bool true := dep hat 16 (by kernel_rfl) (is (.bool true)) 53 rfl rfl
  exact slot_runs (is (.slice (some ⟨gl, 0, none⟩) 2 2)) bfawOp17 rfl rfl ((wants_some (d := 53) (b := true) (by kernel_rfl) h53)) (runs_move (show a.eval _ = _ from h5)) (Step.refl _ _) rfl

theorem bfawStep18 (p g3 gl : Nat)  {Q : Exit → Act → World → Prop} (a : Act) (w : World) (v0 : w.cell? ⟨g3, 0, none⟩ = some (.int .i64 2)) (v1 : w.cell? ⟨g3, 1, none⟩ = some (.string (str [120]))) (v2 : w.cell? ⟨g3, 2, none⟩ = some (.string (str []))) (u0 : w.cell? ⟨gl, 0, none⟩ = some (.int .i64 5)) (u1 : w.cell? ⟨gl, 1, none⟩ = some (.int .i64 4)) (k38 : Calls Tryz.prog 17 #[.pointer (some ⟨p, 0, none⟩)] w fun e w' => e = .returned (.int .i64 2) ∧ Step noF w w') (k42 : Calls Tryz.prog 18 #[.pointer (some ⟨p, 0, none⟩)] w fun e w' => e = .returned (.int .i64 9) ∧ Step noF w w') (k47 : Calls Tryz.prog 28 #[.string (str [120])] w fun e w' => e = .returned (.agg #[.int .i64 2, .string (str [120]), .string (str [])]) ∧ Step noF w w') (k73 : ∀ a c, RowAt w noF a (texts [[109]]) → Calls Tryz.prog 13 #[.pointer (some ⟨p, 0, none⟩), .slice a 1 c] w fun e w' => e = .returned (.int .i64 0) ∧ Step noF w w') (k83 : Calls Tryz.prog 20 #[.pointer (some ⟨p, 0, none⟩), .agg #[.string (str []), .string (str [98])]] w fun e w' => ∃ v, e = .returned v ∧ Step noF w w' ∧ isMsB.1 w' v) (h1 : a.tmps.getD 1 undef = .pointer (some ⟨p, 0, none⟩)) (h3 : a.tmps.getD 3 undef = .pointer (some ⟨g3, 0, none⟩)) (h4 : a.tmps.getD 4 undef = .bool true) (h5 : a.tmps.getD 5 undef = .slice (some ⟨gl, 0, none⟩) 2 2) (h7 : a.tmps.getD 7 undef = .int .i64 1) (hat : ∀ jj ∈ deps ((Tryz.f5.body.bind (regionOps 7)).getD #[]) 18, At (bfawSp p g3 gl) bfawDl a w jj) :
    wpOp Tryz.prog ((Tryz.f5.body.bind (regionOps 7)).getD #[]) Q 18 (fun a' w' => ∃ o v, bfawDl[18]? = some o ∧ a' = a.put o v ∧ Step noF w w' ∧ ∀ pp, (bfawSp p g3 gl)[18]? = some pp → pp.1 w' (o.elim undef fun _ => v)) a w := by
  have h53 : a.tmps.getD 53 undef = .bool true := dep hat 16 (by kernel_rfl) (is (.bool true)) 53 rfl rfl
  have h54 : a.tmps.getD 54 undef = .slice (some ⟨gl, 0, none⟩) 2 2 := dep hat 17 (by kernel_rfl) (is (.slice (some ⟨gl, 0, none⟩) 2 2)) 54 rfl rfl
  refine slot_runs (is (.int .i64 2)) bfawOp18 rfl rfl ((wants_some (d := 53) (b := true) (by kernel_rfl) h53)) (v := .int .i64 2) (w' := w) ?_ (Step.refl _ _) rfl
  intro oo hoo
  simp only [execOp, hoo, Act.eval, Option.map_some, Option.map_none, h54]
  go_simp

theorem bfawStep19 (p g3 gl : Nat)  {Q : Exit → Act → World → Prop} (a : Act) (w : World) (v0 : w.cell? ⟨g3, 0, none⟩ = some (.int .i64 2)) (v1 : w.cell? ⟨g3, 1, none⟩ = some (.string (str [120]))) (v2 : w.cell? ⟨g3, 2, none⟩ = some (.string (str []))) (u0 : w.cell? ⟨gl, 0, none⟩ = some (.int .i64 5)) (u1 : w.cell? ⟨gl, 1, none⟩ = some (.int .i64 4)) (k38 : Calls Tryz.prog 17 #[.pointer (some ⟨p, 0, none⟩)] w fun e w' => e = .returned (.int .i64 2) ∧ Step noF w w') (k42 : Calls Tryz.prog 18 #[.pointer (some ⟨p, 0, none⟩)] w fun e w' => e = .returned (.int .i64 9) ∧ Step noF w w') (k47 : Calls Tryz.prog 28 #[.string (str [120])] w fun e w' => e = .returned (.agg #[.int .i64 2, .string (str [120]), .string (str [])]) ∧ Step noF w w') (k73 : ∀ a c, RowAt w noF a (texts [[109]]) → Calls Tryz.prog 13 #[.pointer (some ⟨p, 0, none⟩), .slice a 1 c] w fun e w' => e = .returned (.int .i64 0) ∧ Step noF w w') (k83 : Calls Tryz.prog 20 #[.pointer (some ⟨p, 0, none⟩), .agg #[.string (str []), .string (str [98])]] w fun e w' => ∃ v, e = .returned v ∧ Step noF w w' ∧ isMsB.1 w' v) (h1 : a.tmps.getD 1 undef = .pointer (some ⟨p, 0, none⟩)) (h3 : a.tmps.getD 3 undef = .pointer (some ⟨g3, 0, none⟩)) (h4 : a.tmps.getD 4 undef = .bool true) (h5 : a.tmps.getD 5 undef = .slice (some ⟨gl, 0, none⟩) 2 2) (h7 : a.tmps.getD 7 undef = .int .i64 1) (hat : ∀ jj ∈ deps ((Tryz.f5.body.bind (regionOps 7)).getD #[]) 19, At (bfawSp p g3 gl) bfawDl a w jj) :
    wpOp Tryz.prog ((Tryz.f5.body.bind (regionOps 7)).getD #[]) Q 19 (fun a' w' => ∃ o v, bfawDl[19]? = some o ∧ a' = a.put o v ∧ Step noF w w' ∧ ∀ pp, (bfawSp p g3 gl)[19]? = some pp → pp.1 w' (o.elim undef fun _ => v)) a w := by
  have h53 : a.tmps.getD 53 undef = .bool true := dep hat 16 (by kernel_rfl) (is (.bool true)) 53 rfl rfl
  have h55 : a.tmps.getD 55 undef = .int .i64 2 := dep hat 18 (by kernel_rfl) (is (.int .i64 2)) 55 rfl rfl
  refine slot_runs (is (.bool true)) bfawOp19 rfl rfl ((wants_some (d := 53) (b := true) (by kernel_rfl) h53)) (v := .bool true) (w' := w) ?_ (Step.refl _ _) rfl
  intro oo hoo
  simp only [execOp, hoo, Act.eval, Option.map_some, Option.map_none, h55]
  go_simp

theorem bfawStep20 (p g3 gl : Nat)  {Q : Exit → Act → World → Prop} (a : Act) (w : World) (v0 : w.cell? ⟨g3, 0, none⟩ = some (.int .i64 2)) (v1 : w.cell? ⟨g3, 1, none⟩ = some (.string (str [120]))) (v2 : w.cell? ⟨g3, 2, none⟩ = some (.string (str []))) (u0 : w.cell? ⟨gl, 0, none⟩ = some (.int .i64 5)) (u1 : w.cell? ⟨gl, 1, none⟩ = some (.int .i64 4)) (k38 : Calls Tryz.prog 17 #[.pointer (some ⟨p, 0, none⟩)] w fun e w' => e = .returned (.int .i64 2) ∧ Step noF w w') (k42 : Calls Tryz.prog 18 #[.pointer (some ⟨p, 0, none⟩)] w fun e w' => e = .returned (.int .i64 9) ∧ Step noF w w') (k47 : Calls Tryz.prog 28 #[.string (str [120])] w fun e w' => e = .returned (.agg #[.int .i64 2, .string (str [120]), .string (str [])]) ∧ Step noF w w') (k73 : ∀ a c, RowAt w noF a (texts [[109]]) → Calls Tryz.prog 13 #[.pointer (some ⟨p, 0, none⟩), .slice a 1 c] w fun e w' => e = .returned (.int .i64 0) ∧ Step noF w w') (k83 : Calls Tryz.prog 20 #[.pointer (some ⟨p, 0, none⟩), .agg #[.string (str []), .string (str [98])]] w fun e w' => ∃ v, e = .returned v ∧ Step noF w w' ∧ isMsB.1 w' v) (h1 : a.tmps.getD 1 undef = .pointer (some ⟨p, 0, none⟩)) (h3 : a.tmps.getD 3 undef = .pointer (some ⟨g3, 0, none⟩)) (h4 : a.tmps.getD 4 undef = .bool true) (h5 : a.tmps.getD 5 undef = .slice (some ⟨gl, 0, none⟩) 2 2) (h7 : a.tmps.getD 7 undef = .int .i64 1) (hat : ∀ jj ∈ deps ((Tryz.f5.body.bind (regionOps 7)).getD #[]) 20, At (bfawSp p g3 gl) bfawDl a w jj) :
    wpOp Tryz.prog ((Tryz.f5.body.bind (regionOps 7)).getD #[]) Q 20 (fun a' w' => ∃ o v, bfawDl[20]? = some o ∧ a' = a.put o v ∧ Step noF w w' ∧ ∀ pp, (bfawSp p g3 gl)[20]? = some pp → pp.1 w' (o.elim undef fun _ => v)) a w := by
  have h53 : a.tmps.getD 53 undef = .bool true := dep hat 16 (by kernel_rfl) (is (.bool true)) 53 rfl rfl
  have h56 : a.tmps.getD 56 undef = .bool true := dep hat 19 (by kernel_rfl) (is (.bool true)) 56 rfl rfl
  refine slot_runs (is (.bool true)) bfawOp20 rfl rfl (wants_none a) (v := .bool true) (w' := w) ?_ (Step.refl _ _) rfl
  intro oo hoo
  simp only [execOp, hoo, Act.eval, Option.map_some, Option.map_none, h53, h56]
  go_simp

theorem bfawStep21 (p g3 gl : Nat)  {Q : Exit → Act → World → Prop} (a : Act) (w : World) (v0 : w.cell? ⟨g3, 0, none⟩ = some (.int .i64 2)) (v1 : w.cell? ⟨g3, 1, none⟩ = some (.string (str [120]))) (v2 : w.cell? ⟨g3, 2, none⟩ = some (.string (str []))) (u0 : w.cell? ⟨gl, 0, none⟩ = some (.int .i64 5)) (u1 : w.cell? ⟨gl, 1, none⟩ = some (.int .i64 4)) (k38 : Calls Tryz.prog 17 #[.pointer (some ⟨p, 0, none⟩)] w fun e w' => e = .returned (.int .i64 2) ∧ Step noF w w') (k42 : Calls Tryz.prog 18 #[.pointer (some ⟨p, 0, none⟩)] w fun e w' => e = .returned (.int .i64 9) ∧ Step noF w w') (k47 : Calls Tryz.prog 28 #[.string (str [120])] w fun e w' => e = .returned (.agg #[.int .i64 2, .string (str [120]), .string (str [])]) ∧ Step noF w w') (k73 : ∀ a c, RowAt w noF a (texts [[109]]) → Calls Tryz.prog 13 #[.pointer (some ⟨p, 0, none⟩), .slice a 1 c] w fun e w' => e = .returned (.int .i64 0) ∧ Step noF w w') (k83 : Calls Tryz.prog 20 #[.pointer (some ⟨p, 0, none⟩), .agg #[.string (str []), .string (str [98])]] w fun e w' => ∃ v, e = .returned v ∧ Step noF w w' ∧ isMsB.1 w' v) (h1 : a.tmps.getD 1 undef = .pointer (some ⟨p, 0, none⟩)) (h3 : a.tmps.getD 3 undef = .pointer (some ⟨g3, 0, none⟩)) (h4 : a.tmps.getD 4 undef = .bool true) (h5 : a.tmps.getD 5 undef = .slice (some ⟨gl, 0, none⟩) 2 2) (h7 : a.tmps.getD 7 undef = .int .i64 1) (hat : ∀ jj ∈ deps ((Tryz.f5.body.bind (regionOps 7)).getD #[]) 21, At (bfawSp p g3 gl) bfawDl a w jj) :
    wpOp Tryz.prog ((Tryz.f5.body.bind (regionOps 7)).getD #[]) Q 21 (fun a' w' => ∃ o v, bfawDl[21]? = some o ∧ a' = a.put o v ∧ Step noF w w' ∧ ∀ pp, (bfawSp p g3 gl)[21]? = some pp → pp.1 w' (o.elim undef fun _ => v)) a w := by
  have h57 : a.tmps.getD 57 undef = .bool true := dep hat 20 (by kernel_rfl) (is (.bool true)) 57 rfl rfl
  exact slot_runs (is (.bool true)) bfawOp21 rfl rfl (wants_none a) (runs_move (show a.eval _ = _ from h57)) (Step.refl _ _) rfl

theorem bfawStep22 (p g3 gl : Nat)  {Q : Exit → Act → World → Prop} (a : Act) (w : World) (v0 : w.cell? ⟨g3, 0, none⟩ = some (.int .i64 2)) (v1 : w.cell? ⟨g3, 1, none⟩ = some (.string (str [120]))) (v2 : w.cell? ⟨g3, 2, none⟩ = some (.string (str []))) (u0 : w.cell? ⟨gl, 0, none⟩ = some (.int .i64 5)) (u1 : w.cell? ⟨gl, 1, none⟩ = some (.int .i64 4)) (k38 : Calls Tryz.prog 17 #[.pointer (some ⟨p, 0, none⟩)] w fun e w' => e = .returned (.int .i64 2) ∧ Step noF w w') (k42 : Calls Tryz.prog 18 #[.pointer (some ⟨p, 0, none⟩)] w fun e w' => e = .returned (.int .i64 9) ∧ Step noF w w') (k47 : Calls Tryz.prog 28 #[.string (str [120])] w fun e w' => e = .returned (.agg #[.int .i64 2, .string (str [120]), .string (str [])]) ∧ Step noF w w') (k73 : ∀ a c, RowAt w noF a (texts [[109]]) → Calls Tryz.prog 13 #[.pointer (some ⟨p, 0, none⟩), .slice a 1 c] w fun e w' => e = .returned (.int .i64 0) ∧ Step noF w w') (k83 : Calls Tryz.prog 20 #[.pointer (some ⟨p, 0, none⟩), .agg #[.string (str []), .string (str [98])]] w fun e w' => ∃ v, e = .returned v ∧ Step noF w w' ∧ isMsB.1 w' v) (h1 : a.tmps.getD 1 undef = .pointer (some ⟨p, 0, none⟩)) (h3 : a.tmps.getD 3 undef = .pointer (some ⟨g3, 0, none⟩)) (h4 : a.tmps.getD 4 undef = .bool true) (h5 : a.tmps.getD 5 undef = .slice (some ⟨gl, 0, none⟩) 2 2) (h7 : a.tmps.getD 7 undef = .int .i64 1) (hat : ∀ jj ∈ deps ((Tryz.f5.body.bind (regionOps 7)).getD #[]) 22, At (bfawSp p g3 gl) bfawDl a w jj) :
    wpOp Tryz.prog ((Tryz.f5.body.bind (regionOps 7)).getD #[]) Q 22 (fun a' w' => ∃ o v, bfawDl[22]? = some o ∧ a' = a.put o v ∧ Step noF w w' ∧ ∀ pp, (bfawSp p g3 gl)[22]? = some pp → pp.1 w' (o.elim undef fun _ => v)) a w := by
  have h58 : a.tmps.getD 58 undef = .bool true := dep hat 21 (by kernel_rfl) (is (.bool true)) 58 rfl rfl
  exact slot_runs (is (.slice (some ⟨gl, 0, none⟩) 2 2)) bfawOp22 rfl rfl ((wants_some (d := 58) (b := true) (by kernel_rfl) h58)) (runs_move (show a.eval _ = _ from h5)) (Step.refl _ _) rfl

theorem bfawStep23 (p g3 gl : Nat)  {Q : Exit → Act → World → Prop} (a : Act) (w : World) (v0 : w.cell? ⟨g3, 0, none⟩ = some (.int .i64 2)) (v1 : w.cell? ⟨g3, 1, none⟩ = some (.string (str [120]))) (v2 : w.cell? ⟨g3, 2, none⟩ = some (.string (str []))) (u0 : w.cell? ⟨gl, 0, none⟩ = some (.int .i64 5)) (u1 : w.cell? ⟨gl, 1, none⟩ = some (.int .i64 4)) (k38 : Calls Tryz.prog 17 #[.pointer (some ⟨p, 0, none⟩)] w fun e w' => e = .returned (.int .i64 2) ∧ Step noF w w') (k42 : Calls Tryz.prog 18 #[.pointer (some ⟨p, 0, none⟩)] w fun e w' => e = .returned (.int .i64 9) ∧ Step noF w w') (k47 : Calls Tryz.prog 28 #[.string (str [120])] w fun e w' => e = .returned (.agg #[.int .i64 2, .string (str [120]), .string (str [])]) ∧ Step noF w w') (k73 : ∀ a c, RowAt w noF a (texts [[109]]) → Calls Tryz.prog 13 #[.pointer (some ⟨p, 0, none⟩), .slice a 1 c] w fun e w' => e = .returned (.int .i64 0) ∧ Step noF w w') (k83 : Calls Tryz.prog 20 #[.pointer (some ⟨p, 0, none⟩), .agg #[.string (str []), .string (str [98])]] w fun e w' => ∃ v, e = .returned v ∧ Step noF w w' ∧ isMsB.1 w' v) (h1 : a.tmps.getD 1 undef = .pointer (some ⟨p, 0, none⟩)) (h3 : a.tmps.getD 3 undef = .pointer (some ⟨g3, 0, none⟩)) (h4 : a.tmps.getD 4 undef = .bool true) (h5 : a.tmps.getD 5 undef = .slice (some ⟨gl, 0, none⟩) 2 2) (h7 : a.tmps.getD 7 undef = .int .i64 1) (hat : ∀ jj ∈ deps ((Tryz.f5.body.bind (regionOps 7)).getD #[]) 23, At (bfawSp p g3 gl) bfawDl a w jj) :
    wpOp Tryz.prog ((Tryz.f5.body.bind (regionOps 7)).getD #[]) Q 23 (fun a' w' => ∃ o v, bfawDl[23]? = some o ∧ a' = a.put o v ∧ Step noF w w' ∧ ∀ pp, (bfawSp p g3 gl)[23]? = some pp → pp.1 w' (o.elim undef fun _ => v)) a w := by
  have h58 : a.tmps.getD 58 undef = .bool true := dep hat 21 (by kernel_rfl) (is (.bool true)) 58 rfl rfl
  have h59 : a.tmps.getD 59 undef = .slice (some ⟨gl, 0, none⟩) 2 2 := dep hat 22 (by kernel_rfl) (is (.slice (some ⟨gl, 0, none⟩) 2 2)) 59 rfl rfl
  refine slot_runs (is (.pointer (some ⟨gl, 0, none⟩))) bfawOp23 rfl rfl ((wants_some (d := 58) (b := true) (by kernel_rfl) h58)) (v := .pointer (some ⟨gl, 0, none⟩)) (w' := w) ?_ (Step.refl _ _) rfl
  intro oo hoo
  simp only [execOp, hoo, Act.eval, Option.map_some, Option.map_none, h59]
  go_simp

theorem bfawStep24 (p g3 gl : Nat)  {Q : Exit → Act → World → Prop} (a : Act) (w : World) (v0 : w.cell? ⟨g3, 0, none⟩ = some (.int .i64 2)) (v1 : w.cell? ⟨g3, 1, none⟩ = some (.string (str [120]))) (v2 : w.cell? ⟨g3, 2, none⟩ = some (.string (str []))) (u0 : w.cell? ⟨gl, 0, none⟩ = some (.int .i64 5)) (u1 : w.cell? ⟨gl, 1, none⟩ = some (.int .i64 4)) (k38 : Calls Tryz.prog 17 #[.pointer (some ⟨p, 0, none⟩)] w fun e w' => e = .returned (.int .i64 2) ∧ Step noF w w') (k42 : Calls Tryz.prog 18 #[.pointer (some ⟨p, 0, none⟩)] w fun e w' => e = .returned (.int .i64 9) ∧ Step noF w w') (k47 : Calls Tryz.prog 28 #[.string (str [120])] w fun e w' => e = .returned (.agg #[.int .i64 2, .string (str [120]), .string (str [])]) ∧ Step noF w w') (k73 : ∀ a c, RowAt w noF a (texts [[109]]) → Calls Tryz.prog 13 #[.pointer (some ⟨p, 0, none⟩), .slice a 1 c] w fun e w' => e = .returned (.int .i64 0) ∧ Step noF w w') (k83 : Calls Tryz.prog 20 #[.pointer (some ⟨p, 0, none⟩), .agg #[.string (str []), .string (str [98])]] w fun e w' => ∃ v, e = .returned v ∧ Step noF w w' ∧ isMsB.1 w' v) (h1 : a.tmps.getD 1 undef = .pointer (some ⟨p, 0, none⟩)) (h3 : a.tmps.getD 3 undef = .pointer (some ⟨g3, 0, none⟩)) (h4 : a.tmps.getD 4 undef = .bool true) (h5 : a.tmps.getD 5 undef = .slice (some ⟨gl, 0, none⟩) 2 2) (h7 : a.tmps.getD 7 undef = .int .i64 1) (hat : ∀ jj ∈ deps ((Tryz.f5.body.bind (regionOps 7)).getD #[]) 24, At (bfawSp p g3 gl) bfawDl a w jj) :
    wpOp Tryz.prog ((Tryz.f5.body.bind (regionOps 7)).getD #[]) Q 24 (fun a' w' => ∃ o v, bfawDl[24]? = some o ∧ a' = a.put o v ∧ Step noF w w' ∧ ∀ pp, (bfawSp p g3 gl)[24]? = some pp → pp.1 w' (o.elim undef fun _ => v)) a w := by
  have h58 : a.tmps.getD 58 undef = .bool true := dep hat 21 (by kernel_rfl) (is (.bool true)) 58 rfl rfl
  have h60 : a.tmps.getD 60 undef = .pointer (some ⟨gl, 0, none⟩) := dep hat 23 (by kernel_rfl) (is (.pointer (some ⟨gl, 0, none⟩))) 60 rfl rfl
  refine slot_runs (is (.int .i64 5)) bfawOp24 rfl rfl ((wants_some (d := 58) (b := true) (by kernel_rfl) h58)) (v := .int .i64 5) (w' := w) ?_ (Step.refl _ _) rfl
  intro oo hoo
  simp only [execOp, hoo, Act.eval, Option.map_some, Option.map_none, h60]
  go_simp

theorem bfawStep25 (p g3 gl : Nat)  {Q : Exit → Act → World → Prop} (a : Act) (w : World) (v0 : w.cell? ⟨g3, 0, none⟩ = some (.int .i64 2)) (v1 : w.cell? ⟨g3, 1, none⟩ = some (.string (str [120]))) (v2 : w.cell? ⟨g3, 2, none⟩ = some (.string (str []))) (u0 : w.cell? ⟨gl, 0, none⟩ = some (.int .i64 5)) (u1 : w.cell? ⟨gl, 1, none⟩ = some (.int .i64 4)) (k38 : Calls Tryz.prog 17 #[.pointer (some ⟨p, 0, none⟩)] w fun e w' => e = .returned (.int .i64 2) ∧ Step noF w w') (k42 : Calls Tryz.prog 18 #[.pointer (some ⟨p, 0, none⟩)] w fun e w' => e = .returned (.int .i64 9) ∧ Step noF w w') (k47 : Calls Tryz.prog 28 #[.string (str [120])] w fun e w' => e = .returned (.agg #[.int .i64 2, .string (str [120]), .string (str [])]) ∧ Step noF w w') (k73 : ∀ a c, RowAt w noF a (texts [[109]]) → Calls Tryz.prog 13 #[.pointer (some ⟨p, 0, none⟩), .slice a 1 c] w fun e w' => e = .returned (.int .i64 0) ∧ Step noF w w') (k83 : Calls Tryz.prog 20 #[.pointer (some ⟨p, 0, none⟩), .agg #[.string (str []), .string (str [98])]] w fun e w' => ∃ v, e = .returned v ∧ Step noF w w' ∧ isMsB.1 w' v) (h1 : a.tmps.getD 1 undef = .pointer (some ⟨p, 0, none⟩)) (h3 : a.tmps.getD 3 undef = .pointer (some ⟨g3, 0, none⟩)) (h4 : a.tmps.getD 4 undef = .bool true) (h5 : a.tmps.getD 5 undef = .slice (some ⟨gl, 0, none⟩) 2 2) (h7 : a.tmps.getD 7 undef = .int .i64 1) (hat : ∀ jj ∈ deps ((Tryz.f5.body.bind (regionOps 7)).getD #[]) 25, At (bfawSp p g3 gl) bfawDl a w jj) :
    wpOp Tryz.prog ((Tryz.f5.body.bind (regionOps 7)).getD #[]) Q 25 (fun a' w' => ∃ o v, bfawDl[25]? = some o ∧ a' = a.put o v ∧ Step noF w w' ∧ ∀ pp, (bfawSp p g3 gl)[25]? = some pp → pp.1 w' (o.elim undef fun _ => v)) a w := by
  have h58 : a.tmps.getD 58 undef = .bool true := dep hat 21 (by kernel_rfl) (is (.bool true)) 58 rfl rfl
  have h61 : a.tmps.getD 61 undef = .int .i64 5 := dep hat 24 (by kernel_rfl) (is (.int .i64 5)) 61 rfl rfl
  refine slot_runs (is (.bool true)) bfawOp25 rfl rfl ((wants_some (d := 58) (b := true) (by kernel_rfl) h58)) (v := .bool true) (w' := w) ?_ (Step.refl _ _) rfl
  intro oo hoo
  simp only [execOp, hoo, Act.eval, Option.map_some, Option.map_none, h61]
  go_simp

theorem bfawStep26 (p g3 gl : Nat)  {Q : Exit → Act → World → Prop} (a : Act) (w : World) (v0 : w.cell? ⟨g3, 0, none⟩ = some (.int .i64 2)) (v1 : w.cell? ⟨g3, 1, none⟩ = some (.string (str [120]))) (v2 : w.cell? ⟨g3, 2, none⟩ = some (.string (str []))) (u0 : w.cell? ⟨gl, 0, none⟩ = some (.int .i64 5)) (u1 : w.cell? ⟨gl, 1, none⟩ = some (.int .i64 4)) (k38 : Calls Tryz.prog 17 #[.pointer (some ⟨p, 0, none⟩)] w fun e w' => e = .returned (.int .i64 2) ∧ Step noF w w') (k42 : Calls Tryz.prog 18 #[.pointer (some ⟨p, 0, none⟩)] w fun e w' => e = .returned (.int .i64 9) ∧ Step noF w w') (k47 : Calls Tryz.prog 28 #[.string (str [120])] w fun e w' => e = .returned (.agg #[.int .i64 2, .string (str [120]), .string (str [])]) ∧ Step noF w w') (k73 : ∀ a c, RowAt w noF a (texts [[109]]) → Calls Tryz.prog 13 #[.pointer (some ⟨p, 0, none⟩), .slice a 1 c] w fun e w' => e = .returned (.int .i64 0) ∧ Step noF w w') (k83 : Calls Tryz.prog 20 #[.pointer (some ⟨p, 0, none⟩), .agg #[.string (str []), .string (str [98])]] w fun e w' => ∃ v, e = .returned v ∧ Step noF w w' ∧ isMsB.1 w' v) (h1 : a.tmps.getD 1 undef = .pointer (some ⟨p, 0, none⟩)) (h3 : a.tmps.getD 3 undef = .pointer (some ⟨g3, 0, none⟩)) (h4 : a.tmps.getD 4 undef = .bool true) (h5 : a.tmps.getD 5 undef = .slice (some ⟨gl, 0, none⟩) 2 2) (h7 : a.tmps.getD 7 undef = .int .i64 1) (hat : ∀ jj ∈ deps ((Tryz.f5.body.bind (regionOps 7)).getD #[]) 26, At (bfawSp p g3 gl) bfawDl a w jj) :
    wpOp Tryz.prog ((Tryz.f5.body.bind (regionOps 7)).getD #[]) Q 26 (fun a' w' => ∃ o v, bfawDl[26]? = some o ∧ a' = a.put o v ∧ Step noF w w' ∧ ∀ pp, (bfawSp p g3 gl)[26]? = some pp → pp.1 w' (o.elim undef fun _ => v)) a w := by
  have h58 : a.tmps.getD 58 undef = .bool true := dep hat 21 (by kernel_rfl) (is (.bool true)) 58 rfl rfl
  have h62 : a.tmps.getD 62 undef = .bool true := dep hat 25 (by kernel_rfl) (is (.bool true)) 62 rfl rfl
  refine slot_runs (is (.bool true)) bfawOp26 rfl rfl (wants_none a) (v := .bool true) (w' := w) ?_ (Step.refl _ _) rfl
  intro oo hoo
  simp only [execOp, hoo, Act.eval, Option.map_some, Option.map_none, h58, h62]
  go_simp

theorem bfawStep27 (p g3 gl : Nat)  {Q : Exit → Act → World → Prop} (a : Act) (w : World) (v0 : w.cell? ⟨g3, 0, none⟩ = some (.int .i64 2)) (v1 : w.cell? ⟨g3, 1, none⟩ = some (.string (str [120]))) (v2 : w.cell? ⟨g3, 2, none⟩ = some (.string (str []))) (u0 : w.cell? ⟨gl, 0, none⟩ = some (.int .i64 5)) (u1 : w.cell? ⟨gl, 1, none⟩ = some (.int .i64 4)) (k38 : Calls Tryz.prog 17 #[.pointer (some ⟨p, 0, none⟩)] w fun e w' => e = .returned (.int .i64 2) ∧ Step noF w w') (k42 : Calls Tryz.prog 18 #[.pointer (some ⟨p, 0, none⟩)] w fun e w' => e = .returned (.int .i64 9) ∧ Step noF w w') (k47 : Calls Tryz.prog 28 #[.string (str [120])] w fun e w' => e = .returned (.agg #[.int .i64 2, .string (str [120]), .string (str [])]) ∧ Step noF w w') (k73 : ∀ a c, RowAt w noF a (texts [[109]]) → Calls Tryz.prog 13 #[.pointer (some ⟨p, 0, none⟩), .slice a 1 c] w fun e w' => e = .returned (.int .i64 0) ∧ Step noF w w') (k83 : Calls Tryz.prog 20 #[.pointer (some ⟨p, 0, none⟩), .agg #[.string (str []), .string (str [98])]] w fun e w' => ∃ v, e = .returned v ∧ Step noF w w' ∧ isMsB.1 w' v) (h1 : a.tmps.getD 1 undef = .pointer (some ⟨p, 0, none⟩)) (h3 : a.tmps.getD 3 undef = .pointer (some ⟨g3, 0, none⟩)) (h4 : a.tmps.getD 4 undef = .bool true) (h5 : a.tmps.getD 5 undef = .slice (some ⟨gl, 0, none⟩) 2 2) (h7 : a.tmps.getD 7 undef = .int .i64 1) (hat : ∀ jj ∈ deps ((Tryz.f5.body.bind (regionOps 7)).getD #[]) 27, At (bfawSp p g3 gl) bfawDl a w jj) :
    wpOp Tryz.prog ((Tryz.f5.body.bind (regionOps 7)).getD #[]) Q 27 (fun a' w' => ∃ o v, bfawDl[27]? = some o ∧ a' = a.put o v ∧ Step noF w w' ∧ ∀ pp, (bfawSp p g3 gl)[27]? = some pp → pp.1 w' (o.elim undef fun _ => v)) a w := by
  have h63 : a.tmps.getD 63 undef = .bool true := dep hat 26 (by kernel_rfl) (is (.bool true)) 63 rfl rfl
  exact slot_runs (is (.bool true)) bfawOp27 rfl rfl (wants_none a) (runs_move (show a.eval _ = _ from h63)) (Step.refl _ _) rfl

theorem bfawStep28 (p g3 gl : Nat)  {Q : Exit → Act → World → Prop} (a : Act) (w : World) (v0 : w.cell? ⟨g3, 0, none⟩ = some (.int .i64 2)) (v1 : w.cell? ⟨g3, 1, none⟩ = some (.string (str [120]))) (v2 : w.cell? ⟨g3, 2, none⟩ = some (.string (str []))) (u0 : w.cell? ⟨gl, 0, none⟩ = some (.int .i64 5)) (u1 : w.cell? ⟨gl, 1, none⟩ = some (.int .i64 4)) (k38 : Calls Tryz.prog 17 #[.pointer (some ⟨p, 0, none⟩)] w fun e w' => e = .returned (.int .i64 2) ∧ Step noF w w') (k42 : Calls Tryz.prog 18 #[.pointer (some ⟨p, 0, none⟩)] w fun e w' => e = .returned (.int .i64 9) ∧ Step noF w w') (k47 : Calls Tryz.prog 28 #[.string (str [120])] w fun e w' => e = .returned (.agg #[.int .i64 2, .string (str [120]), .string (str [])]) ∧ Step noF w w') (k73 : ∀ a c, RowAt w noF a (texts [[109]]) → Calls Tryz.prog 13 #[.pointer (some ⟨p, 0, none⟩), .slice a 1 c] w fun e w' => e = .returned (.int .i64 0) ∧ Step noF w w') (k83 : Calls Tryz.prog 20 #[.pointer (some ⟨p, 0, none⟩), .agg #[.string (str []), .string (str [98])]] w fun e w' => ∃ v, e = .returned v ∧ Step noF w w' ∧ isMsB.1 w' v) (h1 : a.tmps.getD 1 undef = .pointer (some ⟨p, 0, none⟩)) (h3 : a.tmps.getD 3 undef = .pointer (some ⟨g3, 0, none⟩)) (h4 : a.tmps.getD 4 undef = .bool true) (h5 : a.tmps.getD 5 undef = .slice (some ⟨gl, 0, none⟩) 2 2) (h7 : a.tmps.getD 7 undef = .int .i64 1) (hat : ∀ jj ∈ deps ((Tryz.f5.body.bind (regionOps 7)).getD #[]) 28, At (bfawSp p g3 gl) bfawDl a w jj) :
    wpOp Tryz.prog ((Tryz.f5.body.bind (regionOps 7)).getD #[]) Q 28 (fun a' w' => ∃ o v, bfawDl[28]? = some o ∧ a' = a.put o v ∧ Step noF w w' ∧ ∀ pp, (bfawSp p g3 gl)[28]? = some pp → pp.1 w' (o.elim undef fun _ => v)) a w := by
  have h64 : a.tmps.getD 64 undef = .bool true := dep hat 27 (by kernel_rfl) (is (.bool true)) 64 rfl rfl
  exact slot_runs (is (.slice (some ⟨gl, 0, none⟩) 2 2)) bfawOp28 rfl rfl ((wants_some (d := 64) (b := true) (by kernel_rfl) h64)) (runs_move (show a.eval _ = _ from h5)) (Step.refl _ _) rfl

theorem bfawStep29 (p g3 gl : Nat)  {Q : Exit → Act → World → Prop} (a : Act) (w : World) (v0 : w.cell? ⟨g3, 0, none⟩ = some (.int .i64 2)) (v1 : w.cell? ⟨g3, 1, none⟩ = some (.string (str [120]))) (v2 : w.cell? ⟨g3, 2, none⟩ = some (.string (str []))) (u0 : w.cell? ⟨gl, 0, none⟩ = some (.int .i64 5)) (u1 : w.cell? ⟨gl, 1, none⟩ = some (.int .i64 4)) (k38 : Calls Tryz.prog 17 #[.pointer (some ⟨p, 0, none⟩)] w fun e w' => e = .returned (.int .i64 2) ∧ Step noF w w') (k42 : Calls Tryz.prog 18 #[.pointer (some ⟨p, 0, none⟩)] w fun e w' => e = .returned (.int .i64 9) ∧ Step noF w w') (k47 : Calls Tryz.prog 28 #[.string (str [120])] w fun e w' => e = .returned (.agg #[.int .i64 2, .string (str [120]), .string (str [])]) ∧ Step noF w w') (k73 : ∀ a c, RowAt w noF a (texts [[109]]) → Calls Tryz.prog 13 #[.pointer (some ⟨p, 0, none⟩), .slice a 1 c] w fun e w' => e = .returned (.int .i64 0) ∧ Step noF w w') (k83 : Calls Tryz.prog 20 #[.pointer (some ⟨p, 0, none⟩), .agg #[.string (str []), .string (str [98])]] w fun e w' => ∃ v, e = .returned v ∧ Step noF w w' ∧ isMsB.1 w' v) (h1 : a.tmps.getD 1 undef = .pointer (some ⟨p, 0, none⟩)) (h3 : a.tmps.getD 3 undef = .pointer (some ⟨g3, 0, none⟩)) (h4 : a.tmps.getD 4 undef = .bool true) (h5 : a.tmps.getD 5 undef = .slice (some ⟨gl, 0, none⟩) 2 2) (h7 : a.tmps.getD 7 undef = .int .i64 1) (hat : ∀ jj ∈ deps ((Tryz.f5.body.bind (regionOps 7)).getD #[]) 29, At (bfawSp p g3 gl) bfawDl a w jj) :
    wpOp Tryz.prog ((Tryz.f5.body.bind (regionOps 7)).getD #[]) Q 29 (fun a' w' => ∃ o v, bfawDl[29]? = some o ∧ a' = a.put o v ∧ Step noF w w' ∧ ∀ pp, (bfawSp p g3 gl)[29]? = some pp → pp.1 w' (o.elim undef fun _ => v)) a w := by
  have h64 : a.tmps.getD 64 undef = .bool true := dep hat 27 (by kernel_rfl) (is (.bool true)) 64 rfl rfl
  have h65 : a.tmps.getD 65 undef = .slice (some ⟨gl, 0, none⟩) 2 2 := dep hat 28 (by kernel_rfl) (is (.slice (some ⟨gl, 0, none⟩) 2 2)) 65 rfl rfl
  refine slot_runs (is (.pointer (some ⟨gl, 1, none⟩))) bfawOp29 rfl rfl ((wants_some (d := 64) (b := true) (by kernel_rfl) h64)) (v := .pointer (some ⟨gl, 1, none⟩)) (w' := w) ?_ (Step.refl _ _) rfl
  intro oo hoo
  simp only [execOp, hoo, Act.eval, Option.map_some, Option.map_none, h65]
  go_simp

theorem bfawStep30 (p g3 gl : Nat)  {Q : Exit → Act → World → Prop} (a : Act) (w : World) (v0 : w.cell? ⟨g3, 0, none⟩ = some (.int .i64 2)) (v1 : w.cell? ⟨g3, 1, none⟩ = some (.string (str [120]))) (v2 : w.cell? ⟨g3, 2, none⟩ = some (.string (str []))) (u0 : w.cell? ⟨gl, 0, none⟩ = some (.int .i64 5)) (u1 : w.cell? ⟨gl, 1, none⟩ = some (.int .i64 4)) (k38 : Calls Tryz.prog 17 #[.pointer (some ⟨p, 0, none⟩)] w fun e w' => e = .returned (.int .i64 2) ∧ Step noF w w') (k42 : Calls Tryz.prog 18 #[.pointer (some ⟨p, 0, none⟩)] w fun e w' => e = .returned (.int .i64 9) ∧ Step noF w w') (k47 : Calls Tryz.prog 28 #[.string (str [120])] w fun e w' => e = .returned (.agg #[.int .i64 2, .string (str [120]), .string (str [])]) ∧ Step noF w w') (k73 : ∀ a c, RowAt w noF a (texts [[109]]) → Calls Tryz.prog 13 #[.pointer (some ⟨p, 0, none⟩), .slice a 1 c] w fun e w' => e = .returned (.int .i64 0) ∧ Step noF w w') (k83 : Calls Tryz.prog 20 #[.pointer (some ⟨p, 0, none⟩), .agg #[.string (str []), .string (str [98])]] w fun e w' => ∃ v, e = .returned v ∧ Step noF w w' ∧ isMsB.1 w' v) (h1 : a.tmps.getD 1 undef = .pointer (some ⟨p, 0, none⟩)) (h3 : a.tmps.getD 3 undef = .pointer (some ⟨g3, 0, none⟩)) (h4 : a.tmps.getD 4 undef = .bool true) (h5 : a.tmps.getD 5 undef = .slice (some ⟨gl, 0, none⟩) 2 2) (h7 : a.tmps.getD 7 undef = .int .i64 1) (hat : ∀ jj ∈ deps ((Tryz.f5.body.bind (regionOps 7)).getD #[]) 30, At (bfawSp p g3 gl) bfawDl a w jj) :
    wpOp Tryz.prog ((Tryz.f5.body.bind (regionOps 7)).getD #[]) Q 30 (fun a' w' => ∃ o v, bfawDl[30]? = some o ∧ a' = a.put o v ∧ Step noF w w' ∧ ∀ pp, (bfawSp p g3 gl)[30]? = some pp → pp.1 w' (o.elim undef fun _ => v)) a w := by
  have h64 : a.tmps.getD 64 undef = .bool true := dep hat 27 (by kernel_rfl) (is (.bool true)) 64 rfl rfl
  have h66 : a.tmps.getD 66 undef = .pointer (some ⟨gl, 1, none⟩) := dep hat 29 (by kernel_rfl) (is (.pointer (some ⟨gl, 1, none⟩))) 66 rfl rfl
  refine slot_runs (is (.int .i64 4)) bfawOp30 rfl rfl ((wants_some (d := 64) (b := true) (by kernel_rfl) h64)) (v := .int .i64 4) (w' := w) ?_ (Step.refl _ _) rfl
  intro oo hoo
  simp only [execOp, hoo, Act.eval, Option.map_some, Option.map_none, h66]
  go_simp

theorem bfawStep31 (p g3 gl : Nat)  {Q : Exit → Act → World → Prop} (a : Act) (w : World) (v0 : w.cell? ⟨g3, 0, none⟩ = some (.int .i64 2)) (v1 : w.cell? ⟨g3, 1, none⟩ = some (.string (str [120]))) (v2 : w.cell? ⟨g3, 2, none⟩ = some (.string (str []))) (u0 : w.cell? ⟨gl, 0, none⟩ = some (.int .i64 5)) (u1 : w.cell? ⟨gl, 1, none⟩ = some (.int .i64 4)) (k38 : Calls Tryz.prog 17 #[.pointer (some ⟨p, 0, none⟩)] w fun e w' => e = .returned (.int .i64 2) ∧ Step noF w w') (k42 : Calls Tryz.prog 18 #[.pointer (some ⟨p, 0, none⟩)] w fun e w' => e = .returned (.int .i64 9) ∧ Step noF w w') (k47 : Calls Tryz.prog 28 #[.string (str [120])] w fun e w' => e = .returned (.agg #[.int .i64 2, .string (str [120]), .string (str [])]) ∧ Step noF w w') (k73 : ∀ a c, RowAt w noF a (texts [[109]]) → Calls Tryz.prog 13 #[.pointer (some ⟨p, 0, none⟩), .slice a 1 c] w fun e w' => e = .returned (.int .i64 0) ∧ Step noF w w') (k83 : Calls Tryz.prog 20 #[.pointer (some ⟨p, 0, none⟩), .agg #[.string (str []), .string (str [98])]] w fun e w' => ∃ v, e = .returned v ∧ Step noF w w' ∧ isMsB.1 w' v) (h1 : a.tmps.getD 1 undef = .pointer (some ⟨p, 0, none⟩)) (h3 : a.tmps.getD 3 undef = .pointer (some ⟨g3, 0, none⟩)) (h4 : a.tmps.getD 4 undef = .bool true) (h5 : a.tmps.getD 5 undef = .slice (some ⟨gl, 0, none⟩) 2 2) (h7 : a.tmps.getD 7 undef = .int .i64 1) (hat : ∀ jj ∈ deps ((Tryz.f5.body.bind (regionOps 7)).getD #[]) 31, At (bfawSp p g3 gl) bfawDl a w jj) :
    wpOp Tryz.prog ((Tryz.f5.body.bind (regionOps 7)).getD #[]) Q 31 (fun a' w' => ∃ o v, bfawDl[31]? = some o ∧ a' = a.put o v ∧ Step noF w w' ∧ ∀ pp, (bfawSp p g3 gl)[31]? = some pp → pp.1 w' (o.elim undef fun _ => v)) a w := by
  have h64 : a.tmps.getD 64 undef = .bool true := dep hat 27 (by kernel_rfl) (is (.bool true)) 64 rfl rfl
  have h67 : a.tmps.getD 67 undef = .int .i64 4 := dep hat 30 (by kernel_rfl) (is (.int .i64 4)) 67 rfl rfl
  refine slot_runs (is (.bool true)) bfawOp31 rfl rfl ((wants_some (d := 64) (b := true) (by kernel_rfl) h64)) (v := .bool true) (w' := w) ?_ (Step.refl _ _) rfl
  intro oo hoo
  simp only [execOp, hoo, Act.eval, Option.map_some, Option.map_none, h67]
  go_simp

theorem bfawStep32 (p g3 gl : Nat)  {Q : Exit → Act → World → Prop} (a : Act) (w : World) (v0 : w.cell? ⟨g3, 0, none⟩ = some (.int .i64 2)) (v1 : w.cell? ⟨g3, 1, none⟩ = some (.string (str [120]))) (v2 : w.cell? ⟨g3, 2, none⟩ = some (.string (str []))) (u0 : w.cell? ⟨gl, 0, none⟩ = some (.int .i64 5)) (u1 : w.cell? ⟨gl, 1, none⟩ = some (.int .i64 4)) (k38 : Calls Tryz.prog 17 #[.pointer (some ⟨p, 0, none⟩)] w fun e w' => e = .returned (.int .i64 2) ∧ Step noF w w') (k42 : Calls Tryz.prog 18 #[.pointer (some ⟨p, 0, none⟩)] w fun e w' => e = .returned (.int .i64 9) ∧ Step noF w w') (k47 : Calls Tryz.prog 28 #[.string (str [120])] w fun e w' => e = .returned (.agg #[.int .i64 2, .string (str [120]), .string (str [])]) ∧ Step noF w w') (k73 : ∀ a c, RowAt w noF a (texts [[109]]) → Calls Tryz.prog 13 #[.pointer (some ⟨p, 0, none⟩), .slice a 1 c] w fun e w' => e = .returned (.int .i64 0) ∧ Step noF w w') (k83 : Calls Tryz.prog 20 #[.pointer (some ⟨p, 0, none⟩), .agg #[.string (str []), .string (str [98])]] w fun e w' => ∃ v, e = .returned v ∧ Step noF w w' ∧ isMsB.1 w' v) (h1 : a.tmps.getD 1 undef = .pointer (some ⟨p, 0, none⟩)) (h3 : a.tmps.getD 3 undef = .pointer (some ⟨g3, 0, none⟩)) (h4 : a.tmps.getD 4 undef = .bool true) (h5 : a.tmps.getD 5 undef = .slice (some ⟨gl, 0, none⟩) 2 2) (h7 : a.tmps.getD 7 undef = .int .i64 1) (hat : ∀ jj ∈ deps ((Tryz.f5.body.bind (regionOps 7)).getD #[]) 32, At (bfawSp p g3 gl) bfawDl a w jj) :
    wpOp Tryz.prog ((Tryz.f5.body.bind (regionOps 7)).getD #[]) Q 32 (fun a' w' => ∃ o v, bfawDl[32]? = some o ∧ a' = a.put o v ∧ Step noF w w' ∧ ∀ pp, (bfawSp p g3 gl)[32]? = some pp → pp.1 w' (o.elim undef fun _ => v)) a w := by
  have h64 : a.tmps.getD 64 undef = .bool true := dep hat 27 (by kernel_rfl) (is (.bool true)) 64 rfl rfl
  have h68 : a.tmps.getD 68 undef = .bool true := dep hat 31 (by kernel_rfl) (is (.bool true)) 68 rfl rfl
  refine slot_runs (is (.bool true)) bfawOp32 rfl rfl (wants_none a) (v := .bool true) (w' := w) ?_ (Step.refl _ _) rfl
  intro oo hoo
  simp only [execOp, hoo, Act.eval, Option.map_some, Option.map_none, h64, h68]
  go_simp

theorem bfawStep33 (p g3 gl : Nat)  {Q : Exit → Act → World → Prop} (a : Act) (w : World) (v0 : w.cell? ⟨g3, 0, none⟩ = some (.int .i64 2)) (v1 : w.cell? ⟨g3, 1, none⟩ = some (.string (str [120]))) (v2 : w.cell? ⟨g3, 2, none⟩ = some (.string (str []))) (u0 : w.cell? ⟨gl, 0, none⟩ = some (.int .i64 5)) (u1 : w.cell? ⟨gl, 1, none⟩ = some (.int .i64 4)) (k38 : Calls Tryz.prog 17 #[.pointer (some ⟨p, 0, none⟩)] w fun e w' => e = .returned (.int .i64 2) ∧ Step noF w w') (k42 : Calls Tryz.prog 18 #[.pointer (some ⟨p, 0, none⟩)] w fun e w' => e = .returned (.int .i64 9) ∧ Step noF w w') (k47 : Calls Tryz.prog 28 #[.string (str [120])] w fun e w' => e = .returned (.agg #[.int .i64 2, .string (str [120]), .string (str [])]) ∧ Step noF w w') (k73 : ∀ a c, RowAt w noF a (texts [[109]]) → Calls Tryz.prog 13 #[.pointer (some ⟨p, 0, none⟩), .slice a 1 c] w fun e w' => e = .returned (.int .i64 0) ∧ Step noF w w') (k83 : Calls Tryz.prog 20 #[.pointer (some ⟨p, 0, none⟩), .agg #[.string (str []), .string (str [98])]] w fun e w' => ∃ v, e = .returned v ∧ Step noF w w' ∧ isMsB.1 w' v) (h1 : a.tmps.getD 1 undef = .pointer (some ⟨p, 0, none⟩)) (h3 : a.tmps.getD 3 undef = .pointer (some ⟨g3, 0, none⟩)) (h4 : a.tmps.getD 4 undef = .bool true) (h5 : a.tmps.getD 5 undef = .slice (some ⟨gl, 0, none⟩) 2 2) (h7 : a.tmps.getD 7 undef = .int .i64 1) (hat : ∀ jj ∈ deps ((Tryz.f5.body.bind (regionOps 7)).getD #[]) 33, At (bfawSp p g3 gl) bfawDl a w jj) :
    wpOp Tryz.prog ((Tryz.f5.body.bind (regionOps 7)).getD #[]) Q 33 (fun a' w' => ∃ o v, bfawDl[33]? = some o ∧ a' = a.put o v ∧ Step noF w w' ∧ ∀ pp, (bfawSp p g3 gl)[33]? = some pp → pp.1 w' (o.elim undef fun _ => v)) a w := by
  have h69 : a.tmps.getD 69 undef = .bool true := dep hat 32 (by kernel_rfl) (is (.bool true)) 69 rfl rfl
  exact slot_runs (is (.bool true)) bfawOp33 rfl rfl (wants_none a) (runs_move (show a.eval _ = _ from h69)) (Step.refl _ _) rfl

theorem bfawStep34 (p g3 gl : Nat)  {Q : Exit → Act → World → Prop} (a : Act) (w : World) (v0 : w.cell? ⟨g3, 0, none⟩ = some (.int .i64 2)) (v1 : w.cell? ⟨g3, 1, none⟩ = some (.string (str [120]))) (v2 : w.cell? ⟨g3, 2, none⟩ = some (.string (str []))) (u0 : w.cell? ⟨gl, 0, none⟩ = some (.int .i64 5)) (u1 : w.cell? ⟨gl, 1, none⟩ = some (.int .i64 4)) (k38 : Calls Tryz.prog 17 #[.pointer (some ⟨p, 0, none⟩)] w fun e w' => e = .returned (.int .i64 2) ∧ Step noF w w') (k42 : Calls Tryz.prog 18 #[.pointer (some ⟨p, 0, none⟩)] w fun e w' => e = .returned (.int .i64 9) ∧ Step noF w w') (k47 : Calls Tryz.prog 28 #[.string (str [120])] w fun e w' => e = .returned (.agg #[.int .i64 2, .string (str [120]), .string (str [])]) ∧ Step noF w w') (k73 : ∀ a c, RowAt w noF a (texts [[109]]) → Calls Tryz.prog 13 #[.pointer (some ⟨p, 0, none⟩), .slice a 1 c] w fun e w' => e = .returned (.int .i64 0) ∧ Step noF w w') (k83 : Calls Tryz.prog 20 #[.pointer (some ⟨p, 0, none⟩), .agg #[.string (str []), .string (str [98])]] w fun e w' => ∃ v, e = .returned v ∧ Step noF w w' ∧ isMsB.1 w' v) (h1 : a.tmps.getD 1 undef = .pointer (some ⟨p, 0, none⟩)) (h3 : a.tmps.getD 3 undef = .pointer (some ⟨g3, 0, none⟩)) (h4 : a.tmps.getD 4 undef = .bool true) (h5 : a.tmps.getD 5 undef = .slice (some ⟨gl, 0, none⟩) 2 2) (h7 : a.tmps.getD 7 undef = .int .i64 1) (hat : ∀ jj ∈ deps ((Tryz.f5.body.bind (regionOps 7)).getD #[]) 34, At (bfawSp p g3 gl) bfawDl a w jj) :
    wpOp Tryz.prog ((Tryz.f5.body.bind (regionOps 7)).getD #[]) Q 34 (fun a' w' => ∃ o v, bfawDl[34]? = some o ∧ a' = a.put o v ∧ Step noF w w' ∧ ∀ pp, (bfawSp p g3 gl)[34]? = some pp → pp.1 w' (o.elim undef fun _ => v)) a w := by
  have h70 : a.tmps.getD 70 undef = .bool true := dep hat 33 (by kernel_rfl) (is (.bool true)) 70 rfl rfl
  exact slot_runs (is (.pointer (some ⟨p, 0, none⟩))) bfawOp34 rfl rfl ((wants_some (d := 70) (b := true) (by kernel_rfl) h70)) (runs_move (show a.eval _ = _ from h1)) (Step.refl _ _) rfl

theorem bfawStep35 (p g3 gl : Nat)  {Q : Exit → Act → World → Prop} (a : Act) (w : World) (v0 : w.cell? ⟨g3, 0, none⟩ = some (.int .i64 2)) (v1 : w.cell? ⟨g3, 1, none⟩ = some (.string (str [120]))) (v2 : w.cell? ⟨g3, 2, none⟩ = some (.string (str []))) (u0 : w.cell? ⟨gl, 0, none⟩ = some (.int .i64 5)) (u1 : w.cell? ⟨gl, 1, none⟩ = some (.int .i64 4)) (k38 : Calls Tryz.prog 17 #[.pointer (some ⟨p, 0, none⟩)] w fun e w' => e = .returned (.int .i64 2) ∧ Step noF w w') (k42 : Calls Tryz.prog 18 #[.pointer (some ⟨p, 0, none⟩)] w fun e w' => e = .returned (.int .i64 9) ∧ Step noF w w') (k47 : Calls Tryz.prog 28 #[.string (str [120])] w fun e w' => e = .returned (.agg #[.int .i64 2, .string (str [120]), .string (str [])]) ∧ Step noF w w') (k73 : ∀ a c, RowAt w noF a (texts [[109]]) → Calls Tryz.prog 13 #[.pointer (some ⟨p, 0, none⟩), .slice a 1 c] w fun e w' => e = .returned (.int .i64 0) ∧ Step noF w w') (k83 : Calls Tryz.prog 20 #[.pointer (some ⟨p, 0, none⟩), .agg #[.string (str []), .string (str [98])]] w fun e w' => ∃ v, e = .returned v ∧ Step noF w w' ∧ isMsB.1 w' v) (h1 : a.tmps.getD 1 undef = .pointer (some ⟨p, 0, none⟩)) (h3 : a.tmps.getD 3 undef = .pointer (some ⟨g3, 0, none⟩)) (h4 : a.tmps.getD 4 undef = .bool true) (h5 : a.tmps.getD 5 undef = .slice (some ⟨gl, 0, none⟩) 2 2) (h7 : a.tmps.getD 7 undef = .int .i64 1) (hat : ∀ jj ∈ deps ((Tryz.f5.body.bind (regionOps 7)).getD #[]) 35, At (bfawSp p g3 gl) bfawDl a w jj) :
    wpOp Tryz.prog ((Tryz.f5.body.bind (regionOps 7)).getD #[]) Q 35 (fun a' w' => ∃ o v, bfawDl[35]? = some o ∧ a' = a.put o v ∧ Step noF w w' ∧ ∀ pp, (bfawSp p g3 gl)[35]? = some pp → pp.1 w' (o.elim undef fun _ => v)) a w := by
  have h70 : a.tmps.getD 70 undef = .bool true := dep hat 33 (by kernel_rfl) (is (.bool true)) 70 rfl rfl
  refine slot_runs (isTxB) bfawOp35 rfl rfl ((wants_some (d := 70) (b := true) (by kernel_rfl) h70)) (v := .slice (some ⟨w.heap.size, 0, none⟩) 1 1) (w' := (w.alloc (.cells #[.string (str [109])] 9))) ?_ ((Step.refl _ _).alloc _) ⟨_, _, rfl, tx_newB w _ _⟩
  intro oo hoo
  simp only [execOp, hoo, Act.eval, Option.map_some, Option.map_none]
  (go_simp; rfl)

theorem bfawStep36 (p g3 gl : Nat)  {Q : Exit → Act → World → Prop} (a : Act) (w : World) (v0 : w.cell? ⟨g3, 0, none⟩ = some (.int .i64 2)) (v1 : w.cell? ⟨g3, 1, none⟩ = some (.string (str [120]))) (v2 : w.cell? ⟨g3, 2, none⟩ = some (.string (str []))) (u0 : w.cell? ⟨gl, 0, none⟩ = some (.int .i64 5)) (u1 : w.cell? ⟨gl, 1, none⟩ = some (.int .i64 4)) (k38 : Calls Tryz.prog 17 #[.pointer (some ⟨p, 0, none⟩)] w fun e w' => e = .returned (.int .i64 2) ∧ Step noF w w') (k42 : Calls Tryz.prog 18 #[.pointer (some ⟨p, 0, none⟩)] w fun e w' => e = .returned (.int .i64 9) ∧ Step noF w w') (k47 : Calls Tryz.prog 28 #[.string (str [120])] w fun e w' => e = .returned (.agg #[.int .i64 2, .string (str [120]), .string (str [])]) ∧ Step noF w w') (k73 : ∀ a c, RowAt w noF a (texts [[109]]) → Calls Tryz.prog 13 #[.pointer (some ⟨p, 0, none⟩), .slice a 1 c] w fun e w' => e = .returned (.int .i64 0) ∧ Step noF w w') (k83 : Calls Tryz.prog 20 #[.pointer (some ⟨p, 0, none⟩), .agg #[.string (str []), .string (str [98])]] w fun e w' => ∃ v, e = .returned v ∧ Step noF w w' ∧ isMsB.1 w' v) (h1 : a.tmps.getD 1 undef = .pointer (some ⟨p, 0, none⟩)) (h3 : a.tmps.getD 3 undef = .pointer (some ⟨g3, 0, none⟩)) (h4 : a.tmps.getD 4 undef = .bool true) (h5 : a.tmps.getD 5 undef = .slice (some ⟨gl, 0, none⟩) 2 2) (h7 : a.tmps.getD 7 undef = .int .i64 1) (hat : ∀ jj ∈ deps ((Tryz.f5.body.bind (regionOps 7)).getD #[]) 36, At (bfawSp p g3 gl) bfawDl a w jj) :
    wpOp Tryz.prog ((Tryz.f5.body.bind (regionOps 7)).getD #[]) Q 36 (fun a' w' => ∃ o v, bfawDl[36]? = some o ∧ a' = a.put o v ∧ Step noF w w' ∧ ∀ pp, (bfawSp p g3 gl)[36]? = some pp → pp.1 w' (o.elim undef fun _ => v)) a w := by
  have h70 : a.tmps.getD 70 undef = .bool true := dep hat 33 (by kernel_rfl) (is (.bool true)) 70 rfl rfl
  have h71 : a.tmps.getD 71 undef = .pointer (some ⟨p, 0, none⟩) := dep hat 34 (by kernel_rfl) (is (.pointer (some ⟨p, 0, none⟩))) 71 rfl rfl
  obtain ⟨ta, tc, h72, hx72⟩ := dep hat 35 (by kernel_rfl) (isTxB) 72 rfl rfl
  refine slot_calls (is (.int .i64 0)) bfawOp36 rfl rfl ((wants_some (d := 70) (b := true) (by kernel_rfl) h70)) Tryz.func13 (by kernel_rfl) (by kernel_rfl) (by simp only [List.map_toArray, List.map_cons, List.map_nil, Act.eval, h71, h72]; rfl) ?_
  exact Calls.mono (k73 ta tc hx72) (fun e w' hh => ⟨_, hh.1, hh.2, rfl⟩)

theorem bfawStep37 (p g3 gl : Nat)  {Q : Exit → Act → World → Prop} (a : Act) (w : World) (v0 : w.cell? ⟨g3, 0, none⟩ = some (.int .i64 2)) (v1 : w.cell? ⟨g3, 1, none⟩ = some (.string (str [120]))) (v2 : w.cell? ⟨g3, 2, none⟩ = some (.string (str []))) (u0 : w.cell? ⟨gl, 0, none⟩ = some (.int .i64 5)) (u1 : w.cell? ⟨gl, 1, none⟩ = some (.int .i64 4)) (k38 : Calls Tryz.prog 17 #[.pointer (some ⟨p, 0, none⟩)] w fun e w' => e = .returned (.int .i64 2) ∧ Step noF w w') (k42 : Calls Tryz.prog 18 #[.pointer (some ⟨p, 0, none⟩)] w fun e w' => e = .returned (.int .i64 9) ∧ Step noF w w') (k47 : Calls Tryz.prog 28 #[.string (str [120])] w fun e w' => e = .returned (.agg #[.int .i64 2, .string (str [120]), .string (str [])]) ∧ Step noF w w') (k73 : ∀ a c, RowAt w noF a (texts [[109]]) → Calls Tryz.prog 13 #[.pointer (some ⟨p, 0, none⟩), .slice a 1 c] w fun e w' => e = .returned (.int .i64 0) ∧ Step noF w w') (k83 : Calls Tryz.prog 20 #[.pointer (some ⟨p, 0, none⟩), .agg #[.string (str []), .string (str [98])]] w fun e w' => ∃ v, e = .returned v ∧ Step noF w w' ∧ isMsB.1 w' v) (h1 : a.tmps.getD 1 undef = .pointer (some ⟨p, 0, none⟩)) (h3 : a.tmps.getD 3 undef = .pointer (some ⟨g3, 0, none⟩)) (h4 : a.tmps.getD 4 undef = .bool true) (h5 : a.tmps.getD 5 undef = .slice (some ⟨gl, 0, none⟩) 2 2) (h7 : a.tmps.getD 7 undef = .int .i64 1) (hat : ∀ jj ∈ deps ((Tryz.f5.body.bind (regionOps 7)).getD #[]) 37, At (bfawSp p g3 gl) bfawDl a w jj) :
    wpOp Tryz.prog ((Tryz.f5.body.bind (regionOps 7)).getD #[]) Q 37 (fun a' w' => ∃ o v, bfawDl[37]? = some o ∧ a' = a.put o v ∧ Step noF w w' ∧ ∀ pp, (bfawSp p g3 gl)[37]? = some pp → pp.1 w' (o.elim undef fun _ => v)) a w := by
  have h70 : a.tmps.getD 70 undef = .bool true := dep hat 33 (by kernel_rfl) (is (.bool true)) 70 rfl rfl
  have h73 : a.tmps.getD 73 undef = .int .i64 0 := dep hat 36 (by kernel_rfl) (is (.int .i64 0)) 73 rfl rfl
  refine slot_runs (is (.bool true)) bfawOp37 rfl rfl ((wants_some (d := 70) (b := true) (by kernel_rfl) h70)) (v := .bool true) (w' := w) ?_ (Step.refl _ _) rfl
  intro oo hoo
  simp only [execOp, hoo, Act.eval, Option.map_some, Option.map_none, h73]
  go_simp

theorem bfawStep38 (p g3 gl : Nat)  {Q : Exit → Act → World → Prop} (a : Act) (w : World) (v0 : w.cell? ⟨g3, 0, none⟩ = some (.int .i64 2)) (v1 : w.cell? ⟨g3, 1, none⟩ = some (.string (str [120]))) (v2 : w.cell? ⟨g3, 2, none⟩ = some (.string (str []))) (u0 : w.cell? ⟨gl, 0, none⟩ = some (.int .i64 5)) (u1 : w.cell? ⟨gl, 1, none⟩ = some (.int .i64 4)) (k38 : Calls Tryz.prog 17 #[.pointer (some ⟨p, 0, none⟩)] w fun e w' => e = .returned (.int .i64 2) ∧ Step noF w w') (k42 : Calls Tryz.prog 18 #[.pointer (some ⟨p, 0, none⟩)] w fun e w' => e = .returned (.int .i64 9) ∧ Step noF w w') (k47 : Calls Tryz.prog 28 #[.string (str [120])] w fun e w' => e = .returned (.agg #[.int .i64 2, .string (str [120]), .string (str [])]) ∧ Step noF w w') (k73 : ∀ a c, RowAt w noF a (texts [[109]]) → Calls Tryz.prog 13 #[.pointer (some ⟨p, 0, none⟩), .slice a 1 c] w fun e w' => e = .returned (.int .i64 0) ∧ Step noF w w') (k83 : Calls Tryz.prog 20 #[.pointer (some ⟨p, 0, none⟩), .agg #[.string (str []), .string (str [98])]] w fun e w' => ∃ v, e = .returned v ∧ Step noF w w' ∧ isMsB.1 w' v) (h1 : a.tmps.getD 1 undef = .pointer (some ⟨p, 0, none⟩)) (h3 : a.tmps.getD 3 undef = .pointer (some ⟨g3, 0, none⟩)) (h4 : a.tmps.getD 4 undef = .bool true) (h5 : a.tmps.getD 5 undef = .slice (some ⟨gl, 0, none⟩) 2 2) (h7 : a.tmps.getD 7 undef = .int .i64 1) (hat : ∀ jj ∈ deps ((Tryz.f5.body.bind (regionOps 7)).getD #[]) 38, At (bfawSp p g3 gl) bfawDl a w jj) :
    wpOp Tryz.prog ((Tryz.f5.body.bind (regionOps 7)).getD #[]) Q 38 (fun a' w' => ∃ o v, bfawDl[38]? = some o ∧ a' = a.put o v ∧ Step noF w w' ∧ ∀ pp, (bfawSp p g3 gl)[38]? = some pp → pp.1 w' (o.elim undef fun _ => v)) a w := by
  have h70 : a.tmps.getD 70 undef = .bool true := dep hat 33 (by kernel_rfl) (is (.bool true)) 70 rfl rfl
  have h74 : a.tmps.getD 74 undef = .bool true := dep hat 37 (by kernel_rfl) (is (.bool true)) 74 rfl rfl
  refine slot_runs (is (.bool true)) bfawOp38 rfl rfl (wants_none a) (v := .bool true) (w' := w) ?_ (Step.refl _ _) rfl
  intro oo hoo
  simp only [execOp, hoo, Act.eval, Option.map_some, Option.map_none, h70, h74]
  go_simp

theorem bfawStep39 (p g3 gl : Nat)  {Q : Exit → Act → World → Prop} (a : Act) (w : World) (v0 : w.cell? ⟨g3, 0, none⟩ = some (.int .i64 2)) (v1 : w.cell? ⟨g3, 1, none⟩ = some (.string (str [120]))) (v2 : w.cell? ⟨g3, 2, none⟩ = some (.string (str []))) (u0 : w.cell? ⟨gl, 0, none⟩ = some (.int .i64 5)) (u1 : w.cell? ⟨gl, 1, none⟩ = some (.int .i64 4)) (k38 : Calls Tryz.prog 17 #[.pointer (some ⟨p, 0, none⟩)] w fun e w' => e = .returned (.int .i64 2) ∧ Step noF w w') (k42 : Calls Tryz.prog 18 #[.pointer (some ⟨p, 0, none⟩)] w fun e w' => e = .returned (.int .i64 9) ∧ Step noF w w') (k47 : Calls Tryz.prog 28 #[.string (str [120])] w fun e w' => e = .returned (.agg #[.int .i64 2, .string (str [120]), .string (str [])]) ∧ Step noF w w') (k73 : ∀ a c, RowAt w noF a (texts [[109]]) → Calls Tryz.prog 13 #[.pointer (some ⟨p, 0, none⟩), .slice a 1 c] w fun e w' => e = .returned (.int .i64 0) ∧ Step noF w w') (k83 : Calls Tryz.prog 20 #[.pointer (some ⟨p, 0, none⟩), .agg #[.string (str []), .string (str [98])]] w fun e w' => ∃ v, e = .returned v ∧ Step noF w w' ∧ isMsB.1 w' v) (h1 : a.tmps.getD 1 undef = .pointer (some ⟨p, 0, none⟩)) (h3 : a.tmps.getD 3 undef = .pointer (some ⟨g3, 0, none⟩)) (h4 : a.tmps.getD 4 undef = .bool true) (h5 : a.tmps.getD 5 undef = .slice (some ⟨gl, 0, none⟩) 2 2) (h7 : a.tmps.getD 7 undef = .int .i64 1) (hat : ∀ jj ∈ deps ((Tryz.f5.body.bind (regionOps 7)).getD #[]) 39, At (bfawSp p g3 gl) bfawDl a w jj) :
    wpOp Tryz.prog ((Tryz.f5.body.bind (regionOps 7)).getD #[]) Q 39 (fun a' w' => ∃ o v, bfawDl[39]? = some o ∧ a' = a.put o v ∧ Step noF w w' ∧ ∀ pp, (bfawSp p g3 gl)[39]? = some pp → pp.1 w' (o.elim undef fun _ => v)) a w := by
  have h75 : a.tmps.getD 75 undef = .bool true := dep hat 38 (by kernel_rfl) (is (.bool true)) 75 rfl rfl
  exact slot_runs (is (.bool true)) bfawOp39 rfl rfl (wants_none a) (runs_move (show a.eval _ = _ from h75)) (Step.refl _ _) rfl

theorem bfawStep40 (p g3 gl : Nat)  {Q : Exit → Act → World → Prop} (a : Act) (w : World) (v0 : w.cell? ⟨g3, 0, none⟩ = some (.int .i64 2)) (v1 : w.cell? ⟨g3, 1, none⟩ = some (.string (str [120]))) (v2 : w.cell? ⟨g3, 2, none⟩ = some (.string (str []))) (u0 : w.cell? ⟨gl, 0, none⟩ = some (.int .i64 5)) (u1 : w.cell? ⟨gl, 1, none⟩ = some (.int .i64 4)) (k38 : Calls Tryz.prog 17 #[.pointer (some ⟨p, 0, none⟩)] w fun e w' => e = .returned (.int .i64 2) ∧ Step noF w w') (k42 : Calls Tryz.prog 18 #[.pointer (some ⟨p, 0, none⟩)] w fun e w' => e = .returned (.int .i64 9) ∧ Step noF w w') (k47 : Calls Tryz.prog 28 #[.string (str [120])] w fun e w' => e = .returned (.agg #[.int .i64 2, .string (str [120]), .string (str [])]) ∧ Step noF w w') (k73 : ∀ a c, RowAt w noF a (texts [[109]]) → Calls Tryz.prog 13 #[.pointer (some ⟨p, 0, none⟩), .slice a 1 c] w fun e w' => e = .returned (.int .i64 0) ∧ Step noF w w') (k83 : Calls Tryz.prog 20 #[.pointer (some ⟨p, 0, none⟩), .agg #[.string (str []), .string (str [98])]] w fun e w' => ∃ v, e = .returned v ∧ Step noF w w' ∧ isMsB.1 w' v) (h1 : a.tmps.getD 1 undef = .pointer (some ⟨p, 0, none⟩)) (h3 : a.tmps.getD 3 undef = .pointer (some ⟨g3, 0, none⟩)) (h4 : a.tmps.getD 4 undef = .bool true) (h5 : a.tmps.getD 5 undef = .slice (some ⟨gl, 0, none⟩) 2 2) (h7 : a.tmps.getD 7 undef = .int .i64 1) (hat : ∀ jj ∈ deps ((Tryz.f5.body.bind (regionOps 7)).getD #[]) 40, At (bfawSp p g3 gl) bfawDl a w jj) :
    wpOp Tryz.prog ((Tryz.f5.body.bind (regionOps 7)).getD #[]) Q 40 (fun a' w' => ∃ o v, bfawDl[40]? = some o ∧ a' = a.put o v ∧ Step noF w w' ∧ ∀ pp, (bfawSp p g3 gl)[40]? = some pp → pp.1 w' (o.elim undef fun _ => v)) a w := by
  have h76 : a.tmps.getD 76 undef = .bool true := dep hat 39 (by kernel_rfl) (is (.bool true)) 76 rfl rfl
  exact slot_runs (is (.int .i64 1)) bfawOp40 rfl rfl ((wants_some (d := 76) (b := true) (by kernel_rfl) h76)) (runs_move (show a.eval _ = _ from h7)) (Step.refl _ _) rfl

theorem bfawStep41 (p g3 gl : Nat)  {Q : Exit → Act → World → Prop} (a : Act) (w : World) (v0 : w.cell? ⟨g3, 0, none⟩ = some (.int .i64 2)) (v1 : w.cell? ⟨g3, 1, none⟩ = some (.string (str [120]))) (v2 : w.cell? ⟨g3, 2, none⟩ = some (.string (str []))) (u0 : w.cell? ⟨gl, 0, none⟩ = some (.int .i64 5)) (u1 : w.cell? ⟨gl, 1, none⟩ = some (.int .i64 4)) (k38 : Calls Tryz.prog 17 #[.pointer (some ⟨p, 0, none⟩)] w fun e w' => e = .returned (.int .i64 2) ∧ Step noF w w') (k42 : Calls Tryz.prog 18 #[.pointer (some ⟨p, 0, none⟩)] w fun e w' => e = .returned (.int .i64 9) ∧ Step noF w w') (k47 : Calls Tryz.prog 28 #[.string (str [120])] w fun e w' => e = .returned (.agg #[.int .i64 2, .string (str [120]), .string (str [])]) ∧ Step noF w w') (k73 : ∀ a c, RowAt w noF a (texts [[109]]) → Calls Tryz.prog 13 #[.pointer (some ⟨p, 0, none⟩), .slice a 1 c] w fun e w' => e = .returned (.int .i64 0) ∧ Step noF w w') (k83 : Calls Tryz.prog 20 #[.pointer (some ⟨p, 0, none⟩), .agg #[.string (str []), .string (str [98])]] w fun e w' => ∃ v, e = .returned v ∧ Step noF w w' ∧ isMsB.1 w' v) (h1 : a.tmps.getD 1 undef = .pointer (some ⟨p, 0, none⟩)) (h3 : a.tmps.getD 3 undef = .pointer (some ⟨g3, 0, none⟩)) (h4 : a.tmps.getD 4 undef = .bool true) (h5 : a.tmps.getD 5 undef = .slice (some ⟨gl, 0, none⟩) 2 2) (h7 : a.tmps.getD 7 undef = .int .i64 1) (hat : ∀ jj ∈ deps ((Tryz.f5.body.bind (regionOps 7)).getD #[]) 41, At (bfawSp p g3 gl) bfawDl a w jj) :
    wpOp Tryz.prog ((Tryz.f5.body.bind (regionOps 7)).getD #[]) Q 41 (fun a' w' => ∃ o v, bfawDl[41]? = some o ∧ a' = a.put o v ∧ Step noF w w' ∧ ∀ pp, (bfawSp p g3 gl)[41]? = some pp → pp.1 w' (o.elim undef fun _ => v)) a w := by
  have h76 : a.tmps.getD 76 undef = .bool true := dep hat 39 (by kernel_rfl) (is (.bool true)) 76 rfl rfl
  have h77 : a.tmps.getD 77 undef = .int .i64 1 := dep hat 40 (by kernel_rfl) (is (.int .i64 1)) 77 rfl rfl
  refine slot_runs (is (.bool true)) bfawOp41 rfl rfl ((wants_some (d := 76) (b := true) (by kernel_rfl) h76)) (v := .bool true) (w' := w) ?_ (Step.refl _ _) rfl
  intro oo hoo
  simp only [execOp, hoo, Act.eval, Option.map_some, Option.map_none, h77]
  go_simp

theorem bfawStep42 (p g3 gl : Nat)  {Q : Exit → Act → World → Prop} (a : Act) (w : World) (v0 : w.cell? ⟨g3, 0, none⟩ = some (.int .i64 2)) (v1 : w.cell? ⟨g3, 1, none⟩ = some (.string (str [120]))) (v2 : w.cell? ⟨g3, 2, none⟩ = some (.string (str []))) (u0 : w.cell? ⟨gl, 0, none⟩ = some (.int .i64 5)) (u1 : w.cell? ⟨gl, 1, none⟩ = some (.int .i64 4)) (k38 : Calls Tryz.prog 17 #[.pointer (some ⟨p, 0, none⟩)] w fun e w' => e = .returned (.int .i64 2) ∧ Step noF w w') (k42 : Calls Tryz.prog 18 #[.pointer (some ⟨p, 0, none⟩)] w fun e w' => e = .returned (.int .i64 9) ∧ Step noF w w') (k47 : Calls Tryz.prog 28 #[.string (str [120])] w fun e w' => e = .returned (.agg #[.int .i64 2, .string (str [120]), .string (str [])]) ∧ Step noF w w') (k73 : ∀ a c, RowAt w noF a (texts [[109]]) → Calls Tryz.prog 13 #[.pointer (some ⟨p, 0, none⟩), .slice a 1 c] w fun e w' => e = .returned (.int .i64 0) ∧ Step noF w w') (k83 : Calls Tryz.prog 20 #[.pointer (some ⟨p, 0, none⟩), .agg #[.string (str []), .string (str [98])]] w fun e w' => ∃ v, e = .returned v ∧ Step noF w w' ∧ isMsB.1 w' v) (h1 : a.tmps.getD 1 undef = .pointer (some ⟨p, 0, none⟩)) (h3 : a.tmps.getD 3 undef = .pointer (some ⟨g3, 0, none⟩)) (h4 : a.tmps.getD 4 undef = .bool true) (h5 : a.tmps.getD 5 undef = .slice (some ⟨gl, 0, none⟩) 2 2) (h7 : a.tmps.getD 7 undef = .int .i64 1) (hat : ∀ jj ∈ deps ((Tryz.f5.body.bind (regionOps 7)).getD #[]) 42, At (bfawSp p g3 gl) bfawDl a w jj) :
    wpOp Tryz.prog ((Tryz.f5.body.bind (regionOps 7)).getD #[]) Q 42 (fun a' w' => ∃ o v, bfawDl[42]? = some o ∧ a' = a.put o v ∧ Step noF w w' ∧ ∀ pp, (bfawSp p g3 gl)[42]? = some pp → pp.1 w' (o.elim undef fun _ => v)) a w := by
  have h76 : a.tmps.getD 76 undef = .bool true := dep hat 39 (by kernel_rfl) (is (.bool true)) 76 rfl rfl
  have h78 : a.tmps.getD 78 undef = .bool true := dep hat 41 (by kernel_rfl) (is (.bool true)) 78 rfl rfl
  refine slot_runs (is (.bool true)) bfawOp42 rfl rfl (wants_none a) (v := .bool true) (w' := w) ?_ (Step.refl _ _) rfl
  intro oo hoo
  simp only [execOp, hoo, Act.eval, Option.map_some, Option.map_none, h76, h78]
  go_simp

theorem bfawStep43 (p g3 gl : Nat)  {Q : Exit → Act → World → Prop} (a : Act) (w : World) (v0 : w.cell? ⟨g3, 0, none⟩ = some (.int .i64 2)) (v1 : w.cell? ⟨g3, 1, none⟩ = some (.string (str [120]))) (v2 : w.cell? ⟨g3, 2, none⟩ = some (.string (str []))) (u0 : w.cell? ⟨gl, 0, none⟩ = some (.int .i64 5)) (u1 : w.cell? ⟨gl, 1, none⟩ = some (.int .i64 4)) (k38 : Calls Tryz.prog 17 #[.pointer (some ⟨p, 0, none⟩)] w fun e w' => e = .returned (.int .i64 2) ∧ Step noF w w') (k42 : Calls Tryz.prog 18 #[.pointer (some ⟨p, 0, none⟩)] w fun e w' => e = .returned (.int .i64 9) ∧ Step noF w w') (k47 : Calls Tryz.prog 28 #[.string (str [120])] w fun e w' => e = .returned (.agg #[.int .i64 2, .string (str [120]), .string (str [])]) ∧ Step noF w w') (k73 : ∀ a c, RowAt w noF a (texts [[109]]) → Calls Tryz.prog 13 #[.pointer (some ⟨p, 0, none⟩), .slice a 1 c] w fun e w' => e = .returned (.int .i64 0) ∧ Step noF w w') (k83 : Calls Tryz.prog 20 #[.pointer (some ⟨p, 0, none⟩), .agg #[.string (str []), .string (str [98])]] w fun e w' => ∃ v, e = .returned v ∧ Step noF w w' ∧ isMsB.1 w' v) (h1 : a.tmps.getD 1 undef = .pointer (some ⟨p, 0, none⟩)) (h3 : a.tmps.getD 3 undef = .pointer (some ⟨g3, 0, none⟩)) (h4 : a.tmps.getD 4 undef = .bool true) (h5 : a.tmps.getD 5 undef = .slice (some ⟨gl, 0, none⟩) 2 2) (h7 : a.tmps.getD 7 undef = .int .i64 1) (hat : ∀ jj ∈ deps ((Tryz.f5.body.bind (regionOps 7)).getD #[]) 43, At (bfawSp p g3 gl) bfawDl a w jj) :
    wpOp Tryz.prog ((Tryz.f5.body.bind (regionOps 7)).getD #[]) Q 43 (fun a' w' => ∃ o v, bfawDl[43]? = some o ∧ a' = a.put o v ∧ Step noF w w' ∧ ∀ pp, (bfawSp p g3 gl)[43]? = some pp → pp.1 w' (o.elim undef fun _ => v)) a w := by
  have h79 : a.tmps.getD 79 undef = .bool true := dep hat 42 (by kernel_rfl) (is (.bool true)) 79 rfl rfl
  exact slot_runs (is (.bool true)) bfawOp43 rfl rfl (wants_none a) (runs_move (show a.eval _ = _ from h79)) (Step.refl _ _) rfl

theorem bfawStep44 (p g3 gl : Nat)  {Q : Exit → Act → World → Prop} (a : Act) (w : World) (v0 : w.cell? ⟨g3, 0, none⟩ = some (.int .i64 2)) (v1 : w.cell? ⟨g3, 1, none⟩ = some (.string (str [120]))) (v2 : w.cell? ⟨g3, 2, none⟩ = some (.string (str []))) (u0 : w.cell? ⟨gl, 0, none⟩ = some (.int .i64 5)) (u1 : w.cell? ⟨gl, 1, none⟩ = some (.int .i64 4)) (k38 : Calls Tryz.prog 17 #[.pointer (some ⟨p, 0, none⟩)] w fun e w' => e = .returned (.int .i64 2) ∧ Step noF w w') (k42 : Calls Tryz.prog 18 #[.pointer (some ⟨p, 0, none⟩)] w fun e w' => e = .returned (.int .i64 9) ∧ Step noF w w') (k47 : Calls Tryz.prog 28 #[.string (str [120])] w fun e w' => e = .returned (.agg #[.int .i64 2, .string (str [120]), .string (str [])]) ∧ Step noF w w') (k73 : ∀ a c, RowAt w noF a (texts [[109]]) → Calls Tryz.prog 13 #[.pointer (some ⟨p, 0, none⟩), .slice a 1 c] w fun e w' => e = .returned (.int .i64 0) ∧ Step noF w w') (k83 : Calls Tryz.prog 20 #[.pointer (some ⟨p, 0, none⟩), .agg #[.string (str []), .string (str [98])]] w fun e w' => ∃ v, e = .returned v ∧ Step noF w w' ∧ isMsB.1 w' v) (h1 : a.tmps.getD 1 undef = .pointer (some ⟨p, 0, none⟩)) (h3 : a.tmps.getD 3 undef = .pointer (some ⟨g3, 0, none⟩)) (h4 : a.tmps.getD 4 undef = .bool true) (h5 : a.tmps.getD 5 undef = .slice (some ⟨gl, 0, none⟩) 2 2) (h7 : a.tmps.getD 7 undef = .int .i64 1) (hat : ∀ jj ∈ deps ((Tryz.f5.body.bind (regionOps 7)).getD #[]) 44, At (bfawSp p g3 gl) bfawDl a w jj) :
    wpOp Tryz.prog ((Tryz.f5.body.bind (regionOps 7)).getD #[]) Q 44 (fun a' w' => ∃ o v, bfawDl[44]? = some o ∧ a' = a.put o v ∧ Step noF w w' ∧ ∀ pp, (bfawSp p g3 gl)[44]? = some pp → pp.1 w' (o.elim undef fun _ => v)) a w := by
  have h80 : a.tmps.getD 80 undef = .bool true := dep hat 43 (by kernel_rfl) (is (.bool true)) 80 rfl rfl
  exact slot_runs (is (.pointer (some ⟨p, 0, none⟩))) bfawOp44 rfl rfl ((wants_some (d := 80) (b := true) (by kernel_rfl) h80)) (runs_move (show a.eval _ = _ from h1)) (Step.refl _ _) rfl

theorem bfawStep45 (p g3 gl : Nat)  {Q : Exit → Act → World → Prop} (a : Act) (w : World) (v0 : w.cell? ⟨g3, 0, none⟩ = some (.int .i64 2)) (v1 : w.cell? ⟨g3, 1, none⟩ = some (.string (str [120]))) (v2 : w.cell? ⟨g3, 2, none⟩ = some (.string (str []))) (u0 : w.cell? ⟨gl, 0, none⟩ = some (.int .i64 5)) (u1 : w.cell? ⟨gl, 1, none⟩ = some (.int .i64 4)) (k38 : Calls Tryz.prog 17 #[.pointer (some ⟨p, 0, none⟩)] w fun e w' => e = .returned (.int .i64 2) ∧ Step noF w w') (k42 : Calls Tryz.prog 18 #[.pointer (some ⟨p, 0, none⟩)] w fun e w' => e = .returned (.int .i64 9) ∧ Step noF w w') (k47 : Calls Tryz.prog 28 #[.string (str [120])] w fun e w' => e = .returned (.agg #[.int .i64 2, .string (str [120]), .string (str [])]) ∧ Step noF w w') (k73 : ∀ a c, RowAt w noF a (texts [[109]]) → Calls Tryz.prog 13 #[.pointer (some ⟨p, 0, none⟩), .slice a 1 c] w fun e w' => e = .returned (.int .i64 0) ∧ Step noF w w') (k83 : Calls Tryz.prog 20 #[.pointer (some ⟨p, 0, none⟩), .agg #[.string (str []), .string (str [98])]] w fun e w' => ∃ v, e = .returned v ∧ Step noF w w' ∧ isMsB.1 w' v) (h1 : a.tmps.getD 1 undef = .pointer (some ⟨p, 0, none⟩)) (h3 : a.tmps.getD 3 undef = .pointer (some ⟨g3, 0, none⟩)) (h4 : a.tmps.getD 4 undef = .bool true) (h5 : a.tmps.getD 5 undef = .slice (some ⟨gl, 0, none⟩) 2 2) (h7 : a.tmps.getD 7 undef = .int .i64 1) (hat : ∀ jj ∈ deps ((Tryz.f5.body.bind (regionOps 7)).getD #[]) 45, At (bfawSp p g3 gl) bfawDl a w jj) :
    wpOp Tryz.prog ((Tryz.f5.body.bind (regionOps 7)).getD #[]) Q 45 (fun a' w' => ∃ o v, bfawDl[45]? = some o ∧ a' = a.put o v ∧ Step noF w w' ∧ ∀ pp, (bfawSp p g3 gl)[45]? = some pp → pp.1 w' (o.elim undef fun _ => v)) a w := by
  have h80 : a.tmps.getD 80 undef = .bool true := dep hat 43 (by kernel_rfl) (is (.bool true)) 80 rfl rfl
  refine slot_runs (is (.agg #[.string (str []), .string (str [98])])) bfawOp45 rfl rfl ((wants_some (d := 80) (b := true) (by kernel_rfl) h80)) (v := .agg #[.string (str []), .string (str [98])]) (w' := w) ?_ (Step.refl _ _) rfl
  intro oo hoo
  simp only [execOp, hoo, Act.eval, Option.map_some, Option.map_none]
  (go_simp; exact ⟨rfl, rfl⟩)

theorem bfawStep46 (p g3 gl : Nat)  {Q : Exit → Act → World → Prop} (a : Act) (w : World) (v0 : w.cell? ⟨g3, 0, none⟩ = some (.int .i64 2)) (v1 : w.cell? ⟨g3, 1, none⟩ = some (.string (str [120]))) (v2 : w.cell? ⟨g3, 2, none⟩ = some (.string (str []))) (u0 : w.cell? ⟨gl, 0, none⟩ = some (.int .i64 5)) (u1 : w.cell? ⟨gl, 1, none⟩ = some (.int .i64 4)) (k38 : Calls Tryz.prog 17 #[.pointer (some ⟨p, 0, none⟩)] w fun e w' => e = .returned (.int .i64 2) ∧ Step noF w w') (k42 : Calls Tryz.prog 18 #[.pointer (some ⟨p, 0, none⟩)] w fun e w' => e = .returned (.int .i64 9) ∧ Step noF w w') (k47 : Calls Tryz.prog 28 #[.string (str [120])] w fun e w' => e = .returned (.agg #[.int .i64 2, .string (str [120]), .string (str [])]) ∧ Step noF w w') (k73 : ∀ a c, RowAt w noF a (texts [[109]]) → Calls Tryz.prog 13 #[.pointer (some ⟨p, 0, none⟩), .slice a 1 c] w fun e w' => e = .returned (.int .i64 0) ∧ Step noF w w') (k83 : Calls Tryz.prog 20 #[.pointer (some ⟨p, 0, none⟩), .agg #[.string (str []), .string (str [98])]] w fun e w' => ∃ v, e = .returned v ∧ Step noF w w' ∧ isMsB.1 w' v) (h1 : a.tmps.getD 1 undef = .pointer (some ⟨p, 0, none⟩)) (h3 : a.tmps.getD 3 undef = .pointer (some ⟨g3, 0, none⟩)) (h4 : a.tmps.getD 4 undef = .bool true) (h5 : a.tmps.getD 5 undef = .slice (some ⟨gl, 0, none⟩) 2 2) (h7 : a.tmps.getD 7 undef = .int .i64 1) (hat : ∀ jj ∈ deps ((Tryz.f5.body.bind (regionOps 7)).getD #[]) 46, At (bfawSp p g3 gl) bfawDl a w jj) :
    wpOp Tryz.prog ((Tryz.f5.body.bind (regionOps 7)).getD #[]) Q 46 (fun a' w' => ∃ o v, bfawDl[46]? = some o ∧ a' = a.put o v ∧ Step noF w w' ∧ ∀ pp, (bfawSp p g3 gl)[46]? = some pp → pp.1 w' (o.elim undef fun _ => v)) a w := by
  have h80 : a.tmps.getD 80 undef = .bool true := dep hat 43 (by kernel_rfl) (is (.bool true)) 80 rfl rfl
  have h81 : a.tmps.getD 81 undef = .pointer (some ⟨p, 0, none⟩) := dep hat 44 (by kernel_rfl) (is (.pointer (some ⟨p, 0, none⟩))) 81 rfl rfl
  have h82 : a.tmps.getD 82 undef = .agg #[.string (str []), .string (str [98])] := dep hat 45 (by kernel_rfl) (is (.agg #[.string (str []), .string (str [98])])) 82 rfl rfl
  refine slot_calls (isMsB) bfawOp46 rfl rfl ((wants_some (d := 80) (b := true) (by kernel_rfl) h80)) Tryz.func20 (by kernel_rfl) (by kernel_rfl) (by simp only [List.map_toArray, List.map_cons, List.map_nil, Act.eval, h81, h82]; rfl) ?_
  exact k83

theorem bfawStep47 (p g3 gl : Nat)  {Q : Exit → Act → World → Prop} (a : Act) (w : World) (v0 : w.cell? ⟨g3, 0, none⟩ = some (.int .i64 2)) (v1 : w.cell? ⟨g3, 1, none⟩ = some (.string (str [120]))) (v2 : w.cell? ⟨g3, 2, none⟩ = some (.string (str []))) (u0 : w.cell? ⟨gl, 0, none⟩ = some (.int .i64 5)) (u1 : w.cell? ⟨gl, 1, none⟩ = some (.int .i64 4)) (k38 : Calls Tryz.prog 17 #[.pointer (some ⟨p, 0, none⟩)] w fun e w' => e = .returned (.int .i64 2) ∧ Step noF w w') (k42 : Calls Tryz.prog 18 #[.pointer (some ⟨p, 0, none⟩)] w fun e w' => e = .returned (.int .i64 9) ∧ Step noF w w') (k47 : Calls Tryz.prog 28 #[.string (str [120])] w fun e w' => e = .returned (.agg #[.int .i64 2, .string (str [120]), .string (str [])]) ∧ Step noF w w') (k73 : ∀ a c, RowAt w noF a (texts [[109]]) → Calls Tryz.prog 13 #[.pointer (some ⟨p, 0, none⟩), .slice a 1 c] w fun e w' => e = .returned (.int .i64 0) ∧ Step noF w w') (k83 : Calls Tryz.prog 20 #[.pointer (some ⟨p, 0, none⟩), .agg #[.string (str []), .string (str [98])]] w fun e w' => ∃ v, e = .returned v ∧ Step noF w w' ∧ isMsB.1 w' v) (h1 : a.tmps.getD 1 undef = .pointer (some ⟨p, 0, none⟩)) (h3 : a.tmps.getD 3 undef = .pointer (some ⟨g3, 0, none⟩)) (h4 : a.tmps.getD 4 undef = .bool true) (h5 : a.tmps.getD 5 undef = .slice (some ⟨gl, 0, none⟩) 2 2) (h7 : a.tmps.getD 7 undef = .int .i64 1) (hat : ∀ jj ∈ deps ((Tryz.f5.body.bind (regionOps 7)).getD #[]) 47, At (bfawSp p g3 gl) bfawDl a w jj) :
    wpOp Tryz.prog ((Tryz.f5.body.bind (regionOps 7)).getD #[]) Q 47 (fun a' w' => ∃ o v, bfawDl[47]? = some o ∧ a' = a.put o v ∧ Step noF w w' ∧ ∀ pp, (bfawSp p g3 gl)[47]? = some pp → pp.1 w' (o.elim undef fun _ => v)) a w := by
  have h80 : a.tmps.getD 80 undef = .bool true := dep hat 43 (by kernel_rfl) (is (.bool true)) 80 rfl rfl
  obtain ⟨ma, mc, h83, hx83⟩ := dep hat 46 (by kernel_rfl) (isMsB) 83 rfl rfl
  refine slot_runs (is (.int .i64 1)) bfawOp47 rfl rfl ((wants_some (d := 80) (b := true) (by kernel_rfl) h80)) (v := .int .i64 1) (w' := w) ?_ (Step.refl _ _) rfl
  intro oo hoo
  simp only [execOp, hoo, Act.eval, Option.map_some, Option.map_none, h83]
  go_simp

theorem bfawStep48 (p g3 gl : Nat)  {Q : Exit → Act → World → Prop} (a : Act) (w : World) (v0 : w.cell? ⟨g3, 0, none⟩ = some (.int .i64 2)) (v1 : w.cell? ⟨g3, 1, none⟩ = some (.string (str [120]))) (v2 : w.cell? ⟨g3, 2, none⟩ = some (.string (str []))) (u0 : w.cell? ⟨gl, 0, none⟩ = some (.int .i64 5)) (u1 : w.cell? ⟨gl, 1, none⟩ = some (.int .i64 4)) (k38 : Calls Tryz.prog 17 #[.pointer (some ⟨p, 0, none⟩)] w fun e w' => e = .returned (.int .i64 2) ∧ Step noF w w') (k42 : Calls Tryz.prog 18 #[.pointer (some ⟨p, 0, none⟩)] w fun e w' => e = .returned (.int .i64 9) ∧ Step noF w w') (k47 : Calls Tryz.prog 28 #[.string (str [120])] w fun e w' => e = .returned (.agg #[.int .i64 2, .string (str [120]), .string (str [])]) ∧ Step noF w w') (k73 : ∀ a c, RowAt w noF a (texts [[109]]) → Calls Tryz.prog 13 #[.pointer (some ⟨p, 0, none⟩), .slice a 1 c] w fun e w' => e = .returned (.int .i64 0) ∧ Step noF w w') (k83 : Calls Tryz.prog 20 #[.pointer (some ⟨p, 0, none⟩), .agg #[.string (str []), .string (str [98])]] w fun e w' => ∃ v, e = .returned v ∧ Step noF w w' ∧ isMsB.1 w' v) (h1 : a.tmps.getD 1 undef = .pointer (some ⟨p, 0, none⟩)) (h3 : a.tmps.getD 3 undef = .pointer (some ⟨g3, 0, none⟩)) (h4 : a.tmps.getD 4 undef = .bool true) (h5 : a.tmps.getD 5 undef = .slice (some ⟨gl, 0, none⟩) 2 2) (h7 : a.tmps.getD 7 undef = .int .i64 1) (hat : ∀ jj ∈ deps ((Tryz.f5.body.bind (regionOps 7)).getD #[]) 48, At (bfawSp p g3 gl) bfawDl a w jj) :
    wpOp Tryz.prog ((Tryz.f5.body.bind (regionOps 7)).getD #[]) Q 48 (fun a' w' => ∃ o v, bfawDl[48]? = some o ∧ a' = a.put o v ∧ Step noF w w' ∧ ∀ pp, (bfawSp p g3 gl)[48]? = some pp → pp.1 w' (o.elim undef fun _ => v)) a w := by
  have h80 : a.tmps.getD 80 undef = .bool true := dep hat 43 (by kernel_rfl) (is (.bool true)) 80 rfl rfl
  have h84 : a.tmps.getD 84 undef = .int .i64 1 := dep hat 47 (by kernel_rfl) (is (.int .i64 1)) 84 rfl rfl
  refine slot_runs (is (.bool true)) bfawOp48 rfl rfl ((wants_some (d := 80) (b := true) (by kernel_rfl) h80)) (v := .bool true) (w' := w) ?_ (Step.refl _ _) rfl
  intro oo hoo
  simp only [execOp, hoo, Act.eval, Option.map_some, Option.map_none, h84]
  go_simp

theorem bfawStep49 (p g3 gl : Nat)  {Q : Exit → Act → World → Prop} (a : Act) (w : World) (v0 : w.cell? ⟨g3, 0, none⟩ = some (.int .i64 2)) (v1 : w.cell? ⟨g3, 1, none⟩ = some (.string (str [120]))) (v2 : w.cell? ⟨g3, 2, none⟩ = some (.string (str []))) (u0 : w.cell? ⟨gl, 0, none⟩ = some (.int .i64 5)) (u1 : w.cell? ⟨gl, 1, none⟩ = some (.int .i64 4)) (k38 : Calls Tryz.prog 17 #[.pointer (some ⟨p, 0, none⟩)] w fun e w' => e = .returned (.int .i64 2) ∧ Step noF w w') (k42 : Calls Tryz.prog 18 #[.pointer (some ⟨p, 0, none⟩)] w fun e w' => e = .returned (.int .i64 9) ∧ Step noF w w') (k47 : Calls Tryz.prog 28 #[.string (str [120])] w fun e w' => e = .returned (.agg #[.int .i64 2, .string (str [120]), .string (str [])]) ∧ Step noF w w') (k73 : ∀ a c, RowAt w noF a (texts [[109]]) → Calls Tryz.prog 13 #[.pointer (some ⟨p, 0, none⟩), .slice a 1 c] w fun e w' => e = .returned (.int .i64 0) ∧ Step noF w w') (k83 : Calls Tryz.prog 20 #[.pointer (some ⟨p, 0, none⟩), .agg #[.string (str []), .string (str [98])]] w fun e w' => ∃ v, e = .returned v ∧ Step noF w w' ∧ isMsB.1 w' v) (h1 : a.tmps.getD 1 undef = .pointer (some ⟨p, 0, none⟩)) (h3 : a.tmps.getD 3 undef = .pointer (some ⟨g3, 0, none⟩)) (h4 : a.tmps.getD 4 undef = .bool true) (h5 : a.tmps.getD 5 undef = .slice (some ⟨gl, 0, none⟩) 2 2) (h7 : a.tmps.getD 7 undef = .int .i64 1) (hat : ∀ jj ∈ deps ((Tryz.f5.body.bind (regionOps 7)).getD #[]) 49, At (bfawSp p g3 gl) bfawDl a w jj) :
    wpOp Tryz.prog ((Tryz.f5.body.bind (regionOps 7)).getD #[]) Q 49 (fun a' w' => ∃ o v, bfawDl[49]? = some o ∧ a' = a.put o v ∧ Step noF w w' ∧ ∀ pp, (bfawSp p g3 gl)[49]? = some pp → pp.1 w' (o.elim undef fun _ => v)) a w := by
  have h80 : a.tmps.getD 80 undef = .bool true := dep hat 43 (by kernel_rfl) (is (.bool true)) 80 rfl rfl
  have h85 : a.tmps.getD 85 undef = .bool true := dep hat 48 (by kernel_rfl) (is (.bool true)) 85 rfl rfl
  refine slot_runs (is (.bool true)) bfawOp49 rfl rfl (wants_none a) (v := .bool true) (w' := w) ?_ (Step.refl _ _) rfl
  intro oo hoo
  simp only [execOp, hoo, Act.eval, Option.map_some, Option.map_none, h80, h85]
  go_simp

theorem bfawStep50 (p g3 gl : Nat)  {Q : Exit → Act → World → Prop} (a : Act) (w : World) (v0 : w.cell? ⟨g3, 0, none⟩ = some (.int .i64 2)) (v1 : w.cell? ⟨g3, 1, none⟩ = some (.string (str [120]))) (v2 : w.cell? ⟨g3, 2, none⟩ = some (.string (str []))) (u0 : w.cell? ⟨gl, 0, none⟩ = some (.int .i64 5)) (u1 : w.cell? ⟨gl, 1, none⟩ = some (.int .i64 4)) (k38 : Calls Tryz.prog 17 #[.pointer (some ⟨p, 0, none⟩)] w fun e w' => e = .returned (.int .i64 2) ∧ Step noF w w') (k42 : Calls Tryz.prog 18 #[.pointer (some ⟨p, 0, none⟩)] w fun e w' => e = .returned (.int .i64 9) ∧ Step noF w w') (k47 : Calls Tryz.prog 28 #[.string (str [120])] w fun e w' => e = .returned (.agg #[.int .i64 2, .string (str [120]), .string (str [])]) ∧ Step noF w w') (k73 : ∀ a c, RowAt w noF a (texts [[109]]) → Calls Tryz.prog 13 #[.pointer (some ⟨p, 0, none⟩), .slice a 1 c] w fun e w' => e = .returned (.int .i64 0) ∧ Step noF w w') (k83 : Calls Tryz.prog 20 #[.pointer (some ⟨p, 0, none⟩), .agg #[.string (str []), .string (str [98])]] w fun e w' => ∃ v, e = .returned v ∧ Step noF w w' ∧ isMsB.1 w' v) (h1 : a.tmps.getD 1 undef = .pointer (some ⟨p, 0, none⟩)) (h3 : a.tmps.getD 3 undef = .pointer (some ⟨g3, 0, none⟩)) (h4 : a.tmps.getD 4 undef = .bool true) (h5 : a.tmps.getD 5 undef = .slice (some ⟨gl, 0, none⟩) 2 2) (h7 : a.tmps.getD 7 undef = .int .i64 1) (hat : ∀ jj ∈ deps ((Tryz.f5.body.bind (regionOps 7)).getD #[]) 50, At (bfawSp p g3 gl) bfawDl a w jj) :
    wpOp Tryz.prog ((Tryz.f5.body.bind (regionOps 7)).getD #[]) Q 50 (fun a' w' => ∃ o v, bfawDl[50]? = some o ∧ a' = a.put o v ∧ Step noF w w' ∧ ∀ pp, (bfawSp p g3 gl)[50]? = some pp → pp.1 w' (o.elim undef fun _ => v)) a w := by
  have h86 : a.tmps.getD 86 undef = .bool true := dep hat 49 (by kernel_rfl) (is (.bool true)) 86 rfl rfl
  exact slot_runs (is (.bool true)) bfawOp50 rfl rfl (wants_none a) (runs_assign (show a.eval _ = _ from h86)) (Step.refl _ _) rfl

theorem bfaw_go (p g3 gl : Nat)  {Q : Exit → Act → World → Prop} (a0 : Act) (w0 : World) (hsz : a0.tmps.size = 87) (h1 : a0.tmps.getD 1 undef = .pointer (some ⟨p, 0, none⟩)) (h3 : a0.tmps.getD 3 undef = .pointer (some ⟨g3, 0, none⟩)) (h4 : a0.tmps.getD 4 undef = .bool true) (h5 : a0.tmps.getD 5 undef = .slice (some ⟨gl, 0, none⟩) 2 2) (h7 : a0.tmps.getD 7 undef = .int .i64 1)
    (hw : ∀ w, Step noF w0 w → (w.cell? ⟨g3, 0, none⟩ = some (.int .i64 2)) ∧ (w.cell? ⟨g3, 1, none⟩ = some (.string (str [120]))) ∧ (w.cell? ⟨g3, 2, none⟩ = some (.string (str []))) ∧ (w.cell? ⟨gl, 0, none⟩ = some (.int .i64 5)) ∧ (w.cell? ⟨gl, 1, none⟩ = some (.int .i64 4)) ∧ (Calls Tryz.prog 17 #[.pointer (some ⟨p, 0, none⟩)] w fun e w' => e = .returned (.int .i64 2) ∧ Step noF w w') ∧ (Calls Tryz.prog 18 #[.pointer (some ⟨p, 0, none⟩)] w fun e w' => e = .returned (.int .i64 9) ∧ Step noF w w') ∧ (Calls Tryz.prog 28 #[.string (str [120])] w fun e w' => e = .returned (.agg #[.int .i64 2, .string (str [120]), .string (str [])]) ∧ Step noF w w') ∧ (∀ a c, RowAt w noF a (texts [[109]]) → Calls Tryz.prog 13 #[.pointer (some ⟨p, 0, none⟩), .slice a 1 c] w fun e w' => e = .returned (.int .i64 0) ∧ Step noF w w') ∧ (Calls Tryz.prog 20 #[.pointer (some ⟨p, 0, none⟩), .agg #[.string (str []), .string (str [98])]] w fun e w' => ∃ v, e = .returned v ∧ Step noF w w' ∧ isMsB.1 w' v))
    (hK : ∀ (a : Act) (w : World), Step noF w0 w → a.defers = a0.defers → a.tmps.size = a0.tmps.size → (∀ k, some k ∉ bfawDl → a.tmps.getD k undef = a0.tmps.getD k undef) → a.tmps.getD 0 undef = .bool true → Q .normal a w) : (Code.region 7 ((Tryz.f5.body.bind (regionOps 7)).getD #[]) true).wp Tryz.prog Q a0 w0 := by
  refine wp_region_slots2 noF (bfawSp p g3 gl) bfawDl (by kernel_rfl) bfaw_back bfaw_dl bfaw_nd (fun d h => by rw [hsz]; exact bfaw_lt d h) ?_ ?_
  · intro ix hix a w hs hfr hat
    rw [bfaw_size] at hix
    obtain ⟨v0, v1, v2, u0, u1, k38, k42, k47, k73, k83⟩ := hw w hs
    have h1 := (hfr 1 (by decide)).trans h1
    have h3 := (hfr 3 (by decide)).trans h3
    have h4 := (hfr 4 (by decide)).trans h4
    have h5 := (hfr 5 (by decide)).trans h5
    have h7 := (hfr 7 (by decide)).trans h7
    match ix, hix with
    | 0, _ => exact bfawStep0 p g3 gl  a w v0 v1 v2 u0 u1 k38 k42 k47 k73 k83 h1 h3 h4 h5 h7 hat
    | 1, _ => exact bfawStep1 p g3 gl  a w v0 v1 v2 u0 u1 k38 k42 k47 k73 k83 h1 h3 h4 h5 h7 hat
    | 2, _ => exact bfawStep2 p g3 gl  a w v0 v1 v2 u0 u1 k38 k42 k47 k73 k83 h1 h3 h4 h5 h7 hat
    | 3, _ => exact bfawStep3 p g3 gl  a w v0 v1 v2 u0 u1 k38 k42 k47 k73 k83 h1 h3 h4 h5 h7 hat
    | 4, _ => exact bfawStep4 p g3 gl  a w v0 v1 v2 u0 u1 k38 k42 k47 k73 k83 h1 h3 h4 h5 h7 hat
    | 5, _ => exact bfawStep5 p g3 gl  a w v0 v1 v2 u0 u1 k38 k42 k47 k73 k83 h1 h3 h4 h5 h7 hat
    | 6, _ => exact bfawStep6 p g3 gl  a w v0 v1 v2 u0 u1 k38 k42 k47 k73 k83 h1 h3 h4 h5 h7 hat
    | 7, _ => exact bfawStep7 p g3 gl  a w v0 v1 v2 u0 u1 k38 k42 k47 k73 k83 h1 h3 h4 h5 h7 hat
    | 8, _ => exact bfawStep8 p g3 gl  a w v0 v1 v2 u0 u1 k38 k42 k47 k73 k83 h1 h3 h4 h5 h7 hat
    | 9, _ => exact bfawStep9 p g3 gl  a w v0 v1 v2 u0 u1 k38 k42 k47 k73 k83 h1 h3 h4 h5 h7 hat
    | 10, _ => exact bfawStep10 p g3 gl  a w v0 v1 v2 u0 u1 k38 k42 k47 k73 k83 h1 h3 h4 h5 h7 hat
    | 11, _ => exact bfawStep11 p g3 gl  a w v0 v1 v2 u0 u1 k38 k42 k47 k73 k83 h1 h3 h4 h5 h7 hat
    | 12, _ => exact bfawStep12 p g3 gl  a w v0 v1 v2 u0 u1 k38 k42 k47 k73 k83 h1 h3 h4 h5 h7 hat
    | 13, _ => exact bfawStep13 p g3 gl  a w v0 v1 v2 u0 u1 k38 k42 k47 k73 k83 h1 h3 h4 h5 h7 hat
    | 14, _ => exact bfawStep14 p g3 gl  a w v0 v1 v2 u0 u1 k38 k42 k47 k73 k83 h1 h3 h4 h5 h7 hat
    | 15, _ => exact bfawStep15 p g3 gl  a w v0 v1 v2 u0 u1 k38 k42 k47 k73 k83 h1 h3 h4 h5 h7 hat
    | 16, _ => exact bfawStep16 p g3 gl  a w v0 v1 v2 u0 u1 k38 k42 k47 k73 k83 h1 h3 h4 h5 h7 hat
    | 17, _ => exact bfawStep17 p g3 gl  a w v0 v1 v2 u0 u1 k38 k42 k47 k73 k83 h1 h3 h4 h5 h7 hat
    | 18, _ => exact bfawStep18 p g3 gl  a w v0 v1 v2 u0 u1 k38 k42 k47 k73 k83 h1 h3 h4 h5 h7 hat
    | 19, _ => exact bfawStep19 p g3 gl  a w v0 v1 v2 u0 u1 k38 k42 k47 k73 k83 h1 h3 h4 h5 h7 hat
    | 20, _ => exact bfawStep20 p g3 gl  a w v0 v1 v2 u0 u1 k38 k42 k47 k73 k83 h1 h3 h4 h5 h7 hat
    | 21, _ => exact bfawStep21 p g3 gl  a w v0 v1 v2 u0 u1 k38 k42 k47 k73 k83 h1 h3 h4 h5 h7 hat
    | 22, _ => exact bfawStep22 p g3 gl  a w v0 v1 v2 u0 u1 k38 k42 k47 k73 k83 h1 h3 h4 h5 h7 hat
    | 23, _ => exact bfawStep23 p g3 gl  a w v0 v1 v2 u0 u1 k38 k42 k47 k73 k83 h1 h3 h4 h5 h7 hat
    | 24, _ => exact bfawStep24 p g3 gl  a w v0 v1 v2 u0 u1 k38 k42 k47 k73 k83 h1 h3 h4 h5 h7 hat
    | 25, _ => exact bfawStep25 p g3 gl  a w v0 v1 v2 u0 u1 k38 k42 k47 k73 k83 h1 h3 h4 h5 h7 hat
    | 26, _ => exact bfawStep26 p g3 gl  a w v0 v1 v2 u0 u1 k38 k42 k47 k73 k83 h1 h3 h4 h5 h7 hat
    | 27, _ => exact bfawStep27 p g3 gl  a w v0 v1 v2 u0 u1 k38 k42 k47 k73 k83 h1 h3 h4 h5 h7 hat
    | 28, _ => exact bfawStep28 p g3 gl  a w v0 v1 v2 u0 u1 k38 k42 k47 k73 k83 h1 h3 h4 h5 h7 hat
    | 29, _ => exact bfawStep29 p g3 gl  a w v0 v1 v2 u0 u1 k38 k42 k47 k73 k83 h1 h3 h4 h5 h7 hat
    | 30, _ => exact bfawStep30 p g3 gl  a w v0 v1 v2 u0 u1 k38 k42 k47 k73 k83 h1 h3 h4 h5 h7 hat
    | 31, _ => exact bfawStep31 p g3 gl  a w v0 v1 v2 u0 u1 k38 k42 k47 k73 k83 h1 h3 h4 h5 h7 hat
    | 32, _ => exact bfawStep32 p g3 gl  a w v0 v1 v2 u0 u1 k38 k42 k47 k73 k83 h1 h3 h4 h5 h7 hat
    | 33, _ => exact bfawStep33 p g3 gl  a w v0 v1 v2 u0 u1 k38 k42 k47 k73 k83 h1 h3 h4 h5 h7 hat
    | 34, _ => exact bfawStep34 p g3 gl  a w v0 v1 v2 u0 u1 k38 k42 k47 k73 k83 h1 h3 h4 h5 h7 hat
    | 35, _ => exact bfawStep35 p g3 gl  a w v0 v1 v2 u0 u1 k38 k42 k47 k73 k83 h1 h3 h4 h5 h7 hat
    | 36, _ => exact bfawStep36 p g3 gl  a w v0 v1 v2 u0 u1 k38 k42 k47 k73 k83 h1 h3 h4 h5 h7 hat
    | 37, _ => exact bfawStep37 p g3 gl  a w v0 v1 v2 u0 u1 k38 k42 k47 k73 k83 h1 h3 h4 h5 h7 hat
    | 38, _ => exact bfawStep38 p g3 gl  a w v0 v1 v2 u0 u1 k38 k42 k47 k73 k83 h1 h3 h4 h5 h7 hat
    | 39, _ => exact bfawStep39 p g3 gl  a w v0 v1 v2 u0 u1 k38 k42 k47 k73 k83 h1 h3 h4 h5 h7 hat
    | 40, _ => exact bfawStep40 p g3 gl  a w v0 v1 v2 u0 u1 k38 k42 k47 k73 k83 h1 h3 h4 h5 h7 hat
    | 41, _ => exact bfawStep41 p g3 gl  a w v0 v1 v2 u0 u1 k38 k42 k47 k73 k83 h1 h3 h4 h5 h7 hat
    | 42, _ => exact bfawStep42 p g3 gl  a w v0 v1 v2 u0 u1 k38 k42 k47 k73 k83 h1 h3 h4 h5 h7 hat
    | 43, _ => exact bfawStep43 p g3 gl  a w v0 v1 v2 u0 u1 k38 k42 k47 k73 k83 h1 h3 h4 h5 h7 hat
    | 44, _ => exact bfawStep44 p g3 gl  a w v0 v1 v2 u0 u1 k38 k42 k47 k73 k83 h1 h3 h4 h5 h7 hat
    | 45, _ => exact bfawStep45 p g3 gl  a w v0 v1 v2 u0 u1 k38 k42 k47 k73 k83 h1 h3 h4 h5 h7 hat
    | 46, _ => exact bfawStep46 p g3 gl  a w v0 v1 v2 u0 u1 k38 k42 k47 k73 k83 h1 h3 h4 h5 h7 hat
    | 47, _ => exact bfawStep47 p g3 gl  a w v0 v1 v2 u0 u1 k38 k42 k47 k73 k83 h1 h3 h4 h5 h7 hat
    | 48, _ => exact bfawStep48 p g3 gl  a w v0 v1 v2 u0 u1 k38 k42 k47 k73 k83 h1 h3 h4 h5 h7 hat
    | 49, _ => exact bfawStep49 p g3 gl  a w v0 v1 v2 u0 u1 k38 k42 k47 k73 k83 h1 h3 h4 h5 h7 hat
    | 50, _ => exact bfawStep50 p g3 gl  a w v0 v1 v2 u0 u1 k38 k42 k47 k73 k83 h1 h3 h4 h5 h7 hat
    | k + 51, h => exact absurd h (by omega)
  · intro a w hs hd hz hfr hat
    exact hK a w hs hd hz hfr (hat 50 (by rw [bfaw_size]; decide) (is (.bool true)) (some 0) rfl rfl)
end Go.Proofs.YtipgbpopcamllaaGreat
namespace Go.Proofs.YtipgbpopcamllaaGreat
open Go.RowKit Go.Sort
set_option linter.unusedVariables false
set_option linter.unusedSimpArgs false
set_option maxRecDepth 20000

def bwL : List Mg := [⟨1, [120], [49]⟩, ⟨1, [97], [50]⟩, ⟨2, [120], []⟩]
def bwB : List Mg := [⟨1, [97], [50]⟩, ⟨2, [120], []⟩]
theorem bw_is : bwL.all Mg.is = true := by decide
theorem bw_puts : putsM bwL [] = bwB := (sameM_iff _ _).1 (by decide)
theorem bw_good : GoodM bwB := List.all_eq_true.1 (show bwB.all Mg.is = true by decide)
theorem bw_rising : RisingM bwB := by simp [RisingM, bwB]; decide
theorem bw_loads : loadsM [[109]] bwB = [5, 4] := by decide
theorem bw_best : bestZ [5, 4] 2 = 0 := by decide
theorem bw_take : (takeM ⟨[], [98]⟩ bwB).length = 1 := by decide
theorem bw_find : findMV [120] bwB = .tuple #[.agg #[.int .i64 2, .string (str [120]), .string (str [])], .bool true] := rfl
theorem bw_small : SmallM bwB := good_small bw_good (by simp [bwB])
theorem ms3_new (w : World) (a b c : Mg) : MsgsAt (w.alloc (.cells #[.int .i64 a.kind, .string (str a.key), .string (str a.val), .int .i64 b.kind, .string (str b.key), .string (str b.val), .int .i64 c.kind, .string (str c.key), .string (str c.val)] 40)) noF (some ⟨w.heap.size, 0, none⟩) [a, b, c] := by
  have hb := block_alloc_new w (.cells #[.int .i64 a.kind, .string (str a.key), .string (str a.val), .int .i64 b.kind, .string (str b.key), .string (str b.val), .int .i64 c.kind, .string (str c.key), .string (str c.val)] 40)
  refine .inr ⟨w.heap.size, 0, rfl, fun h => h, lt_of_block hb, fun j hj => ?_⟩
  have : j = 0 ∨ j = 1 ∨ j = 2 := by simp at hj; omega
  rcases this with rfl | rfl | rfl
  · exact ⟨by rw [cell_of_block hb]; rfl, by rw [cell_of_block hb]; rfl, by rw [cell_of_block hb]; rfl⟩
  · exact ⟨by rw [cell_of_block hb]; rfl, by rw [cell_of_block hb]; rfl, by rw [cell_of_block hb]; rfl⟩
  · exact ⟨by rw [cell_of_block hb]; rfl, by rw [cell_of_block hb]; rfl, by rw [cell_of_block hb]; rfl⟩
theorem tx1_new (w : World) (t : TypeId) (x : List UInt8) : RowAt (w.alloc (.cells #[.string (str x)] t)) noF (some ⟨w.heap.size, 0, none⟩) (texts [x]) := tx_newB w t x

set_option maxHeartbeats 4000000 in
theorem awakeB_any (w : World) : Calls Tryz.prog 5 #[] w fun e w' => e = .returned (.bool true) ∧ Step noF w w' := by
  have i1 : ∀ w, Calls Tryz.prog 27 #[.string ⟨#[120]⟩, .string ⟨#[49]⟩] w fun e w' => e = .returned (.agg #[.int .i64 1, .string ⟨#[120]⟩, .string ⟨#[49]⟩]) ∧ Step noF w w' := fun w => ofPut_any [120] [49] w
  have i2 : ∀ w, Calls Tryz.prog 27 #[.string ⟨#[97]⟩, .string ⟨#[50]⟩] w fun e w' => e = .returned (.agg #[.int .i64 1, .string ⟨#[97]⟩, .string ⟨#[50]⟩]) ∧ Step noF w w' := fun w => ofPut_any [97] [50] w
  have i3 : ∀ w, Calls Tryz.prog 28 #[.string ⟨#[120]⟩] w fun e w' => e = .returned (.agg #[.int .i64 2, .string ⟨#[120]⟩, .string ⟨#[]⟩]) ∧ Step noF w w' := fun w => ofDel_any [120] w
  have cO : ∀ w : World, Calls Tryz.prog 8 #[.slice (some ⟨w.heap.size, 0, none⟩) 3 3] (w.alloc (.cells #[.int .i64 1, .string ⟨#[120]⟩, .string ⟨#[49]⟩, .int .i64 1, .string ⟨#[97]⟩, .string ⟨#[50]⟩, .int .i64 2, .string ⟨#[120]⟩, .string ⟨#[]⟩] 40)) fun e w' => ∃ p, e = .returned (.tuple #[.pointer (some ⟨p, 0, none⟩), .int .i64 0]) ∧ Hid (BuffAt w' p bwB) ∧ Hid (Step noF w w') := fun w => by
    refine (ofB_any bwL (fun m hm => Mg.val_max (List.all_eq_true.1 bw_is m hm)) (by simp [bwL]) _ 3 (by intro h; cases h) _ (ms3_new w _ _ _)).mono ?_
    rintro e w' ⟨h, s⟩
    rcases h with ⟨h, _⟩ | ⟨_, p, rfl, hb⟩
    · rw [bw_is] at h; cases h
    · rw [bw_puts] at hb
      exact ⟨p, rfl, hb, ((Step.refl noF w).alloc _).trans s⟩
  have cF : ∀ p w, BuffAt w p bwB → Calls Tryz.prog 16 #[.pointer (some ⟨p, 0, none⟩), .string ⟨#[120]⟩] w fun e w' => e = .returned (.tuple #[.agg #[.int .i64 2, .string (str [120]), .string (str [])], .bool true]) ∧ Step noF w w' := fun p w h => findB_any p bwB (by simp [bwB]) bw_rising [120] w h
  have cL : ∀ p w h', h' = w.heap.size → BuffAt w p bwB → Calls Tryz.prog 11 #[.pointer (some ⟨p, 0, none⟩), .slice (some ⟨h', 0, none⟩) 1 1] (w.alloc (.cells #[.string ⟨#[109]⟩] 9)) fun e w' => ∃ g, e = .returned (.slice (some ⟨g, 0, none⟩) 2 2) ∧ w'.cell? ⟨g, 0, none⟩ = some (.int .i64 5) ∧ w'.cell? ⟨g, 1, none⟩ = some (.int .i64 4) ∧ Hid (Step noF w w') := fun p w h' e h => by
    subst e
    have st := (Step.refl noF w).alloc (.cells #[.string ⟨#[109]⟩] 9)
    refine (loadsB_any p bwB bw_small bw_rising bw_good [[109]] (by simp) _ 1 _ (h.step st) (tx1_new w _ [109])).mono ?_
    rintro e w' ⟨⟨g, rfl, ho⟩, s⟩
    have hr := (owns_rowIn2 ho).1
    rw [bw_loads] at hr
    exact ⟨g, rfl, hr.cell 0 (by simp [intsOf]), hr.cell 1 (by simp [intsOf]), st.trans s⟩
  have cW : ∀ p w h', h' = w.heap.size → BuffAt w p bwB → Calls Tryz.prog 15 #[.pointer (some ⟨p, 0, none⟩), .slice (some ⟨h', 0, none⟩) 1 1] (w.alloc (.cells #[.int .i64 0, .string ⟨#[]⟩, .string ⟨#[]⟩] 40)) fun e w' => e = .returned (.tuple #[.pointer none, .int .i64 1]) ∧ Hid (Step noF w w') := fun p w h' e h => by
    subst e
    have st := (Step.refl noF w).alloc (.cells #[.int .i64 0, .string ⟨#[]⟩, .string ⟨#[]⟩] 40)
    refine (withB_any p bwB bw_rising bw_good [⟨0, [], []⟩] (fun m hm => by simp at hm; subst hm; simp) (by simp [bwB]) _ 1 (by intro h; cases h) _ (h.step st) (msB_new w 0 [] [])).mono ?_
    rintro e w' ⟨h, s⟩
    rcases h with ⟨_, rfl⟩ | ⟨h, _⟩
    · exact ⟨rfl, st.trans s⟩
    · exact absurd h (by decide)
  go_enter Tryz.func5, Tryz.ntmps5
  go_wp2_with fail
  refine (i1 _).mono ?_
  rintro e w1 ⟨rfl, s1⟩
  go_wp2_with fail
  refine (i2 _).mono ?_
  rintro e w2 ⟨rfl, s2⟩
  go_wp2_with fail
  refine (i3 _).mono ?_
  rintro e w3 ⟨rfl, s3⟩
  have S3 := hid ((s1.trans s2).trans s3)
  clear s1 s2 s3
  go_wp2_with fail
  refine (cO w3).mono ?_
  rintro e w4 ⟨p, rfl, B4, s4⟩
  have S4 := hid (S3.out.trans s4.out)
  clear s4
  go_wp2_with fail
  refine (cF p _ B4.out).mono ?_
  rintro e w5 ⟨rfl, s5⟩
  have S45 := hid s5
  have st5 := (Step.refl noF w5).alloc (.cells #[.int .i64 2, .string (str [120]), .string (str [])] 40)
  have t5 := trip_new w5 40 ⟨2, [120], []⟩
  obtain ⟨v0, v1, v2, _, _, _⟩ := TripAt.all t5
  have S46 := hid (s5.trans st5)
  clear s5 t5
  go_wp2_with fail
  refine (cL p _ (w5.heap.size + 1) (World.size_alloc _ _).symm (B4.out.step S46.out)).mono ?_
  rintro e w7 ⟨gl, rfl, u0, u1, s7⟩
  have v0' := s7.out.after v0
  have v1' := s7.out.after v1
  have v2' := s7.out.after v2
  have S47 := hid (S46.out.trans s7.out)
  clear s7 v0 v1 v2 st5
  go_wp2_with fail
  refine (cW p w7 w7.heap.size rfl (B4.out.step S47.out)).mono ?_
  rintro e w8 ⟨rfl, s8⟩
  have v0 := s8.out.after v0'
  have v1 := s8.out.after v1'
  have v2 := s8.out.after v2'
  have u0' := s8.out.after u0
  have u1' := s8.out.after u1
  have S48 := hid (S47.out.trans s8.out)
  clear s8 v0' v1' v2' u0 u1
  go_upto_region 7 with fail
  change Code.wp _ (Code.region 7 ((Tryz.f5.body.bind (regionOps 7)).getD #[]) true) _ _ _
  refine bfaw_go p w5.heap.size gl _ w8 rfl rfl rfl rfl rfl rfl (fun w' hs => ⟨hs.after v0, hs.after v1, hs.after v2, hs.after u0', hs.after u1', ?_, ?_, ?_, ?_, ?_⟩) ?_
  · refine (lenB_any p bwB w' (B4.out.step (S48.out.trans hs))).mono ?_
    rintro e w'' ⟨rfl, rfl⟩
    exact ⟨rfl, Step.refl _ _⟩
  · exact weightB_any p bwB bw_small w' (B4.out.step (S48.out.trans hs))
  · exact i3 w'
  · intro a c hr
    refine (heaviestB_any p bwB bw_small bw_rising bw_good [[109]] (by simp) a c w' (B4.out.step (S48.out.trans hs)) hr).mono ?_
    rintro e w'' ⟨rfl, s⟩
    rw [bw_loads]
    exact ⟨rfl, s⟩
  · refine (takeB_any p bwB (by simp [bwB]) bw_rising bw_good ⟨[], [98]⟩ w' (B4.out.step (S48.out.trans hs))).mono ?_
    rintro e w'' ⟨v, rfl, ho, s⟩
    obtain ⟨a, c, rfl⟩ := owns_form ho
    rw [bw_take]
    exact ⟨_, rfl, s, a, c, rfl, trivial⟩
  · intro a w9 hs hd hz hfr h0
    have S49 := hid ((S4.out.trans S48.out).trans hs)
    simp only [Exit.then]
    refine ‹∀ (a : Act) (w : World), Code.wp _ Code.ret _ a w → _› a w9 ?_
    refine wp_ret ?_
    change bodyPost Tryz.prog Tryz.f5 _ Exit.ret a w9
    refine bodyPost_ret (v := .bool true) ((results_tmp rfl _ _ _).trans (by rw [h0])) hd ⟨rfl, S49.out⟩
end Go.Proofs.YtipgbpopcamllaaGreat
namespace Go.Proofs.YtipgbpopcamllaaGreat
open Go.RowKit Go.Sort
set_option linter.unusedVariables false
set_option linter.unusedSimpArgs false
set_option maxRecDepth 20000

set_option maxHeartbeats 2000000 in
/-- heavy: true, or few messages of no great length. -/
theorem heavyB_any (xs : List Mg) (hx : xs.length ≤ maxLen) (hq : ∀ x ∈ xs, x.key.length ≤ maxLen ∧ x.val.length ≤ maxLen) (a : Option Addr) (c : Nat) (w : World) (h : MsgsAt w noF a xs) :
    Calls Tryz.prog 6 #[.slice a xs.length c] w fun e w' => (e = .returned (.bool true) ∨ (e = .returned (.bool false) ∧ xs.length ≤ 40 ∧ ∀ x ∈ xs, x.key.length ≤ 512 ∧ x.val.length ≤ 512)) ∧ w = w' := by
  have hz := str_size
  have HR := hid h
  have HQ := hid hq
  unfold maxLen at hx
  clear h hq
  go_enter Tryz.func6, Tryz.ntmps6
  go_wp2_with fail
  go_loopg [3] 41 (fun kx s3 wr => ∃ (j : Nat), s3 = .int .i64 j ∧ j ≤ xs.length ∧ j ≤ 41 ∧ 41 - j ≤ kx ∧ wr = w ∧ Hid (∀ i (h : i < xs.length), i < j → xs[i].key.length ≤ 512 ∧ xs[i].val.length ≤ 512))
  case atStart => exact ⟨0, rfl, by omega, by omega, by omega, rfl, fun i _ h => absurd h (by omega)⟩
  case round =>
    obtain ⟨j, rfl, hj, hj2, hkx, rfl, HI⟩ := hrel
    by_cases hjl : j < xs.length
    · have hjz : (j : Int) < (xs.length : Int) := by omega
      by_cases hj41 : j < 41
      · have hjz2 : (j : Int) < 41 := by omega
        obtain ⟨g, off, rfl, _, c0, c1⟩ := HR.out.at j hjl
        have hb := HQ.out xs[j] (List.getElem_mem hjl)
        unfold maxLen at hb
        have HN : Hid (xs[j].key.length ≤ 512 → xs[j].val.length ≤ 512 → ∀ i (h : i < xs.length), i < j + 1 → xs[i].key.length ≤ 512 ∧ xs[i].val.length ≤ 512) := fun h1 h2 i hi hij => by
          rcases Nat.lt_or_eq_of_le (Nat.le_of_lt_succ hij) with e | e
          · exact HI.out i hi e
          · subst e; exact ⟨h1, h2⟩
        obtain ⟨⟨z, x, y⟩, hm⟩ : ∃ m, xs[j] = m := ⟨_, rfl⟩
        rw [hm] at c0 c1 HN hb
        clear hm
        simp only at hb
        obtain ⟨hb1, hb2⟩ := hb
        by_cases g1 : 512 < x.length
        · have gz1 : (512 : Int) < (x.length : Int) := by omega
          go_wp2_with fail
          go_ret
          exact ⟨.inl rfl, rfl⟩
        · have gz1 : ¬ (512 : Int) < (x.length : Int) := by omega
          by_cases g2 : 512 < y.length
          · have gz2 : (512 : Int) < (y.length : Int) := by omega
            go_wp2_with fail
            go_ret
            exact ⟨.inl rfl, rfl⟩
          · have gz2 : ¬ (512 : Int) < (y.length : Int) := by omega
            have HN2 := hid (HN.out (by simp; omega) (by simp; omega))
            go_wp2_with fail
            go_roundg (41 - (j + 1))
            case measure => omega
            case rel => exact ⟨j + 1, by simp, by omega, by omega, Nat.le_refl _, rfl, HN2⟩
      · have hjz2 : ¬ (j : Int) < 41 := by omega
        have hgr : (40 : Int) < (xs.length : Int) := by omega
        go_wp2_with fail
        go_ret
        exact ⟨.inl rfl, rfl⟩
    · have hjz : ¬ (j : Int) < (xs.length : Int) := by omega
      obtain rfl : j = xs.length := by omega
      by_cases hgr : 40 < xs.length
      · have hgz : (40 : Int) < (xs.length : Int) := by omega
        go_wp2_with fail
        go_ret
        exact ⟨.inl rfl, rfl⟩
      · have hgz : ¬ (40 : Int) < (xs.length : Int) := by omega
        go_wp2_with fail
        go_ret
        refine ⟨.inr ⟨rfl, by omega, fun x hx => ?_⟩, rfl⟩
        obtain ⟨i, hi, rfl⟩ := List.getElem_of_mem hx
        exact HI.out i hi hi


set_option maxHeartbeats 2000000 in
/-- wide: true, or few texts of no great length. -/
theorem wideB_any (xs : List (List UInt8)) (hx : xs.length ≤ maxLen) (hq : ∀ x ∈ xs, x.length ≤ maxLen) (a : Option Addr) (c : Nat) (w : World) (h : RowAt w noF a (texts xs)) :
    Calls Tryz.prog 7 #[.slice a xs.length c] w fun e w' => (e = .returned (.bool true) ∨ (e = .returned (.bool false) ∧ xs.length ≤ 20 ∧ ∀ x ∈ xs, x.length ≤ 512)) ∧ w = w' := by
  have hz := str_size
  have HR := hid h
  have HQ := hid hq
  unfold maxLen at hx
  clear h hq
  go_enter Tryz.func7, Tryz.ntmps7
  go_wp2_with fail
  go_loopg [3] 21 (fun kx s3 wr => ∃ (j : Nat), s3 = .int .i64 j ∧ j ≤ xs.length ∧ j ≤ 21 ∧ 21 - j ≤ kx ∧ wr = w ∧ Hid (∀ i (h : i < xs.length), i < j → xs[i].length ≤ 512))
  case atStart => exact ⟨0, rfl, by omega, by omega, by omega, rfl, fun i _ h => absurd h (by omega)⟩
  case round =>
    obtain ⟨j, rfl, hj, hj2, hkx, rfl, HI⟩ := hrel
    by_cases hjl : j < xs.length
    · have hjz : (j : Int) < (xs.length : Int) := by omega
      by_cases hj41 : j < 21
      · have hjz2 : (j : Int) < 21 := by omega
        obtain ⟨b, off, rfl, c0⟩ := texts_at HR.out j hjl
        have hb := HQ.out xs[j] (List.getElem_mem hjl)
        unfold maxLen at hb
        have HN : Hid (xs[j].length ≤ 512 → ∀ i (h : i < xs.length), i < j + 1 → xs[i].length ≤ 512) := fun h1 i hi hij => by
          rcases Nat.lt_or_eq_of_le (Nat.le_of_lt_succ hij) with e | e
          · exact HI.out i hi e
          · subst e; exact h1
        obtain ⟨x, hm⟩ : ∃ m, xs[j] = m := ⟨_, rfl⟩
        rw [hm] at c0 HN hb
        clear hm
        by_cases g1 : 512 < x.length
        · have gz1 : (512 : Int) < (x.length : Int) := by omega
          go_wp2_with fail
          go_ret
          exact ⟨.inl rfl, rfl⟩
        · have gz1 : ¬ (512 : Int) < (x.length : Int) := by omega
          have HN2 := hid (HN.out (by omega))
          go_wp2_with fail
          go_roundg (21 - (j + 1))
          case measure => omega
          case rel => exact ⟨j + 1, by simp, by omega, by omega, Nat.le_refl _, rfl, HN2⟩
      · have hjz2 : ¬ (j : Int) < 21 := by omega
        have hgr : (20 : Int) < (xs.length : Int) := by omega
        go_wp2_with fail
        go_ret
        exact ⟨.inl rfl, rfl⟩
    · have hjz : ¬ (j : Int) < (xs.length : Int) := by omega
      obtain rfl : j = xs.length := by omega
      by_cases hgr : 20 < xs.length
      · have hgz : (20 : Int) < (xs.length : Int) := by omega
        go_wp2_with fail
        go_ret
        exact ⟨.inl rfl, rfl⟩
      · have hgz : ¬ (20 : Int) < (xs.length : Int) := by omega
        go_wp2_with fail
        go_ret
        refine ⟨.inr ⟨rfl, by omega, fun x hx => ?_⟩, rfl⟩
        obtain ⟨i, hi, rfl⟩ := List.getElem_of_mem hx
        exact HI.out i hi hi
end Go.Proofs.YtipgbpopcamllaaGreat
