/-
  The region that draws in grangerlaw09.LeafParts (number 18), operation by operation. Written by draw4.py.
-/
import Derived.Test.YtclaagihmpghnaaPart
import Derived.Test.YtclaagihmpghnaaKeyRow
import Derived.Test.YtclaagihmpghnaaKeyA
namespace Go.Proofs.Ytclaagihmpghnaa
open Go.RowKit
set_option linter.unusedVariables false
set_option linter.unusedSimpArgs false

/-- A slice of items. -/
def isRgP (xs : List Rg) : SP noF := ⟨fun w v => ∃ a c, v = .slice a xs.length c ∧ RgsAt w a xs, fun _ _ _ hs ⟨a, c, h1, h2⟩ => ⟨a, c, h1, h2.step hs⟩⟩

def lparDl : List (Option Nat) := [some 82, some 83, some 84, some 85, some 86, some 87, some 88, some 89, some 90, some 91, some 92, some 93, some 94, some 95, some 96, some 97, some 98, some 99]
theorem lpar_dl : ((Try.f4.body.bind (regionOps 18)).getD #[]).toList.map (·.dst) = lparDl := by kernel_rfl
theorem lpar_back : backB ((Try.f4.body.bind (regionOps 18)).getD #[]) = true := by kernel_rfl
theorem lpar_size : ((Try.f4.body.bind (regionOps 18)).getD #[]).size = 18 := by kernel_rfl
theorem lpar_nd : lparDl.Pairwise (fun x y => x = none ∨ x ≠ y) := by decide
theorem lpar_lt (d : Nat) (h : some d ∈ lparDl) : d < 221 := by
  have hh : lparDl.all (fun o => o.all (fun d => decide (d < 221))) = true := by decide
  simpa using List.all_eq_true.1 hh _ h
def lparSp (g g7 n cap cap7 j qj rc : Nat) (ra : Option Addr) (P : List Rg) : List (SP noF) := [(is (.slice (some ⟨g, 0, none⟩) n cap)), (is (.int .i64 (j : Int))), (is (.pointer (some ⟨g, j, none⟩))), (is (.pointer (some ⟨qj, 0, none⟩))), (is (.bool false)), (is (.bool false)), (is (.slice (some ⟨g, 0, none⟩) n cap)), (is (.int .i64 (j : Int))), (is (.pointer (some ⟨g, j, none⟩))), (is (.pointer (some ⟨qj, 0, none⟩))), (isRgP P), (is (.slice (some ⟨g7, 0, none⟩) n cap7)), (is (.int .i64 (j : Int))), (is (.pointer (some ⟨g7, j, none⟩))), (is (.slice ra P.length rc)), (is (.bool true)), (is (.bool false)), (is (.bool false))]
theorem lparOp0 : opIs ((Try.f4.body.bind (regionOps 18)).getD #[]) 0 (some 82) (Op.move (Operand.tmp 13)) (none) := opIs_of (by kernel_rfl)
theorem lparOp1 : opIs ((Try.f4.body.bind (regionOps 18)).getD #[]) 1 (some 83) (Op.move (Operand.tmp 15)) (none) := opIs_of (by kernel_rfl)
theorem lparOp2 : opIs ((Try.f4.body.bind (regionOps 18)).getD #[]) 2 (some 84) (Op.indexAddr 52 (Operand.tmp 82) (Operand.tmp 83)) (none) := opIs_of (by kernel_rfl)
theorem lparOp3 : opIs ((Try.f4.body.bind (regionOps 18)).getD #[]) 3 (some 85) (Op.load 29 (Operand.tmp 84)) (none) := opIs_of (by kernel_rfl)
theorem lparOp4 : opIs ((Try.f4.body.bind (regionOps 18)).getD #[]) 4 (some 86) (Op.binOp BinOp.eql 29 (Operand.tmp 85) (Operand.const (Value.pointer none)) 29) (none) := opIs_of (by kernel_rfl)
theorem lparOp5 : opIs ((Try.f4.body.bind (regionOps 18)).getD #[]) 5 (some 87) (Op.move (Operand.tmp 86)) (none) := opIs_of (by kernel_rfl)
theorem lparOp6 : opIs ((Try.f4.body.bind (regionOps 18)).getD #[]) 6 (some 88) (Op.move (Operand.tmp 13)) (some (5, false)) := opIs_of (by kernel_rfl)
theorem lparOp7 : opIs ((Try.f4.body.bind (regionOps 18)).getD #[]) 7 (some 89) (Op.move (Operand.tmp 15)) (some (5, false)) := opIs_of (by kernel_rfl)
theorem lparOp8 : opIs ((Try.f4.body.bind (regionOps 18)).getD #[]) 8 (some 90) (Op.indexAddr 52 (Operand.tmp 88) (Operand.tmp 89)) (some (5, false)) := opIs_of (by kernel_rfl)
theorem lparOp9 : opIs ((Try.f4.body.bind (regionOps 18)).getD #[]) 9 (some 91) (Op.load 29 (Operand.tmp 90)) (some (5, false)) := opIs_of (by kernel_rfl)
theorem lparOp10 : opIs ((Try.f4.body.bind (regionOps 18)).getD #[]) 10 (some 92) (Op.call { callee := Callee.value (Operand.func 14), args := #[Operand.tmp 91], argTypes := #[29] }) (some (5, false)) := opIs_of (by kernel_rfl)
theorem lparOp11 : opIs ((Try.f4.body.bind (regionOps 18)).getD #[]) 11 (some 93) (Op.move (Operand.tmp 14)) (some (5, false)) := opIs_of (by kernel_rfl)
theorem lparOp12 : opIs ((Try.f4.body.bind (regionOps 18)).getD #[]) 12 (some 94) (Op.move (Operand.tmp 15)) (some (5, false)) := opIs_of (by kernel_rfl)
theorem lparOp13 : opIs ((Try.f4.body.bind (regionOps 18)).getD #[]) 13 (some 95) (Op.indexAddr 54 (Operand.tmp 93) (Operand.tmp 94)) (some (5, false)) := opIs_of (by kernel_rfl)
theorem lparOp14 : opIs ((Try.f4.body.bind (regionOps 18)).getD #[]) 14 (some 96) (Op.load 22 (Operand.tmp 95)) (some (5, false)) := opIs_of (by kernel_rfl)
theorem lparOp15 : opIs ((Try.f4.body.bind (regionOps 18)).getD #[]) 15 (some 97) (Op.call { callee := Callee.value (Operand.func 13), args := #[Operand.tmp 92, Operand.tmp 96], argTypes := #[22, 22] }) (some (5, false)) := opIs_of (by kernel_rfl)
theorem lparOp16 : opIs ((Try.f4.body.bind (regionOps 18)).getD #[]) 16 (some 98) (Op.unOp UnOp.not 4 (Operand.tmp 97)) (some (5, false)) := opIs_of (by kernel_rfl)
theorem lparOp17 : opIs ((Try.f4.body.bind (regionOps 18)).getD #[]) 17 (some 99) (Op.pick (Operand.tmp 87) (Operand.const (Value.bool true)) (Operand.tmp 98)) (none) := opIs_of (by kernel_rfl)

theorem lparStep0 (g g7 n cap cap7 j qj rc : Nat) (ra : Option Addr) (P : List Rg) (hj : (j : Int) < (n : Int)) {Q : Exit → Act → World → Prop} (a : Act) (w : World) (v0 : w.cell? ⟨g, j, none⟩ = some (.pointer (some ⟨qj, 0, none⟩))) (v1 : w.cell? ⟨g7, j, none⟩ = some (.slice ra P.length rc)) (k0 : Calls Try.prog 14 #[.pointer (some ⟨qj, 0, none⟩)] w fun e w' => ∃ v, e = .returned v ∧ Step noF w w' ∧ (isRgP P).1 w' v) (k2 : ∀ a c, RgsAt w a P → Calls Try.prog 13 #[.slice a P.length c, .slice ra P.length rc] w fun e w' => e = .returned (.bool true) ∧ Step noF w w') (h13 : a.tmps.getD 13 undef = .slice (some ⟨g, 0, none⟩) n cap) (h14 : a.tmps.getD 14 undef = .slice (some ⟨g7, 0, none⟩) n cap7) (h15 : a.tmps.getD 15 undef = .int .i64 (j : Int)) (hat : ∀ jj ∈ deps ((Try.f4.body.bind (regionOps 18)).getD #[]) 0, At (lparSp g g7 n cap cap7 j qj rc ra P) lparDl a w jj) :
    wpOp Try.prog ((Try.f4.body.bind (regionOps 18)).getD #[]) Q 0 (fun a' w' => ∃ o v, lparDl[0]? = some o ∧ a' = a.put o v ∧ Step noF w w' ∧ ∀ pp, (lparSp g g7 n cap cap7 j qj rc ra P)[0]? = some pp → pp.1 w' (o.elim undef fun _ => v)) a w := by
  exact slot_runs (is (.slice (some ⟨g, 0, none⟩) n cap)) lparOp0 rfl rfl (wants_none a) (runs_move (show a.eval _ = _ from h13)) (Step.refl _ _) rfl

theorem lparStep1 (g g7 n cap cap7 j qj rc : Nat) (ra : Option Addr) (P : List Rg) (hj : (j : Int) < (n : Int)) {Q : Exit → Act → World → Prop} (a : Act) (w : World) (v0 : w.cell? ⟨g, j, none⟩ = some (.pointer (some ⟨qj, 0, none⟩))) (v1 : w.cell? ⟨g7, j, none⟩ = some (.slice ra P.length rc)) (k0 : Calls Try.prog 14 #[.pointer (some ⟨qj, 0, none⟩)] w fun e w' => ∃ v, e = .returned v ∧ Step noF w w' ∧ (isRgP P).1 w' v) (k2 : ∀ a c, RgsAt w a P → Calls Try.prog 13 #[.slice a P.length c, .slice ra P.length rc] w fun e w' => e = .returned (.bool true) ∧ Step noF w w') (h13 : a.tmps.getD 13 undef = .slice (some ⟨g, 0, none⟩) n cap) (h14 : a.tmps.getD 14 undef = .slice (some ⟨g7, 0, none⟩) n cap7) (h15 : a.tmps.getD 15 undef = .int .i64 (j : Int)) (hat : ∀ jj ∈ deps ((Try.f4.body.bind (regionOps 18)).getD #[]) 1, At (lparSp g g7 n cap cap7 j qj rc ra P) lparDl a w jj) :
    wpOp Try.prog ((Try.f4.body.bind (regionOps 18)).getD #[]) Q 1 (fun a' w' => ∃ o v, lparDl[1]? = some o ∧ a' = a.put o v ∧ Step noF w w' ∧ ∀ pp, (lparSp g g7 n cap cap7 j qj rc ra P)[1]? = some pp → pp.1 w' (o.elim undef fun _ => v)) a w := by
  exact slot_runs (is (.int .i64 (j : Int))) lparOp1 rfl rfl (wants_none a) (runs_move (show a.eval _ = _ from h15)) (Step.refl _ _) rfl

theorem lparStep2 (g g7 n cap cap7 j qj rc : Nat) (ra : Option Addr) (P : List Rg) (hj : (j : Int) < (n : Int)) {Q : Exit → Act → World → Prop} (a : Act) (w : World) (v0 : w.cell? ⟨g, j, none⟩ = some (.pointer (some ⟨qj, 0, none⟩))) (v1 : w.cell? ⟨g7, j, none⟩ = some (.slice ra P.length rc)) (k0 : Calls Try.prog 14 #[.pointer (some ⟨qj, 0, none⟩)] w fun e w' => ∃ v, e = .returned v ∧ Step noF w w' ∧ (isRgP P).1 w' v) (k2 : ∀ a c, RgsAt w a P → Calls Try.prog 13 #[.slice a P.length c, .slice ra P.length rc] w fun e w' => e = .returned (.bool true) ∧ Step noF w w') (h13 : a.tmps.getD 13 undef = .slice (some ⟨g, 0, none⟩) n cap) (h14 : a.tmps.getD 14 undef = .slice (some ⟨g7, 0, none⟩) n cap7) (h15 : a.tmps.getD 15 undef = .int .i64 (j : Int)) (hat : ∀ jj ∈ deps ((Try.f4.body.bind (regionOps 18)).getD #[]) 2, At (lparSp g g7 n cap cap7 j qj rc ra P) lparDl a w jj) :
    wpOp Try.prog ((Try.f4.body.bind (regionOps 18)).getD #[]) Q 2 (fun a' w' => ∃ o v, lparDl[2]? = some o ∧ a' = a.put o v ∧ Step noF w w' ∧ ∀ pp, (lparSp g g7 n cap cap7 j qj rc ra P)[2]? = some pp → pp.1 w' (o.elim undef fun _ => v)) a w := by
  have h82 : a.tmps.getD 82 undef = .slice (some ⟨g, 0, none⟩) n cap := dep hat 0 (by kernel_rfl) (is (.slice (some ⟨g, 0, none⟩) n cap)) 82 rfl rfl
  have h83 : a.tmps.getD 83 undef = .int .i64 (j : Int) := dep hat 1 (by kernel_rfl) (is (.int .i64 (j : Int))) 83 rfl rfl
  refine slot_runs (is (.pointer (some ⟨g, j, none⟩))) lparOp2 rfl rfl (wants_none a) (v := .pointer (some ⟨g, j, none⟩)) (w' := w) ?_ (Step.refl _ _) rfl
  intro oo hoo
  simp only [execOp, hoo, Act.eval, Option.map_some, Option.map_none, h82, h83]
  go_simp

theorem lparStep3 (g g7 n cap cap7 j qj rc : Nat) (ra : Option Addr) (P : List Rg) (hj : (j : Int) < (n : Int)) {Q : Exit → Act → World → Prop} (a : Act) (w : World) (v0 : w.cell? ⟨g, j, none⟩ = some (.pointer (some ⟨qj, 0, none⟩))) (v1 : w.cell? ⟨g7, j, none⟩ = some (.slice ra P.length rc)) (k0 : Calls Try.prog 14 #[.pointer (some ⟨qj, 0, none⟩)] w fun e w' => ∃ v, e = .returned v ∧ Step noF w w' ∧ (isRgP P).1 w' v) (k2 : ∀ a c, RgsAt w a P → Calls Try.prog 13 #[.slice a P.length c, .slice ra P.length rc] w fun e w' => e = .returned (.bool true) ∧ Step noF w w') (h13 : a.tmps.getD 13 undef = .slice (some ⟨g, 0, none⟩) n cap) (h14 : a.tmps.getD 14 undef = .slice (some ⟨g7, 0, none⟩) n cap7) (h15 : a.tmps.getD 15 undef = .int .i64 (j : Int)) (hat : ∀ jj ∈ deps ((Try.f4.body.bind (regionOps 18)).getD #[]) 3, At (lparSp g g7 n cap cap7 j qj rc ra P) lparDl a w jj) :
    wpOp Try.prog ((Try.f4.body.bind (regionOps 18)).getD #[]) Q 3 (fun a' w' => ∃ o v, lparDl[3]? = some o ∧ a' = a.put o v ∧ Step noF w w' ∧ ∀ pp, (lparSp g g7 n cap cap7 j qj rc ra P)[3]? = some pp → pp.1 w' (o.elim undef fun _ => v)) a w := by
  have h84 : a.tmps.getD 84 undef = .pointer (some ⟨g, j, none⟩) := dep hat 2 (by kernel_rfl) (is (.pointer (some ⟨g, j, none⟩))) 84 rfl rfl
  refine slot_runs (is (.pointer (some ⟨qj, 0, none⟩))) lparOp3 rfl rfl (wants_none a) (v := .pointer (some ⟨qj, 0, none⟩)) (w' := w) ?_ (Step.refl _ _) rfl
  intro oo hoo
  simp only [execOp, hoo, Act.eval, Option.map_some, Option.map_none, h84]
  go_simp

theorem lparStep4 (g g7 n cap cap7 j qj rc : Nat) (ra : Option Addr) (P : List Rg) (hj : (j : Int) < (n : Int)) {Q : Exit → Act → World → Prop} (a : Act) (w : World) (v0 : w.cell? ⟨g, j, none⟩ = some (.pointer (some ⟨qj, 0, none⟩))) (v1 : w.cell? ⟨g7, j, none⟩ = some (.slice ra P.length rc)) (k0 : Calls Try.prog 14 #[.pointer (some ⟨qj, 0, none⟩)] w fun e w' => ∃ v, e = .returned v ∧ Step noF w w' ∧ (isRgP P).1 w' v) (k2 : ∀ a c, RgsAt w a P → Calls Try.prog 13 #[.slice a P.length c, .slice ra P.length rc] w fun e w' => e = .returned (.bool true) ∧ Step noF w w') (h13 : a.tmps.getD 13 undef = .slice (some ⟨g, 0, none⟩) n cap) (h14 : a.tmps.getD 14 undef = .slice (some ⟨g7, 0, none⟩) n cap7) (h15 : a.tmps.getD 15 undef = .int .i64 (j : Int)) (hat : ∀ jj ∈ deps ((Try.f4.body.bind (regionOps 18)).getD #[]) 4, At (lparSp g g7 n cap cap7 j qj rc ra P) lparDl a w jj) :
    wpOp Try.prog ((Try.f4.body.bind (regionOps 18)).getD #[]) Q 4 (fun a' w' => ∃ o v, lparDl[4]? = some o ∧ a' = a.put o v ∧ Step noF w w' ∧ ∀ pp, (lparSp g g7 n cap cap7 j qj rc ra P)[4]? = some pp → pp.1 w' (o.elim undef fun _ => v)) a w := by
  have h85 : a.tmps.getD 85 undef = .pointer (some ⟨qj, 0, none⟩) := dep hat 3 (by kernel_rfl) (is (.pointer (some ⟨qj, 0, none⟩))) 85 rfl rfl
  refine slot_runs (is (.bool false)) lparOp4 rfl rfl (wants_none a) (v := .bool false) (w' := w) ?_ (Step.refl _ _) rfl
  intro oo hoo
  simp only [execOp, hoo, Act.eval, Option.map_some, Option.map_none, h85]
  go_simp

theorem lparStep5 (g g7 n cap cap7 j qj rc : Nat) (ra : Option Addr) (P : List Rg) (hj : (j : Int) < (n : Int)) {Q : Exit → Act → World → Prop} (a : Act) (w : World) (v0 : w.cell? ⟨g, j, none⟩ = some (.pointer (some ⟨qj, 0, none⟩))) (v1 : w.cell? ⟨g7, j, none⟩ = some (.slice ra P.length rc)) (k0 : Calls Try.prog 14 #[.pointer (some ⟨qj, 0, none⟩)] w fun e w' => ∃ v, e = .returned v ∧ Step noF w w' ∧ (isRgP P).1 w' v) (k2 : ∀ a c, RgsAt w a P → Calls Try.prog 13 #[.slice a P.length c, .slice ra P.length rc] w fun e w' => e = .returned (.bool true) ∧ Step noF w w') (h13 : a.tmps.getD 13 undef = .slice (some ⟨g, 0, none⟩) n cap) (h14 : a.tmps.getD 14 undef = .slice (some ⟨g7, 0, none⟩) n cap7) (h15 : a.tmps.getD 15 undef = .int .i64 (j : Int)) (hat : ∀ jj ∈ deps ((Try.f4.body.bind (regionOps 18)).getD #[]) 5, At (lparSp g g7 n cap cap7 j qj rc ra P) lparDl a w jj) :
    wpOp Try.prog ((Try.f4.body.bind (regionOps 18)).getD #[]) Q 5 (fun a' w' => ∃ o v, lparDl[5]? = some o ∧ a' = a.put o v ∧ Step noF w w' ∧ ∀ pp, (lparSp g g7 n cap cap7 j qj rc ra P)[5]? = some pp → pp.1 w' (o.elim undef fun _ => v)) a w := by
  have h86 : a.tmps.getD 86 undef = .bool false := dep hat 4 (by kernel_rfl) (is (.bool false)) 86 rfl rfl
  exact slot_runs (is (.bool false)) lparOp5 rfl rfl (wants_none a) (runs_move (show a.eval _ = _ from h86)) (Step.refl _ _) rfl

theorem lparStep6 (g g7 n cap cap7 j qj rc : Nat) (ra : Option Addr) (P : List Rg) (hj : (j : Int) < (n : Int)) {Q : Exit → Act → World → Prop} (a : Act) (w : World) (v0 : w.cell? ⟨g, j, none⟩ = some (.pointer (some ⟨qj, 0, none⟩))) (v1 : w.cell? ⟨g7, j, none⟩ = some (.slice ra P.length rc)) (k0 : Calls Try.prog 14 #[.pointer (some ⟨qj, 0, none⟩)] w fun e w' => ∃ v, e = .returned v ∧ Step noF w w' ∧ (isRgP P).1 w' v) (k2 : ∀ a c, RgsAt w a P → Calls Try.prog 13 #[.slice a P.length c, .slice ra P.length rc] w fun e w' => e = .returned (.bool true) ∧ Step noF w w') (h13 : a.tmps.getD 13 undef = .slice (some ⟨g, 0, none⟩) n cap) (h14 : a.tmps.getD 14 undef = .slice (some ⟨g7, 0, none⟩) n cap7) (h15 : a.tmps.getD 15 undef = .int .i64 (j : Int)) (hat : ∀ jj ∈ deps ((Try.f4.body.bind (regionOps 18)).getD #[]) 6, At (lparSp g g7 n cap cap7 j qj rc ra P) lparDl a w jj) :
    wpOp Try.prog ((Try.f4.body.bind (regionOps 18)).getD #[]) Q 6 (fun a' w' => ∃ o v, lparDl[6]? = some o ∧ a' = a.put o v ∧ Step noF w w' ∧ ∀ pp, (lparSp g g7 n cap cap7 j qj rc ra P)[6]? = some pp → pp.1 w' (o.elim undef fun _ => v)) a w := by
  have h87 : a.tmps.getD 87 undef = .bool false := dep hat 5 (by kernel_rfl) (is (.bool false)) 87 rfl rfl
  exact slot_runs (is (.slice (some ⟨g, 0, none⟩) n cap)) lparOp6 rfl rfl ((wants_some (d := 87) (b := false) (by kernel_rfl) h87)) (runs_move (show a.eval _ = _ from h13)) (Step.refl _ _) rfl

theorem lparStep7 (g g7 n cap cap7 j qj rc : Nat) (ra : Option Addr) (P : List Rg) (hj : (j : Int) < (n : Int)) {Q : Exit → Act → World → Prop} (a : Act) (w : World) (v0 : w.cell? ⟨g, j, none⟩ = some (.pointer (some ⟨qj, 0, none⟩))) (v1 : w.cell? ⟨g7, j, none⟩ = some (.slice ra P.length rc)) (k0 : Calls Try.prog 14 #[.pointer (some ⟨qj, 0, none⟩)] w fun e w' => ∃ v, e = .returned v ∧ Step noF w w' ∧ (isRgP P).1 w' v) (k2 : ∀ a c, RgsAt w a P → Calls Try.prog 13 #[.slice a P.length c, .slice ra P.length rc] w fun e w' => e = .returned (.bool true) ∧ Step noF w w') (h13 : a.tmps.getD 13 undef = .slice (some ⟨g, 0, none⟩) n cap) (h14 : a.tmps.getD 14 undef = .slice (some ⟨g7, 0, none⟩) n cap7) (h15 : a.tmps.getD 15 undef = .int .i64 (j : Int)) (hat : ∀ jj ∈ deps ((Try.f4.body.bind (regionOps 18)).getD #[]) 7, At (lparSp g g7 n cap cap7 j qj rc ra P) lparDl a w jj) :
    wpOp Try.prog ((Try.f4.body.bind (regionOps 18)).getD #[]) Q 7 (fun a' w' => ∃ o v, lparDl[7]? = some o ∧ a' = a.put o v ∧ Step noF w w' ∧ ∀ pp, (lparSp g g7 n cap cap7 j qj rc ra P)[7]? = some pp → pp.1 w' (o.elim undef fun _ => v)) a w := by
  have h87 : a.tmps.getD 87 undef = .bool false := dep hat 5 (by kernel_rfl) (is (.bool false)) 87 rfl rfl
  exact slot_runs (is (.int .i64 (j : Int))) lparOp7 rfl rfl ((wants_some (d := 87) (b := false) (by kernel_rfl) h87)) (runs_move (show a.eval _ = _ from h15)) (Step.refl _ _) rfl

theorem lparStep8 (g g7 n cap cap7 j qj rc : Nat) (ra : Option Addr) (P : List Rg) (hj : (j : Int) < (n : Int)) {Q : Exit → Act → World → Prop} (a : Act) (w : World) (v0 : w.cell? ⟨g, j, none⟩ = some (.pointer (some ⟨qj, 0, none⟩))) (v1 : w.cell? ⟨g7, j, none⟩ = some (.slice ra P.length rc)) (k0 : Calls Try.prog 14 #[.pointer (some ⟨qj, 0, none⟩)] w fun e w' => ∃ v, e = .returned v ∧ Step noF w w' ∧ (isRgP P).1 w' v) (k2 : ∀ a c, RgsAt w a P → Calls Try.prog 13 #[.slice a P.length c, .slice ra P.length rc] w fun e w' => e = .returned (.bool true) ∧ Step noF w w') (h13 : a.tmps.getD 13 undef = .slice (some ⟨g, 0, none⟩) n cap) (h14 : a.tmps.getD 14 undef = .slice (some ⟨g7, 0, none⟩) n cap7) (h15 : a.tmps.getD 15 undef = .int .i64 (j : Int)) (hat : ∀ jj ∈ deps ((Try.f4.body.bind (regionOps 18)).getD #[]) 8, At (lparSp g g7 n cap cap7 j qj rc ra P) lparDl a w jj) :
    wpOp Try.prog ((Try.f4.body.bind (regionOps 18)).getD #[]) Q 8 (fun a' w' => ∃ o v, lparDl[8]? = some o ∧ a' = a.put o v ∧ Step noF w w' ∧ ∀ pp, (lparSp g g7 n cap cap7 j qj rc ra P)[8]? = some pp → pp.1 w' (o.elim undef fun _ => v)) a w := by
  have h87 : a.tmps.getD 87 undef = .bool false := dep hat 5 (by kernel_rfl) (is (.bool false)) 87 rfl rfl
  have h88 : a.tmps.getD 88 undef = .slice (some ⟨g, 0, none⟩) n cap := dep hat 6 (by kernel_rfl) (is (.slice (some ⟨g, 0, none⟩) n cap)) 88 rfl rfl
  have h89 : a.tmps.getD 89 undef = .int .i64 (j : Int) := dep hat 7 (by kernel_rfl) (is (.int .i64 (j : Int))) 89 rfl rfl
  refine slot_runs (is (.pointer (some ⟨g, j, none⟩))) lparOp8 rfl rfl ((wants_some (d := 87) (b := false) (by kernel_rfl) h87)) (v := .pointer (some ⟨g, j, none⟩)) (w' := w) ?_ (Step.refl _ _) rfl
  intro oo hoo
  simp only [execOp, hoo, Act.eval, Option.map_some, Option.map_none, h88, h89]
  go_simp

theorem lparStep9 (g g7 n cap cap7 j qj rc : Nat) (ra : Option Addr) (P : List Rg) (hj : (j : Int) < (n : Int)) {Q : Exit → Act → World → Prop} (a : Act) (w : World) (v0 : w.cell? ⟨g, j, none⟩ = some (.pointer (some ⟨qj, 0, none⟩))) (v1 : w.cell? ⟨g7, j, none⟩ = some (.slice ra P.length rc)) (k0 : Calls Try.prog 14 #[.pointer (some ⟨qj, 0, none⟩)] w fun e w' => ∃ v, e = .returned v ∧ Step noF w w' ∧ (isRgP P).1 w' v) (k2 : ∀ a c, RgsAt w a P → Calls Try.prog 13 #[.slice a P.length c, .slice ra P.length rc] w fun e w' => e = .returned (.bool true) ∧ Step noF w w') (h13 : a.tmps.getD 13 undef = .slice (some ⟨g, 0, none⟩) n cap) (h14 : a.tmps.getD 14 undef = .slice (some ⟨g7, 0, none⟩) n cap7) (h15 : a.tmps.getD 15 undef = .int .i64 (j : Int)) (hat : ∀ jj ∈ deps ((Try.f4.body.bind (regionOps 18)).getD #[]) 9, At (lparSp g g7 n cap cap7 j qj rc ra P) lparDl a w jj) :
    wpOp Try.prog ((Try.f4.body.bind (regionOps 18)).getD #[]) Q 9 (fun a' w' => ∃ o v, lparDl[9]? = some o ∧ a' = a.put o v ∧ Step noF w w' ∧ ∀ pp, (lparSp g g7 n cap cap7 j qj rc ra P)[9]? = some pp → pp.1 w' (o.elim undef fun _ => v)) a w := by
  have h87 : a.tmps.getD 87 undef = .bool false := dep hat 5 (by kernel_rfl) (is (.bool false)) 87 rfl rfl
  have h90 : a.tmps.getD 90 undef = .pointer (some ⟨g, j, none⟩) := dep hat 8 (by kernel_rfl) (is (.pointer (some ⟨g, j, none⟩))) 90 rfl rfl
  refine slot_runs (is (.pointer (some ⟨qj, 0, none⟩))) lparOp9 rfl rfl ((wants_some (d := 87) (b := false) (by kernel_rfl) h87)) (v := .pointer (some ⟨qj, 0, none⟩)) (w' := w) ?_ (Step.refl _ _) rfl
  intro oo hoo
  simp only [execOp, hoo, Act.eval, Option.map_some, Option.map_none, h90]
  go_simp

theorem lparStep10 (g g7 n cap cap7 j qj rc : Nat) (ra : Option Addr) (P : List Rg) (hj : (j : Int) < (n : Int)) {Q : Exit → Act → World → Prop} (a : Act) (w : World) (v0 : w.cell? ⟨g, j, none⟩ = some (.pointer (some ⟨qj, 0, none⟩))) (v1 : w.cell? ⟨g7, j, none⟩ = some (.slice ra P.length rc)) (k0 : Calls Try.prog 14 #[.pointer (some ⟨qj, 0, none⟩)] w fun e w' => ∃ v, e = .returned v ∧ Step noF w w' ∧ (isRgP P).1 w' v) (k2 : ∀ a c, RgsAt w a P → Calls Try.prog 13 #[.slice a P.length c, .slice ra P.length rc] w fun e w' => e = .returned (.bool true) ∧ Step noF w w') (h13 : a.tmps.getD 13 undef = .slice (some ⟨g, 0, none⟩) n cap) (h14 : a.tmps.getD 14 undef = .slice (some ⟨g7, 0, none⟩) n cap7) (h15 : a.tmps.getD 15 undef = .int .i64 (j : Int)) (hat : ∀ jj ∈ deps ((Try.f4.body.bind (regionOps 18)).getD #[]) 10, At (lparSp g g7 n cap cap7 j qj rc ra P) lparDl a w jj) :
    wpOp Try.prog ((Try.f4.body.bind (regionOps 18)).getD #[]) Q 10 (fun a' w' => ∃ o v, lparDl[10]? = some o ∧ a' = a.put o v ∧ Step noF w w' ∧ ∀ pp, (lparSp g g7 n cap cap7 j qj rc ra P)[10]? = some pp → pp.1 w' (o.elim undef fun _ => v)) a w := by
  have h87 : a.tmps.getD 87 undef = .bool false := dep hat 5 (by kernel_rfl) (is (.bool false)) 87 rfl rfl
  have h91 : a.tmps.getD 91 undef = .pointer (some ⟨qj, 0, none⟩) := dep hat 9 (by kernel_rfl) (is (.pointer (some ⟨qj, 0, none⟩))) 91 rfl rfl
  refine slot_calls (isRgP P) lparOp10 rfl rfl ((wants_some (d := 87) (b := false) (by kernel_rfl) h87)) Try.func14 (by kernel_rfl) (by kernel_rfl) (by simp only [List.map_toArray, List.map_cons, List.map_nil, Act.eval, h91]; rfl) ?_
  exact k0

theorem lparStep11 (g g7 n cap cap7 j qj rc : Nat) (ra : Option Addr) (P : List Rg) (hj : (j : Int) < (n : Int)) {Q : Exit → Act → World → Prop} (a : Act) (w : World) (v0 : w.cell? ⟨g, j, none⟩ = some (.pointer (some ⟨qj, 0, none⟩))) (v1 : w.cell? ⟨g7, j, none⟩ = some (.slice ra P.length rc)) (k0 : Calls Try.prog 14 #[.pointer (some ⟨qj, 0, none⟩)] w fun e w' => ∃ v, e = .returned v ∧ Step noF w w' ∧ (isRgP P).1 w' v) (k2 : ∀ a c, RgsAt w a P → Calls Try.prog 13 #[.slice a P.length c, .slice ra P.length rc] w fun e w' => e = .returned (.bool true) ∧ Step noF w w') (h13 : a.tmps.getD 13 undef = .slice (some ⟨g, 0, none⟩) n cap) (h14 : a.tmps.getD 14 undef = .slice (some ⟨g7, 0, none⟩) n cap7) (h15 : a.tmps.getD 15 undef = .int .i64 (j : Int)) (hat : ∀ jj ∈ deps ((Try.f4.body.bind (regionOps 18)).getD #[]) 11, At (lparSp g g7 n cap cap7 j qj rc ra P) lparDl a w jj) :
    wpOp Try.prog ((Try.f4.body.bind (regionOps 18)).getD #[]) Q 11 (fun a' w' => ∃ o v, lparDl[11]? = some o ∧ a' = a.put o v ∧ Step noF w w' ∧ ∀ pp, (lparSp g g7 n cap cap7 j qj rc ra P)[11]? = some pp → pp.1 w' (o.elim undef fun _ => v)) a w := by
  have h87 : a.tmps.getD 87 undef = .bool false := dep hat 5 (by kernel_rfl) (is (.bool false)) 87 rfl rfl
  exact slot_runs (is (.slice (some ⟨g7, 0, none⟩) n cap7)) lparOp11 rfl rfl ((wants_some (d := 87) (b := false) (by kernel_rfl) h87)) (runs_move (show a.eval _ = _ from h14)) (Step.refl _ _) rfl

theorem lparStep12 (g g7 n cap cap7 j qj rc : Nat) (ra : Option Addr) (P : List Rg) (hj : (j : Int) < (n : Int)) {Q : Exit → Act → World → Prop} (a : Act) (w : World) (v0 : w.cell? ⟨g, j, none⟩ = some (.pointer (some ⟨qj, 0, none⟩))) (v1 : w.cell? ⟨g7, j, none⟩ = some (.slice ra P.length rc)) (k0 : Calls Try.prog 14 #[.pointer (some ⟨qj, 0, none⟩)] w fun e w' => ∃ v, e = .returned v ∧ Step noF w w' ∧ (isRgP P).1 w' v) (k2 : ∀ a c, RgsAt w a P → Calls Try.prog 13 #[.slice a P.length c, .slice ra P.length rc] w fun e w' => e = .returned (.bool true) ∧ Step noF w w') (h13 : a.tmps.getD 13 undef = .slice (some ⟨g, 0, none⟩) n cap) (h14 : a.tmps.getD 14 undef = .slice (some ⟨g7, 0, none⟩) n cap7) (h15 : a.tmps.getD 15 undef = .int .i64 (j : Int)) (hat : ∀ jj ∈ deps ((Try.f4.body.bind (regionOps 18)).getD #[]) 12, At (lparSp g g7 n cap cap7 j qj rc ra P) lparDl a w jj) :
    wpOp Try.prog ((Try.f4.body.bind (regionOps 18)).getD #[]) Q 12 (fun a' w' => ∃ o v, lparDl[12]? = some o ∧ a' = a.put o v ∧ Step noF w w' ∧ ∀ pp, (lparSp g g7 n cap cap7 j qj rc ra P)[12]? = some pp → pp.1 w' (o.elim undef fun _ => v)) a w := by
  have h87 : a.tmps.getD 87 undef = .bool false := dep hat 5 (by kernel_rfl) (is (.bool false)) 87 rfl rfl
  exact slot_runs (is (.int .i64 (j : Int))) lparOp12 rfl rfl ((wants_some (d := 87) (b := false) (by kernel_rfl) h87)) (runs_move (show a.eval _ = _ from h15)) (Step.refl _ _) rfl

theorem lparStep13 (g g7 n cap cap7 j qj rc : Nat) (ra : Option Addr) (P : List Rg) (hj : (j : Int) < (n : Int)) {Q : Exit → Act → World → Prop} (a : Act) (w : World) (v0 : w.cell? ⟨g, j, none⟩ = some (.pointer (some ⟨qj, 0, none⟩))) (v1 : w.cell? ⟨g7, j, none⟩ = some (.slice ra P.length rc)) (k0 : Calls Try.prog 14 #[.pointer (some ⟨qj, 0, none⟩)] w fun e w' => ∃ v, e = .returned v ∧ Step noF w w' ∧ (isRgP P).1 w' v) (k2 : ∀ a c, RgsAt w a P → Calls Try.prog 13 #[.slice a P.length c, .slice ra P.length rc] w fun e w' => e = .returned (.bool true) ∧ Step noF w w') (h13 : a.tmps.getD 13 undef = .slice (some ⟨g, 0, none⟩) n cap) (h14 : a.tmps.getD 14 undef = .slice (some ⟨g7, 0, none⟩) n cap7) (h15 : a.tmps.getD 15 undef = .int .i64 (j : Int)) (hat : ∀ jj ∈ deps ((Try.f4.body.bind (regionOps 18)).getD #[]) 13, At (lparSp g g7 n cap cap7 j qj rc ra P) lparDl a w jj) :
    wpOp Try.prog ((Try.f4.body.bind (regionOps 18)).getD #[]) Q 13 (fun a' w' => ∃ o v, lparDl[13]? = some o ∧ a' = a.put o v ∧ Step noF w w' ∧ ∀ pp, (lparSp g g7 n cap cap7 j qj rc ra P)[13]? = some pp → pp.1 w' (o.elim undef fun _ => v)) a w := by
  have h87 : a.tmps.getD 87 undef = .bool false := dep hat 5 (by kernel_rfl) (is (.bool false)) 87 rfl rfl
  have h93 : a.tmps.getD 93 undef = .slice (some ⟨g7, 0, none⟩) n cap7 := dep hat 11 (by kernel_rfl) (is (.slice (some ⟨g7, 0, none⟩) n cap7)) 93 rfl rfl
  have h94 : a.tmps.getD 94 undef = .int .i64 (j : Int) := dep hat 12 (by kernel_rfl) (is (.int .i64 (j : Int))) 94 rfl rfl
  refine slot_runs (is (.pointer (some ⟨g7, j, none⟩))) lparOp13 rfl rfl ((wants_some (d := 87) (b := false) (by kernel_rfl) h87)) (v := .pointer (some ⟨g7, j, none⟩)) (w' := w) ?_ (Step.refl _ _) rfl
  intro oo hoo
  simp only [execOp, hoo, Act.eval, Option.map_some, Option.map_none, h93, h94]
  go_simp

theorem lparStep14 (g g7 n cap cap7 j qj rc : Nat) (ra : Option Addr) (P : List Rg) (hj : (j : Int) < (n : Int)) {Q : Exit → Act → World → Prop} (a : Act) (w : World) (v0 : w.cell? ⟨g, j, none⟩ = some (.pointer (some ⟨qj, 0, none⟩))) (v1 : w.cell? ⟨g7, j, none⟩ = some (.slice ra P.length rc)) (k0 : Calls Try.prog 14 #[.pointer (some ⟨qj, 0, none⟩)] w fun e w' => ∃ v, e = .returned v ∧ Step noF w w' ∧ (isRgP P).1 w' v) (k2 : ∀ a c, RgsAt w a P → Calls Try.prog 13 #[.slice a P.length c, .slice ra P.length rc] w fun e w' => e = .returned (.bool true) ∧ Step noF w w') (h13 : a.tmps.getD 13 undef = .slice (some ⟨g, 0, none⟩) n cap) (h14 : a.tmps.getD 14 undef = .slice (some ⟨g7, 0, none⟩) n cap7) (h15 : a.tmps.getD 15 undef = .int .i64 (j : Int)) (hat : ∀ jj ∈ deps ((Try.f4.body.bind (regionOps 18)).getD #[]) 14, At (lparSp g g7 n cap cap7 j qj rc ra P) lparDl a w jj) :
    wpOp Try.prog ((Try.f4.body.bind (regionOps 18)).getD #[]) Q 14 (fun a' w' => ∃ o v, lparDl[14]? = some o ∧ a' = a.put o v ∧ Step noF w w' ∧ ∀ pp, (lparSp g g7 n cap cap7 j qj rc ra P)[14]? = some pp → pp.1 w' (o.elim undef fun _ => v)) a w := by
  have h87 : a.tmps.getD 87 undef = .bool false := dep hat 5 (by kernel_rfl) (is (.bool false)) 87 rfl rfl
  have h95 : a.tmps.getD 95 undef = .pointer (some ⟨g7, j, none⟩) := dep hat 13 (by kernel_rfl) (is (.pointer (some ⟨g7, j, none⟩))) 95 rfl rfl
  refine slot_runs (is (.slice ra P.length rc)) lparOp14 rfl rfl ((wants_some (d := 87) (b := false) (by kernel_rfl) h87)) (v := .slice ra P.length rc) (w' := w) ?_ (Step.refl _ _) rfl
  intro oo hoo
  simp only [execOp, hoo, Act.eval, Option.map_some, Option.map_none, h95]
  go_simp

theorem lparStep15 (g g7 n cap cap7 j qj rc : Nat) (ra : Option Addr) (P : List Rg) (hj : (j : Int) < (n : Int)) {Q : Exit → Act → World → Prop} (a : Act) (w : World) (v0 : w.cell? ⟨g, j, none⟩ = some (.pointer (some ⟨qj, 0, none⟩))) (v1 : w.cell? ⟨g7, j, none⟩ = some (.slice ra P.length rc)) (k0 : Calls Try.prog 14 #[.pointer (some ⟨qj, 0, none⟩)] w fun e w' => ∃ v, e = .returned v ∧ Step noF w w' ∧ (isRgP P).1 w' v) (k2 : ∀ a c, RgsAt w a P → Calls Try.prog 13 #[.slice a P.length c, .slice ra P.length rc] w fun e w' => e = .returned (.bool true) ∧ Step noF w w') (h13 : a.tmps.getD 13 undef = .slice (some ⟨g, 0, none⟩) n cap) (h14 : a.tmps.getD 14 undef = .slice (some ⟨g7, 0, none⟩) n cap7) (h15 : a.tmps.getD 15 undef = .int .i64 (j : Int)) (hat : ∀ jj ∈ deps ((Try.f4.body.bind (regionOps 18)).getD #[]) 15, At (lparSp g g7 n cap cap7 j qj rc ra P) lparDl a w jj) :
    wpOp Try.prog ((Try.f4.body.bind (regionOps 18)).getD #[]) Q 15 (fun a' w' => ∃ o v, lparDl[15]? = some o ∧ a' = a.put o v ∧ Step noF w w' ∧ ∀ pp, (lparSp g g7 n cap cap7 j qj rc ra P)[15]? = some pp → pp.1 w' (o.elim undef fun _ => v)) a w := by
  have h87 : a.tmps.getD 87 undef = .bool false := dep hat 5 (by kernel_rfl) (is (.bool false)) 87 rfl rfl
  obtain ⟨xa, xc, h92, hx92⟩ := dep hat 10 (by kernel_rfl) (isRgP P) 92 rfl rfl
  have h96 : a.tmps.getD 96 undef = .slice ra P.length rc := dep hat 14 (by kernel_rfl) (is (.slice ra P.length rc)) 96 rfl rfl
  refine slot_calls (is (.bool true)) lparOp15 rfl rfl ((wants_some (d := 87) (b := false) (by kernel_rfl) h87)) Try.func13 (by kernel_rfl) (by kernel_rfl) (by simp only [List.map_toArray, List.map_cons, List.map_nil, Act.eval, h92, h96]; rfl) ?_
  exact Calls.mono (k2 xa xc hx92) (fun e w' hh => ⟨_, hh.1, hh.2, rfl⟩)

theorem lparStep16 (g g7 n cap cap7 j qj rc : Nat) (ra : Option Addr) (P : List Rg) (hj : (j : Int) < (n : Int)) {Q : Exit → Act → World → Prop} (a : Act) (w : World) (v0 : w.cell? ⟨g, j, none⟩ = some (.pointer (some ⟨qj, 0, none⟩))) (v1 : w.cell? ⟨g7, j, none⟩ = some (.slice ra P.length rc)) (k0 : Calls Try.prog 14 #[.pointer (some ⟨qj, 0, none⟩)] w fun e w' => ∃ v, e = .returned v ∧ Step noF w w' ∧ (isRgP P).1 w' v) (k2 : ∀ a c, RgsAt w a P → Calls Try.prog 13 #[.slice a P.length c, .slice ra P.length rc] w fun e w' => e = .returned (.bool true) ∧ Step noF w w') (h13 : a.tmps.getD 13 undef = .slice (some ⟨g, 0, none⟩) n cap) (h14 : a.tmps.getD 14 undef = .slice (some ⟨g7, 0, none⟩) n cap7) (h15 : a.tmps.getD 15 undef = .int .i64 (j : Int)) (hat : ∀ jj ∈ deps ((Try.f4.body.bind (regionOps 18)).getD #[]) 16, At (lparSp g g7 n cap cap7 j qj rc ra P) lparDl a w jj) :
    wpOp Try.prog ((Try.f4.body.bind (regionOps 18)).getD #[]) Q 16 (fun a' w' => ∃ o v, lparDl[16]? = some o ∧ a' = a.put o v ∧ Step noF w w' ∧ ∀ pp, (lparSp g g7 n cap cap7 j qj rc ra P)[16]? = some pp → pp.1 w' (o.elim undef fun _ => v)) a w := by
  have h87 : a.tmps.getD 87 undef = .bool false := dep hat 5 (by kernel_rfl) (is (.bool false)) 87 rfl rfl
  have h97 : a.tmps.getD 97 undef = .bool true := dep hat 15 (by kernel_rfl) (is (.bool true)) 97 rfl rfl
  refine slot_runs (is (.bool false)) lparOp16 rfl rfl ((wants_some (d := 87) (b := false) (by kernel_rfl) h87)) (v := .bool false) (w' := w) ?_ (Step.refl _ _) rfl
  intro oo hoo
  simp only [execOp, hoo, Act.eval, Option.map_some, Option.map_none, h97]
  go_simp

theorem lparStep17 (g g7 n cap cap7 j qj rc : Nat) (ra : Option Addr) (P : List Rg) (hj : (j : Int) < (n : Int)) {Q : Exit → Act → World → Prop} (a : Act) (w : World) (v0 : w.cell? ⟨g, j, none⟩ = some (.pointer (some ⟨qj, 0, none⟩))) (v1 : w.cell? ⟨g7, j, none⟩ = some (.slice ra P.length rc)) (k0 : Calls Try.prog 14 #[.pointer (some ⟨qj, 0, none⟩)] w fun e w' => ∃ v, e = .returned v ∧ Step noF w w' ∧ (isRgP P).1 w' v) (k2 : ∀ a c, RgsAt w a P → Calls Try.prog 13 #[.slice a P.length c, .slice ra P.length rc] w fun e w' => e = .returned (.bool true) ∧ Step noF w w') (h13 : a.tmps.getD 13 undef = .slice (some ⟨g, 0, none⟩) n cap) (h14 : a.tmps.getD 14 undef = .slice (some ⟨g7, 0, none⟩) n cap7) (h15 : a.tmps.getD 15 undef = .int .i64 (j : Int)) (hat : ∀ jj ∈ deps ((Try.f4.body.bind (regionOps 18)).getD #[]) 17, At (lparSp g g7 n cap cap7 j qj rc ra P) lparDl a w jj) :
    wpOp Try.prog ((Try.f4.body.bind (regionOps 18)).getD #[]) Q 17 (fun a' w' => ∃ o v, lparDl[17]? = some o ∧ a' = a.put o v ∧ Step noF w w' ∧ ∀ pp, (lparSp g g7 n cap cap7 j qj rc ra P)[17]? = some pp → pp.1 w' (o.elim undef fun _ => v)) a w := by
  have h87 : a.tmps.getD 87 undef = .bool false := dep hat 5 (by kernel_rfl) (is (.bool false)) 87 rfl rfl
  have h98 : a.tmps.getD 98 undef = .bool false := dep hat 16 (by kernel_rfl) (is (.bool false)) 98 rfl rfl
  refine slot_runs (is (.bool false)) lparOp17 rfl rfl (wants_none a) (v := .bool false) (w' := w) ?_ (Step.refl _ _) rfl
  intro oo hoo
  simp only [execOp, hoo, Act.eval, Option.map_some, Option.map_none, h87, h98]
  go_simp

theorem lpar_go (g g7 n cap cap7 j qj rc : Nat) (ra : Option Addr) (P : List Rg) (hj : (j : Int) < (n : Int)) {Q : Exit → Act → World → Prop} (a0 : Act) (w0 : World) (hsz : a0.tmps.size = 221) (h13 : a0.tmps.getD 13 undef = .slice (some ⟨g, 0, none⟩) n cap) (h14 : a0.tmps.getD 14 undef = .slice (some ⟨g7, 0, none⟩) n cap7) (h15 : a0.tmps.getD 15 undef = .int .i64 (j : Int))
    (hw : ∀ w, Step noF w0 w → (w.cell? ⟨g, j, none⟩ = some (.pointer (some ⟨qj, 0, none⟩))) ∧ (w.cell? ⟨g7, j, none⟩ = some (.slice ra P.length rc)) ∧ (Calls Try.prog 14 #[.pointer (some ⟨qj, 0, none⟩)] w fun e w' => ∃ v, e = .returned v ∧ Step noF w w' ∧ (isRgP P).1 w' v) ∧ (∀ a c, RgsAt w a P → Calls Try.prog 13 #[.slice a P.length c, .slice ra P.length rc] w fun e w' => e = .returned (.bool true) ∧ Step noF w w'))
    (hK : ∀ (a : Act) (w : World), Step noF w0 w → a.defers = a0.defers → a.tmps.size = a0.tmps.size → (∀ k, some k ∉ lparDl → a.tmps.getD k undef = a0.tmps.getD k undef) → a.tmps.getD 99 undef = .bool false → Q .normal a w) : (Code.region 18 ((Try.f4.body.bind (regionOps 18)).getD #[]) true).wp Try.prog Q a0 w0 := by
  refine wp_region_slots2 noF (lparSp g g7 n cap cap7 j qj rc ra P) lparDl (by kernel_rfl) lpar_back lpar_dl lpar_nd (fun d h => by rw [hsz]; exact lpar_lt d h) ?_ ?_
  · intro ix hix a w hs hfr hat
    rw [lpar_size] at hix
    obtain ⟨v0, v1, k0, k2⟩ := hw w hs
    have h13 := (hfr 13 (by decide)).trans h13
    have h14 := (hfr 14 (by decide)).trans h14
    have h15 := (hfr 15 (by decide)).trans h15
    match ix, hix with
    | 0, _ => exact lparStep0 g g7 n cap cap7 j qj rc ra P hj a w v0 v1 k0 k2 h13 h14 h15 hat
    | 1, _ => exact lparStep1 g g7 n cap cap7 j qj rc ra P hj a w v0 v1 k0 k2 h13 h14 h15 hat
    | 2, _ => exact lparStep2 g g7 n cap cap7 j qj rc ra P hj a w v0 v1 k0 k2 h13 h14 h15 hat
    | 3, _ => exact lparStep3 g g7 n cap cap7 j qj rc ra P hj a w v0 v1 k0 k2 h13 h14 h15 hat
    | 4, _ => exact lparStep4 g g7 n cap cap7 j qj rc ra P hj a w v0 v1 k0 k2 h13 h14 h15 hat
    | 5, _ => exact lparStep5 g g7 n cap cap7 j qj rc ra P hj a w v0 v1 k0 k2 h13 h14 h15 hat
    | 6, _ => exact lparStep6 g g7 n cap cap7 j qj rc ra P hj a w v0 v1 k0 k2 h13 h14 h15 hat
    | 7, _ => exact lparStep7 g g7 n cap cap7 j qj rc ra P hj a w v0 v1 k0 k2 h13 h14 h15 hat
    | 8, _ => exact lparStep8 g g7 n cap cap7 j qj rc ra P hj a w v0 v1 k0 k2 h13 h14 h15 hat
    | 9, _ => exact lparStep9 g g7 n cap cap7 j qj rc ra P hj a w v0 v1 k0 k2 h13 h14 h15 hat
    | 10, _ => exact lparStep10 g g7 n cap cap7 j qj rc ra P hj a w v0 v1 k0 k2 h13 h14 h15 hat
    | 11, _ => exact lparStep11 g g7 n cap cap7 j qj rc ra P hj a w v0 v1 k0 k2 h13 h14 h15 hat
    | 12, _ => exact lparStep12 g g7 n cap cap7 j qj rc ra P hj a w v0 v1 k0 k2 h13 h14 h15 hat
    | 13, _ => exact lparStep13 g g7 n cap cap7 j qj rc ra P hj a w v0 v1 k0 k2 h13 h14 h15 hat
    | 14, _ => exact lparStep14 g g7 n cap cap7 j qj rc ra P hj a w v0 v1 k0 k2 h13 h14 h15 hat
    | 15, _ => exact lparStep15 g g7 n cap cap7 j qj rc ra P hj a w v0 v1 k0 k2 h13 h14 h15 hat
    | 16, _ => exact lparStep16 g g7 n cap cap7 j qj rc ra P hj a w v0 v1 k0 k2 h13 h14 h15 hat
    | 17, _ => exact lparStep17 g g7 n cap cap7 j qj rc ra P hj a w v0 v1 k0 k2 h13 h14 h15 hat
    | k + 18, h => exact absurd h (by omega)
  · intro a w hs hd hz hfr hat
    exact hK a w hs hd hz hfr (hat 17 (by rw [lpar_size]; decide) (is (.bool false)) (some 99) rfl rfl)
end Go.Proofs.Ytclaagihmpghnaa
