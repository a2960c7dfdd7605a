/-
  The region that draws in node.Same (number 3), operation by operation. Written by draw6.py.
  The region that draws in node.Same (number 3), operation by operation. Written by draw6.py.
  Whether two nodes are the same.
-/
import Derived.Test.YtoobelcphcndoaaGreatDraw
import Derived.Test.YtoobelcphcndoaaGreatNdE
import Derived.Test.YtoobelcphcndoaaGreatLfG
import Derived.Test.YtoobelcphcndoaaGreatInS
namespace Go.Proofs.YtoobelcphcndoaaGreat
open Go.RowKit
set_option linter.unusedVariables false
set_option linter.unusedSimpArgs false


def ndstDs : List Nat := [14, 15, 16, 17, 18, 19, 20, 21, 22, 23, 24, 25, 26, 27, 28, 29, 30, 31, 32, 33, 4]
def ndstDl : List (Option Nat) := [some 14, some 15, some 16, some 17, some 18, some 19, some 20, some 21, some 22, some 23, some 24, some 25, some 26, some 27, some 28, some 29, some 30, some 31, some 32, some 33, some 4]
theorem ndst_dl : ((Tryz.f17.body.bind (regionOps 3)).getD #[]).toList.map (·.dst) = ndstDl := by kernel_rfl
theorem ndst_back : backB ((Tryz.f17.body.bind (regionOps 3)).getD #[]) = true := by kernel_rfl
theorem ndst_size : ((Tryz.f17.body.bind (regionOps 3)).getD #[]).size = 21 := by kernel_rfl
theorem ndst_nd : ndstDl.Pairwise (fun x y => x = none ∨ x ≠ y) := by decide
theorem ndst_lt (d : Nat) (h : some d ∈ ndstDl) : d < 34 := by
  have hh : ndstDl.all (fun o => o.all (fun d => decide (d < 34))) = true := by decide
  simpa using List.all_eq_true.1 hh _ h
theorem ndstOp0 : opIs ((Tryz.f17.body.bind (regionOps 3)).getD #[]) 0 (some 14) (Op.move (Operand.tmp 0)) (none) := opIs_of (by kernel_rfl)
theorem ndstOp1 : opIs ((Tryz.f17.body.bind (regionOps 3)).getD #[]) 1 (some 15) (Op.nilCheck (Operand.tmp 14)) (none) := opIs_of (by kernel_rfl)
theorem ndstOp2 : opIs ((Tryz.f17.body.bind (regionOps 3)).getD #[]) 2 (some 16) (Op.fieldAddr 80 (Operand.tmp 15) 0) (none) := opIs_of (by kernel_rfl)
theorem ndstOp3 : opIs ((Tryz.f17.body.bind (regionOps 3)).getD #[]) 3 (some 17) (Op.load 43 (Operand.tmp 16)) (none) := opIs_of (by kernel_rfl)
theorem ndstOp4 : opIs ((Tryz.f17.body.bind (regionOps 3)).getD #[]) 4 (some 18) (Op.move (Operand.tmp 1)) (none) := opIs_of (by kernel_rfl)
theorem ndstOp5 : opIs ((Tryz.f17.body.bind (regionOps 3)).getD #[]) 5 (some 19) (Op.nilCheck (Operand.tmp 18)) (none) := opIs_of (by kernel_rfl)
theorem ndstOp6 : opIs ((Tryz.f17.body.bind (regionOps 3)).getD #[]) 6 (some 20) (Op.fieldAddr 80 (Operand.tmp 19) 0) (none) := opIs_of (by kernel_rfl)
theorem ndstOp7 : opIs ((Tryz.f17.body.bind (regionOps 3)).getD #[]) 7 (some 21) (Op.load 43 (Operand.tmp 20)) (none) := opIs_of (by kernel_rfl)
theorem ndstOp8 : opIs ((Tryz.f17.body.bind (regionOps 3)).getD #[]) 8 (some 22) (Op.call { callee := Callee.value (Operand.func 29), args := #[Operand.tmp 17, Operand.tmp 21], argTypes := #[43, 43] }) (none) := opIs_of (by kernel_rfl)
theorem ndstOp9 : opIs ((Tryz.f17.body.bind (regionOps 3)).getD #[]) 9 (some 23) (Op.move (Operand.tmp 22)) (none) := opIs_of (by kernel_rfl)
theorem ndstOp10 : opIs ((Tryz.f17.body.bind (regionOps 3)).getD #[]) 10 (some 24) (Op.move (Operand.tmp 0)) (some (9, true)) := opIs_of (by kernel_rfl)
theorem ndstOp11 : opIs ((Tryz.f17.body.bind (regionOps 3)).getD #[]) 11 (some 25) (Op.nilCheck (Operand.tmp 24)) (some (9, true)) := opIs_of (by kernel_rfl)
theorem ndstOp12 : opIs ((Tryz.f17.body.bind (regionOps 3)).getD #[]) 12 (some 26) (Op.fieldAddr 80 (Operand.tmp 25) 1) (some (9, true)) := opIs_of (by kernel_rfl)
theorem ndstOp13 : opIs ((Tryz.f17.body.bind (regionOps 3)).getD #[]) 13 (some 27) (Op.load 45 (Operand.tmp 26)) (some (9, true)) := opIs_of (by kernel_rfl)
theorem ndstOp14 : opIs ((Tryz.f17.body.bind (regionOps 3)).getD #[]) 14 (some 28) (Op.move (Operand.tmp 1)) (some (9, true)) := opIs_of (by kernel_rfl)
theorem ndstOp15 : opIs ((Tryz.f17.body.bind (regionOps 3)).getD #[]) 15 (some 29) (Op.nilCheck (Operand.tmp 28)) (some (9, true)) := opIs_of (by kernel_rfl)
theorem ndstOp16 : opIs ((Tryz.f17.body.bind (regionOps 3)).getD #[]) 16 (some 30) (Op.fieldAddr 80 (Operand.tmp 29) 1) (some (9, true)) := opIs_of (by kernel_rfl)
theorem ndstOp17 : opIs ((Tryz.f17.body.bind (regionOps 3)).getD #[]) 17 (some 31) (Op.load 45 (Operand.tmp 30)) (some (9, true)) := opIs_of (by kernel_rfl)
theorem ndstOp18 : opIs ((Tryz.f17.body.bind (regionOps 3)).getD #[]) 18 (some 32) (Op.call { callee := Callee.value (Operand.func 34), args := #[Operand.tmp 27, Operand.tmp 31], argTypes := #[45, 45] }) (some (9, true)) := opIs_of (by kernel_rfl)
theorem ndstOp19 : opIs ((Tryz.f17.body.bind (regionOps 3)).getD #[]) 19 (some 33) (Op.pick (Operand.tmp 23) (Operand.tmp 32) (Operand.const (Value.bool false))) (none) := opIs_of (by kernel_rfl)
theorem ndstOp20 : opIs ((Tryz.f17.body.bind (regionOps 3)).getD #[]) 20 (some 4) (Op.assign (Operand.tmp 33)) (none) := opIs_of (by kernel_rfl)
/-- What is said of each slot. -/
def ndstSp (p p2 : Nat) (y1 y2 z1 z2 : Option Addr) (B : Bool) (i : Nat) (w : World) (v : Value) : Prop := match i with
  | 0 => v = .pointer (some ⟨p, 0, none⟩)
  | 1 => v = .pointer (some ⟨p, 0, none⟩)
  | 2 => v = .pointer (some ⟨p, 0, none⟩)
  | 3 => v = .pointer y1
  | 4 => v = .pointer (some ⟨p2, 0, none⟩)
  | 5 => v = .pointer (some ⟨p2, 0, none⟩)
  | 6 => v = .pointer (some ⟨p2, 0, none⟩)
  | 7 => v = .pointer y2
  | 8 => v = .bool true
  | 9 => v = .bool true
  | 10 => v = .pointer (some ⟨p, 0, none⟩)
  | 11 => v = .pointer (some ⟨p, 0, none⟩)
  | 12 => v = .pointer (some ⟨p, 1, none⟩)
  | 13 => v = .pointer z1
  | 14 => v = .pointer (some ⟨p2, 0, none⟩)
  | 15 => v = .pointer (some ⟨p2, 0, none⟩)
  | 16 => v = .pointer (some ⟨p2, 1, none⟩)
  | 17 => v = .pointer z2
  | 18 => v = .bool B
  | 19 => v = .bool B
  | 20 => v = .bool B
  | _ => True
theorem ndstSp_mono (p p2 : Nat) (y1 y2 z1 z2 : Option Addr) (B : Bool) : ∀ i w w' v, Step noF w w' → ndstSp p p2 y1 y2 z1 z2 B i w v → ndstSp p p2 y1 y2 z1 z2 B i w' v := by
  intro i w w' v hs h
  match i with
  | 0 => exact h
  | 1 => exact h
  | 2 => exact h
  | 3 => exact h
  | 4 => exact h
  | 5 => exact h
  | 6 => exact h
  | 7 => exact h
  | 8 => exact h
  | 9 => exact h
  | 10 => exact h
  | 11 => exact h
  | 12 => exact h
  | 13 => exact h
  | 14 => exact h
  | 15 => exact h
  | 16 => exact h
  | 17 => exact h
  | 18 => exact h
  | 19 => exact h
  | 20 => exact h
  | k + 21 => exact h

set_option maxHeartbeats 4000000 in
set_option maxRecDepth 100000 in
theorem ndst_go (p p2 : Nat) (y1 y2 z1 z2 : Option Addr) (B : Bool) (w0 : World) (k10 : w0.cell? ⟨p, 0, none⟩ = some (.pointer y1)) (k20 : w0.cell? ⟨p2, 0, none⟩ = some (.pointer y2)) (c220 : ∀ w0', Step noF w0 w0' → Calls Tryz.prog 29 #[.pointer y1, .pointer y2] w0' fun e w0'' => e = .returned (.bool true) ∧ Step noF w0' w0'') (p10 : w0.cell? ⟨p, 1, none⟩ = some (.pointer z1)) (p2_0 : w0.cell? ⟨p2, 1, none⟩ = some (.pointer z2)) (c320 : ∀ w0', Step noF w0 w0' → Calls Tryz.prog 34 #[.pointer z1, .pointer z2] w0' fun e w0'' => e = .returned (.bool B) ∧ Step noF w0' w0'')
    {Q : Exit → Act → World → Prop} (a0 : Act) (hsz : a0.tmps.size = 34) (h0 : a0.tmps.getD 0 undef = .pointer (some ⟨p, 0, none⟩)) (h1 : a0.tmps.getD 1 undef = .pointer (some ⟨p2, 0, none⟩))
    (hend : ∀ (f : Nat → Value) (w : World), Step noF w0 w → ndstSp p p2 y1 y2 z1 z2 B 20 w (f 4) → Q .normal (putAll a0 (ndstDs.map some) (ndstDs.map f)) w) :
    (Code.region 3 ((Tryz.f17.body.bind (regionOps 3)).getD #[]) true).wp Tryz.prog Q a0 w0 := by
  refine wp_region_preds (ndstSp p p2 y1 y2 z1 z2 B) (ndstSp_mono p p2 y1 y2 z1 z2 B) ndstDl (by kernel_rfl) ndst_back ndst_dl ndst_nd (fun d h => by rw [hsz]; exact ndst_lt d h) ?_ ?_
  · intro i hi a w hs hfr hat
    rw [ndst_size] at hi
    have n0 := (hfr 0 (by decide)).trans h0
    have n1 := (hfr 1 (by decide)).trans h1
    have k1 : w.cell? ⟨p, 0, none⟩ = some (.pointer y1) := hs.after k10
    have k2 : w.cell? ⟨p2, 0, none⟩ = some (.pointer y2) := hs.after k20
    have c22 : ∀ w', Step noF w w' → Calls Tryz.prog 29 #[.pointer y1, .pointer y2] w' fun e w'' => e = .returned (.bool true) ∧ Step noF w' w'' := fun w' s' => c220 w' (hs.trans s')
    have p1 : w.cell? ⟨p, 1, none⟩ = some (.pointer z1) := hs.after p10
    have p2_ : w.cell? ⟨p2, 1, none⟩ = some (.pointer z2) := hs.after p2_0
    have c32 : ∀ w', Step noF w w' → Calls Tryz.prog 34 #[.pointer z1, .pointer z2] w' fun e w'' => e = .returned (.bool B) ∧ Step noF w' w'' := fun w' s' => c320 w' (hs.trans s')
    match i, hi with
    | 0, _ =>
      refine op_runs (d := some 14) ndstOp0 (wants_none a) (v := .pointer (some ⟨p, 0, none⟩)) (w' := w) ?_ ⟨14, _, rfl, rfl, Step.refl _ _, rfl⟩
      intro oo hoo
      simp only [execOp, hoo, Act.eval, n0]
      go_simp
    | 1, _ =>
      have n14 : a.tmps.getD 14 undef = _ := hat 0 (lc (by kernel_rfl)) 14 rfl
      refine op_runs (d := some 15) ndstOp1 (wants_none a) (v := .pointer (some ⟨p, 0, none⟩)) (w' := w) ?_ ⟨15, _, rfl, rfl, Step.refl _ _, rfl⟩
      intro oo hoo
      simp only [execOp, hoo, Act.eval, n14]
      go_simp
    | 2, _ =>
      have n15 : a.tmps.getD 15 undef = _ := hat 1 (lc (by kernel_rfl)) 15 rfl
      refine op_runs (d := some 16) ndstOp2 (wants_none a) (v := .pointer (some ⟨p, 0, none⟩)) (w' := w) ?_ ⟨16, _, rfl, rfl, Step.refl _ _, rfl⟩
      intro oo hoo
      simp only [execOp, hoo, Act.eval, n15]
      go_simp
    | 3, _ =>
      have n16 : a.tmps.getD 16 undef = _ := hat 2 (lc (by kernel_rfl)) 16 rfl
      refine op_runs (d := some 17) ndstOp3 (wants_none a) (v := .pointer y1) (w' := w) ?_ ⟨17, _, rfl, rfl, Step.refl _ _, rfl⟩
      intro oo hoo
      simp only [execOp, hoo, Act.eval, n16]
      go_simp
    | 4, _ =>
      refine op_runs (d := some 18) ndstOp4 (wants_none a) (v := .pointer (some ⟨p2, 0, none⟩)) (w' := w) ?_ ⟨18, _, rfl, rfl, Step.refl _ _, rfl⟩
      intro oo hoo
      simp only [execOp, hoo, Act.eval, n1]
      go_simp
    | 5, _ =>
      have n18 : a.tmps.getD 18 undef = _ := hat 4 (lc (by kernel_rfl)) 18 rfl
      refine op_runs (d := some 19) ndstOp5 (wants_none a) (v := .pointer (some ⟨p2, 0, none⟩)) (w' := w) ?_ ⟨19, _, rfl, rfl, Step.refl _ _, rfl⟩
      intro oo hoo
      simp only [execOp, hoo, Act.eval, n18]
      go_simp
    | 6, _ =>
      have n19 : a.tmps.getD 19 undef = _ := hat 5 (lc (by kernel_rfl)) 19 rfl
      refine op_runs (d := some 20) ndstOp6 (wants_none a) (v := .pointer (some ⟨p2, 0, none⟩)) (w' := w) ?_ ⟨20, _, rfl, rfl, Step.refl _ _, rfl⟩
      intro oo hoo
      simp only [execOp, hoo, Act.eval, n19]
      go_simp
    | 7, _ =>
      have n20 : a.tmps.getD 20 undef = _ := hat 6 (lc (by kernel_rfl)) 20 rfl
      refine op_runs (d := some 21) ndstOp7 (wants_none a) (v := .pointer y2) (w' := w) ?_ ⟨21, _, rfl, rfl, Step.refl _ _, rfl⟩
      intro oo hoo
      simp only [execOp, hoo, Act.eval, n20]
      go_simp
    | 8, _ =>
      have n17 : a.tmps.getD 17 undef = _ := hat 3 (lc (by kernel_rfl)) 17 rfl
      have n21 : a.tmps.getD 21 undef = _ := hat 7 (lc (by kernel_rfl)) 21 rfl
      refine op_calls ndstOp8 (wants_none a) Tryz.func29 (by kernel_rfl) (by kernel_rfl) (args := #[.pointer y1, .pointer y2]) (by simp [Act.eval, n17, n21]) ((c22 w (Step.refl _ _)).mono ?_)
      rintro e w' ⟨rfl, s'⟩
      exact ⟨_, rfl, 22, _, rfl, rfl, s', rfl⟩
    | 9, _ =>
      have n22 : a.tmps.getD 22 undef = _ := hat 8 (lc (by kernel_rfl)) 22 rfl
      refine op_runs (d := some 23) ndstOp9 (wants_none a) (v := .bool true) (w' := w) ?_ ⟨23, _, rfl, rfl, Step.refl _ _, rfl⟩
      intro oo hoo
      simp only [execOp, hoo, Act.eval, n22]
      go_simp
    | 10, _ =>
      have n23 : a.tmps.getD 23 undef = _ := hat 9 (lc (by kernel_rfl)) 23 rfl
      refine op_runs (d := some 24) ndstOp10 (wants_some (d := 23) (b := true) (by kernel_rfl) n23) (v := .pointer (some ⟨p, 0, none⟩)) (w' := w) ?_ ⟨24, _, rfl, rfl, Step.refl _ _, rfl⟩
      intro oo hoo
      simp only [execOp, hoo, Act.eval, n0]
      go_simp
    | 11, _ =>
      have n24 : a.tmps.getD 24 undef = _ := hat 10 (lc (by kernel_rfl)) 24 rfl
      have n23 : a.tmps.getD 23 undef = _ := hat 9 (lc (by kernel_rfl)) 23 rfl
      refine op_runs (d := some 25) ndstOp11 (wants_some (d := 23) (b := true) (by kernel_rfl) n23) (v := .pointer (some ⟨p, 0, none⟩)) (w' := w) ?_ ⟨25, _, rfl, rfl, Step.refl _ _, rfl⟩
      intro oo hoo
      simp only [execOp, hoo, Act.eval, n24]
      go_simp
    | 12, _ =>
      have n25 : a.tmps.getD 25 undef = _ := hat 11 (lc (by kernel_rfl)) 25 rfl
      have n23 : a.tmps.getD 23 undef = _ := hat 9 (lc (by kernel_rfl)) 23 rfl
      refine op_runs (d := some 26) ndstOp12 (wants_some (d := 23) (b := true) (by kernel_rfl) n23) (v := .pointer (some ⟨p, 1, none⟩)) (w' := w) ?_ ⟨26, _, rfl, rfl, Step.refl _ _, rfl⟩
      intro oo hoo
      simp only [execOp, hoo, Act.eval, n25]
      go_simp
    | 13, _ =>
      have n26 : a.tmps.getD 26 undef = _ := hat 12 (lc (by kernel_rfl)) 26 rfl
      have n23 : a.tmps.getD 23 undef = _ := hat 9 (lc (by kernel_rfl)) 23 rfl
      refine op_runs (d := some 27) ndstOp13 (wants_some (d := 23) (b := true) (by kernel_rfl) n23) (v := .pointer z1) (w' := w) ?_ ⟨27, _, rfl, rfl, Step.refl _ _, rfl⟩
      intro oo hoo
      simp only [execOp, hoo, Act.eval, n26]
      go_simp
    | 14, _ =>
      have n23 : a.tmps.getD 23 undef = _ := hat 9 (lc (by kernel_rfl)) 23 rfl
      refine op_runs (d := some 28) ndstOp14 (wants_some (d := 23) (b := true) (by kernel_rfl) n23) (v := .pointer (some ⟨p2, 0, none⟩)) (w' := w) ?_ ⟨28, _, rfl, rfl, Step.refl _ _, rfl⟩
      intro oo hoo
      simp only [execOp, hoo, Act.eval, n1]
      go_simp
    | 15, _ =>
      have n28 : a.tmps.getD 28 undef = _ := hat 14 (lc (by kernel_rfl)) 28 rfl
      have n23 : a.tmps.getD 23 undef = _ := hat 9 (lc (by kernel_rfl)) 23 rfl
      refine op_runs (d := some 29) ndstOp15 (wants_some (d := 23) (b := true) (by kernel_rfl) n23) (v := .pointer (some ⟨p2, 0, none⟩)) (w' := w) ?_ ⟨29, _, rfl, rfl, Step.refl _ _, rfl⟩
      intro oo hoo
      simp only [execOp, hoo, Act.eval, n28]
      go_simp
    | 16, _ =>
      have n29 : a.tmps.getD 29 undef = _ := hat 15 (lc (by kernel_rfl)) 29 rfl
      have n23 : a.tmps.getD 23 undef = _ := hat 9 (lc (by kernel_rfl)) 23 rfl
      refine op_runs (d := some 30) ndstOp16 (wants_some (d := 23) (b := true) (by kernel_rfl) n23) (v := .pointer (some ⟨p2, 1, none⟩)) (w' := w) ?_ ⟨30, _, rfl, rfl, Step.refl _ _, rfl⟩
      intro oo hoo
      simp only [execOp, hoo, Act.eval, n29]
      go_simp
    | 17, _ =>
      have n30 : a.tmps.getD 30 undef = _ := hat 16 (lc (by kernel_rfl)) 30 rfl
      have n23 : a.tmps.getD 23 undef = _ := hat 9 (lc (by kernel_rfl)) 23 rfl
      refine op_runs (d := some 31) ndstOp17 (wants_some (d := 23) (b := true) (by kernel_rfl) n23) (v := .pointer z2) (w' := w) ?_ ⟨31, _, rfl, rfl, Step.refl _ _, rfl⟩
      intro oo hoo
      simp only [execOp, hoo, Act.eval, n30]
      go_simp
    | 18, _ =>
      have n27 : a.tmps.getD 27 undef = _ := hat 13 (lc (by kernel_rfl)) 27 rfl
      have n31 : a.tmps.getD 31 undef = _ := hat 17 (lc (by kernel_rfl)) 31 rfl
      have n23 : a.tmps.getD 23 undef = _ := hat 9 (lc (by kernel_rfl)) 23 rfl
      refine op_calls ndstOp18 (wants_some (d := 23) (b := true) (by kernel_rfl) n23) Tryz.func34 (by kernel_rfl) (by kernel_rfl) (args := #[.pointer z1, .pointer z2]) (by simp [Act.eval, n27, n31]) ((c32 w (Step.refl _ _)).mono ?_)
      rintro e w' ⟨rfl, s'⟩
      exact ⟨_, rfl, 32, _, rfl, rfl, s', rfl⟩
    | 19, _ =>
      have n23 : a.tmps.getD 23 undef = _ := hat 9 (lc (by kernel_rfl)) 23 rfl
      have n32 : a.tmps.getD 32 undef = _ := hat 18 (lc (by kernel_rfl)) 32 rfl
      refine op_runs (d := some 33) ndstOp19 (wants_none a) (v := .bool B) (w' := w) ?_ ⟨33, _, rfl, rfl, Step.refl _ _, rfl⟩
      intro oo hoo
      simp only [execOp, hoo, Act.eval, n23, n32]
      go_simp
    | 20, _ =>
      have n33 : a.tmps.getD 33 undef = _ := hat 19 (lc (by kernel_rfl)) 33 rfl
      refine op_runs (d := some 4) ndstOp20 (wants_none a) (v := .bool B) (w' := w) ?_ ⟨4, _, rfl, rfl, Step.refl _ _, rfl⟩
      intro oo hoo
      simp only [execOp, hoo, Act.eval, n33]
      go_simp
    | k + 21, h => exact absurd h (by omega)
  · intro a w hs hdf hs2 hfr hat
    rw [ndst_size] at hat
    have e := act_vals (a := a) (a0 := a0) ndstDs (by decide) (fun d hd => by rw [hsz]; exact ndst_lt d (by revert hd; revert d; decide)) hdf hs2 (fun k hk => hfr k (fun hk2 => hk (by revert hk2; simp [ndstDl, ndstDs])))
    rw [e]
    exact hend (fun d => a.tmps.getD d undef) w hs (hat 20 (by omega) 4 rfl)
set_option maxRecDepth 100000 in
theorem ndst_lit (f : Nat → Value) (D : List Deferred) (x0 x1 x2 x3 x4 x5 x6 x7 x8 x9 x10 x11 x12 x13 x14 x15 x16 x17 x18 x19 x20 x21 x22 x23 x24 x25 x26 x27 x28 x29 x30 x31 x32 x33 : Value) : putAll { tmps := #[x0, x1, x2, x3, x4, x5, x6, x7, x8, x9, x10, x11, x12, x13, x14, x15, x16, x17, x18, x19, x20, x21, x22, x23, x24, x25, x26, x27, x28, x29, x30, x31, x32, x33], defers := D } (ndstDs.map some) (ndstDs.map f) = { tmps := #[x0, x1, x2, x3, f 4, x5, x6, x7, x8, x9, x10, x11, x12, x13, f 14, f 15, f 16, f 17, f 18, f 19, f 20, f 21, f 22, f 23, f 24, f 25, f 26, f 27, f 28, f 29, f 30, f 31, f 32, f 33], defers := D } := by kernel_rfl
end Go.Proofs.YtoobelcphcndoaaGreat
namespace Go.Proofs.YtoobelcphcndoaaGreat
open Go.RowKit
set_option linter.unusedVariables false
set_option linter.unusedSimpArgs false


/-- What is said of each slot. -/
def ndsfSp (p p2 : Nat) (y1 y2 z1 z2 : Option Addr) (B : Bool) (i : Nat) (w : World) (v : Value) : Prop := match i with
  | 0 => v = .pointer (some ⟨p, 0, none⟩)
  | 1 => v = .pointer (some ⟨p, 0, none⟩)
  | 2 => v = .pointer (some ⟨p, 0, none⟩)
  | 3 => v = .pointer y1
  | 4 => v = .pointer (some ⟨p2, 0, none⟩)
  | 5 => v = .pointer (some ⟨p2, 0, none⟩)
  | 6 => v = .pointer (some ⟨p2, 0, none⟩)
  | 7 => v = .pointer y2
  | 8 => v = .bool false
  | 9 => v = .bool false
  | 10 => v = undef
  | 11 => v = undef
  | 12 => v = undef
  | 13 => v = undef
  | 14 => v = undef
  | 15 => v = undef
  | 16 => v = undef
  | 17 => v = undef
  | 18 => v = undef
  | 19 => v = .bool false
  | 20 => v = .bool false
  | _ => True
theorem ndsfSp_mono (p p2 : Nat) (y1 y2 z1 z2 : Option Addr) (B : Bool) : ∀ i w w' v, Step noF w w' → ndsfSp p p2 y1 y2 z1 z2 B i w v → ndsfSp p p2 y1 y2 z1 z2 B i w' v := by
  intro i w w' v hs h
  match i with
  | 0 => exact h
  | 1 => exact h
  | 2 => exact h
  | 3 => exact h
  | 4 => exact h
  | 5 => exact h
  | 6 => exact h
  | 7 => exact h
  | 8 => exact h
  | 9 => exact h
  | 10 => exact h
  | 11 => exact h
  | 12 => exact h
  | 13 => exact h
  | 14 => exact h
  | 15 => exact h
  | 16 => exact h
  | 17 => exact h
  | 18 => exact h
  | 19 => exact h
  | 20 => exact h
  | k + 21 => exact h

set_option maxHeartbeats 4000000 in
set_option maxRecDepth 100000 in
theorem ndsf_go (p p2 : Nat) (y1 y2 z1 z2 : Option Addr) (B : Bool) (w0 : World) (k10 : w0.cell? ⟨p, 0, none⟩ = some (.pointer y1)) (k20 : w0.cell? ⟨p2, 0, none⟩ = some (.pointer y2)) (c220 : ∀ w0', Step noF w0 w0' → Calls Tryz.prog 29 #[.pointer y1, .pointer y2] w0' fun e w0'' => e = .returned (.bool false) ∧ Step noF w0' w0'')
    {Q : Exit → Act → World → Prop} (a0 : Act) (hsz : a0.tmps.size = 34) (h0 : a0.tmps.getD 0 undef = .pointer (some ⟨p, 0, none⟩)) (h1 : a0.tmps.getD 1 undef = .pointer (some ⟨p2, 0, none⟩))
    (hend : ∀ (f : Nat → Value) (w : World), Step noF w0 w → ndsfSp p p2 y1 y2 z1 z2 B 20 w (f 4) → Q .normal (putAll a0 (ndstDs.map some) (ndstDs.map f)) w) :
    (Code.region 3 ((Tryz.f17.body.bind (regionOps 3)).getD #[]) true).wp Tryz.prog Q a0 w0 := by
  refine wp_region_preds (ndsfSp p p2 y1 y2 z1 z2 B) (ndsfSp_mono p p2 y1 y2 z1 z2 B) ndstDl (by kernel_rfl) ndst_back ndst_dl ndst_nd (fun d h => by rw [hsz]; exact ndst_lt d h) ?_ ?_
  · intro i hi a w hs hfr hat
    rw [ndst_size] at hi
    have n0 := (hfr 0 (by decide)).trans h0
    have n1 := (hfr 1 (by decide)).trans h1
    have k1 : w.cell? ⟨p, 0, none⟩ = some (.pointer y1) := hs.after k10
    have k2 : w.cell? ⟨p2, 0, none⟩ = some (.pointer y2) := hs.after k20
    have c22 : ∀ w', Step noF w w' → Calls Tryz.prog 29 #[.pointer y1, .pointer y2] w' fun e w'' => e = .returned (.bool false) ∧ Step noF w' w'' := fun w' s' => c220 w' (hs.trans s')
    match i, hi with
    | 0, _ =>
      refine op_runs (d := some 14) ndstOp0 (wants_none a) (v := .pointer (some ⟨p, 0, none⟩)) (w' := w) ?_ ⟨14, _, rfl, rfl, Step.refl _ _, rfl⟩
      intro oo hoo
      simp only [execOp, hoo, Act.eval, n0]
      go_simp
    | 1, _ =>
      have n14 : a.tmps.getD 14 undef = _ := hat 0 (lc (by kernel_rfl)) 14 rfl
      refine op_runs (d := some 15) ndstOp1 (wants_none a) (v := .pointer (some ⟨p, 0, none⟩)) (w' := w) ?_ ⟨15, _, rfl, rfl, Step.refl _ _, rfl⟩
      intro oo hoo
      simp only [execOp, hoo, Act.eval, n14]
      go_simp
    | 2, _ =>
      have n15 : a.tmps.getD 15 undef = _ := hat 1 (lc (by kernel_rfl)) 15 rfl
      refine op_runs (d := some 16) ndstOp2 (wants_none a) (v := .pointer (some ⟨p, 0, none⟩)) (w' := w) ?_ ⟨16, _, rfl, rfl, Step.refl _ _, rfl⟩
      intro oo hoo
      simp only [execOp, hoo, Act.eval, n15]
      go_simp
    | 3, _ =>
      have n16 : a.tmps.getD 16 undef = _ := hat 2 (lc (by kernel_rfl)) 16 rfl
      refine op_runs (d := some 17) ndstOp3 (wants_none a) (v := .pointer y1) (w' := w) ?_ ⟨17, _, rfl, rfl, Step.refl _ _, rfl⟩
      intro oo hoo
      simp only [execOp, hoo, Act.eval, n16]
      go_simp
    | 4, _ =>
      refine op_runs (d := some 18) ndstOp4 (wants_none a) (v := .pointer (some ⟨p2, 0, none⟩)) (w' := w) ?_ ⟨18, _, rfl, rfl, Step.refl _ _, rfl⟩
      intro oo hoo
      simp only [execOp, hoo, Act.eval, n1]
      go_simp
    | 5, _ =>
      have n18 : a.tmps.getD 18 undef = _ := hat 4 (lc (by kernel_rfl)) 18 rfl
      refine op_runs (d := some 19) ndstOp5 (wants_none a) (v := .pointer (some ⟨p2, 0, none⟩)) (w' := w) ?_ ⟨19, _, rfl, rfl, Step.refl _ _, rfl⟩
      intro oo hoo
      simp only [execOp, hoo, Act.eval, n18]
      go_simp
    | 6, _ =>
      have n19 : a.tmps.getD 19 undef = _ := hat 5 (lc (by kernel_rfl)) 19 rfl
      refine op_runs (d := some 20) ndstOp6 (wants_none a) (v := .pointer (some ⟨p2, 0, none⟩)) (w' := w) ?_ ⟨20, _, rfl, rfl, Step.refl _ _, rfl⟩
      intro oo hoo
      simp only [execOp, hoo, Act.eval, n19]
      go_simp
    | 7, _ =>
      have n20 : a.tmps.getD 20 undef = _ := hat 6 (lc (by kernel_rfl)) 20 rfl
      refine op_runs (d := some 21) ndstOp7 (wants_none a) (v := .pointer y2) (w' := w) ?_ ⟨21, _, rfl, rfl, Step.refl _ _, rfl⟩
      intro oo hoo
      simp only [execOp, hoo, Act.eval, n20]
      go_simp
    | 8, _ =>
      have n17 : a.tmps.getD 17 undef = _ := hat 3 (lc (by kernel_rfl)) 17 rfl
      have n21 : a.tmps.getD 21 undef = _ := hat 7 (lc (by kernel_rfl)) 21 rfl
      refine op_calls ndstOp8 (wants_none a) Tryz.func29 (by kernel_rfl) (by kernel_rfl) (args := #[.pointer y1, .pointer y2]) (by simp [Act.eval, n17, n21]) ((c22 w (Step.refl _ _)).mono ?_)
      rintro e w' ⟨rfl, s'⟩
      exact ⟨_, rfl, 22, _, rfl, rfl, s', rfl⟩
    | 9, _ =>
      have n22 : a.tmps.getD 22 undef = _ := hat 8 (lc (by kernel_rfl)) 22 rfl
      refine op_runs (d := some 23) ndstOp9 (wants_none a) (v := .bool false) (w' := w) ?_ ⟨23, _, rfl, rfl, Step.refl _ _, rfl⟩
      intro oo hoo
      simp only [execOp, hoo, Act.eval, n22]
      go_simp
    | 10, _ =>
      have n23 : a.tmps.getD 23 undef = _ := hat 9 (lc (by kernel_rfl)) 23 rfl
      exact op_skip ndstOp10 (dj := 23) (by kernel_rfl) n23 (by decide) ⟨24, undef, rfl, rfl, Step.refl _ _, rfl⟩
    | 11, _ =>
      have n23 : a.tmps.getD 23 undef = _ := hat 9 (lc (by kernel_rfl)) 23 rfl
      exact op_skip ndstOp11 (dj := 23) (by kernel_rfl) n23 (by decide) ⟨25, undef, rfl, rfl, Step.refl _ _, rfl⟩
    | 12, _ =>
      have n23 : a.tmps.getD 23 undef = _ := hat 9 (lc (by kernel_rfl)) 23 rfl
      exact op_skip ndstOp12 (dj := 23) (by kernel_rfl) n23 (by decide) ⟨26, undef, rfl, rfl, Step.refl _ _, rfl⟩
    | 13, _ =>
      have n23 : a.tmps.getD 23 undef = _ := hat 9 (lc (by kernel_rfl)) 23 rfl
      exact op_skip ndstOp13 (dj := 23) (by kernel_rfl) n23 (by decide) ⟨27, undef, rfl, rfl, Step.refl _ _, rfl⟩
    | 14, _ =>
      have n23 : a.tmps.getD 23 undef = _ := hat 9 (lc (by kernel_rfl)) 23 rfl
      exact op_skip ndstOp14 (dj := 23) (by kernel_rfl) n23 (by decide) ⟨28, undef, rfl, rfl, Step.refl _ _, rfl⟩
    | 15, _ =>
      have n23 : a.tmps.getD 23 undef = _ := hat 9 (lc (by kernel_rfl)) 23 rfl
      exact op_skip ndstOp15 (dj := 23) (by kernel_rfl) n23 (by decide) ⟨29, undef, rfl, rfl, Step.refl _ _, rfl⟩
    | 16, _ =>
      have n23 : a.tmps.getD 23 undef = _ := hat 9 (lc (by kernel_rfl)) 23 rfl
      exact op_skip ndstOp16 (dj := 23) (by kernel_rfl) n23 (by decide) ⟨30, undef, rfl, rfl, Step.refl _ _, rfl⟩
    | 17, _ =>
      have n23 : a.tmps.getD 23 undef = _ := hat 9 (lc (by kernel_rfl)) 23 rfl
      exact op_skip ndstOp17 (dj := 23) (by kernel_rfl) n23 (by decide) ⟨31, undef, rfl, rfl, Step.refl _ _, rfl⟩
    | 18, _ =>
      have n23 : a.tmps.getD 23 undef = _ := hat 9 (lc (by kernel_rfl)) 23 rfl
      exact op_skip ndstOp18 (dj := 23) (by kernel_rfl) n23 (by decide) ⟨32, undef, rfl, rfl, Step.refl _ _, rfl⟩
    | 19, _ =>
      have n23 : a.tmps.getD 23 undef = _ := hat 9 (lc (by kernel_rfl)) 23 rfl
      have n32 : a.tmps.getD 32 undef = _ := hat 18 (lc (by kernel_rfl)) 32 rfl
      refine op_runs (d := some 33) ndstOp19 (wants_none a) (v := .bool false) (w' := w) ?_ ⟨33, _, rfl, rfl, Step.refl _ _, rfl⟩
      intro oo hoo
      simp only [execOp, hoo, Act.eval, n23, n32]
      go_simp
    | 20, _ =>
      have n33 : a.tmps.getD 33 undef = _ := hat 19 (lc (by kernel_rfl)) 33 rfl
      refine op_runs (d := some 4) ndstOp20 (wants_none a) (v := .bool false) (w' := w) ?_ ⟨4, _, rfl, rfl, Step.refl _ _, rfl⟩
      intro oo hoo
      simp only [execOp, hoo, Act.eval, n33]
      go_simp
    | k + 21, h => exact absurd h (by omega)
  · intro a w hs hdf hs2 hfr hat
    rw [ndst_size] at hat
    have e := act_vals (a := a) (a0 := a0) ndstDs (by decide) (fun d hd => by rw [hsz]; exact ndst_lt d (by revert hd; revert d; decide)) hdf hs2 (fun k hk => hfr k (fun hk2 => hk (by revert hk2; simp [ndstDl, ndstDs])))
    rw [e]
    exact hend (fun d => a.tmps.getD d undef) w hs (hat 20 (by omega) 4 rfl)
end Go.Proofs.YtoobelcphcndoaaGreat
namespace Go.Proofs.YtoobelcphcndoaaGreat
open Go.RowKit Go.Sort
set_option linter.unusedVariables false
set_option linter.unusedSimpArgs false
set_option maxRecDepth 20000

theorem same_none2 (p : Nat) (w : World) : Calls Tryz.prog 29 #[.pointer none, .pointer (some ⟨p, 0, none⟩)] w fun e w' => e = .returned (.bool false) ∧ w = w' := by
  have hq : ∀ w : World, (binOp .eql 43 (.pointer none) (.pointer (some ⟨p, 0, none⟩))).run Tryz.prog w = .ok (.bool false) w := fun w => by
    have h : ∀ d : Nat, (Op.equalIn (d + 1) 43 (.pointer none) (.pointer (some ⟨p, 0, none⟩))).run Tryz.prog w = .ok false w := fun d => by
      simp [Op.equalIn, run_underlying Tryz.underlying43]
    simp only [binOp]
    simp [Op.equal, Op.maxDepth, h 9999]
  go_enter Tryz.func29, Tryz.ntmps29
  go_wp2_with fail
  go_ret
  exact ⟨rfl, rfl⟩
/-- Whether both are the same. -/
def sameV (v u : Nv) : Bool := Sum.elim (fun xs => Sum.elim (fun ys => sameB xs ys) (fun _ => false) u) (fun d => Sum.elim (fun _ => false) (fun e => sameN d e) u) v
theorem sameV_iff (v u : Nv) : sameV v u = true ↔ v = u := by
  cases v using Nv.two with
  | leaf xs =>
    cases u using Nv.two with
    | leaf ys =>
      show sameB xs ys = true ↔ _
      rw [sameB_iff]
      exact ⟨fun h => by rw [h], fun h => Nv.leaf_one h⟩
    | inn e => exact ⟨(fun h => absurd (show (false : Bool) = true from h) (by decide)), (fun h => (Nv.not_inn h).elim)⟩
  | inn d =>
    cases u using Nv.two with
    | leaf ys => exact ⟨(fun h => absurd (show (false : Bool) = true from h) (by decide)), (fun h => (Nv.not_leaf h).elim)⟩
    | inn e =>
      show sameN d e = true ↔ _
      rw [sameN_iff]
      exact ⟨fun h => by rw [h], fun h => Nv.inn_one h⟩
theorem sameV_self (v : Nv) : sameV v v = true := (sameV_iff v v).2 rfl
theorem ndSame_t (p p2 : Nat) (y1 y2 z1 z2 : Option Addr) (B : Bool) (w : World) (k1 : w.cell? ⟨p, 0, none⟩ = some (.pointer y1)) (k2 : w.cell? ⟨p2, 0, none⟩ = some (.pointer y2)) (k3 : w.cell? ⟨p, 1, none⟩ = some (.pointer z1)) (k4 : w.cell? ⟨p2, 1, none⟩ = some (.pointer z2))
    (cL : ∀ w', Step noF w w' → Calls Tryz.prog 29 #[.pointer y1, .pointer y2] w' fun e w'' => e = .returned (.bool true) ∧ Step noF w' w'')
    (cI : ∀ w', Step noF w w' → Calls Tryz.prog 34 #[.pointer z1, .pointer z2] w' fun e w'' => e = .returned (.bool B) ∧ Step noF w' w'') :
    Calls Tryz.prog 17 #[.pointer (some ⟨p, 0, none⟩), .pointer (some ⟨p2, 0, none⟩)] w fun e w' => e = .returned (.bool B) ∧ Step noF w w' := by
  go_enter Tryz.func17, Tryz.ntmps17
  go_upto_region 3 with fail
  change Code.wp _ (Code.region 3 ((Tryz.f17.body.bind (regionOps 3)).getD #[]) true) _ _ _
  refine ndst_go p p2 y1 y2 z1 z2 B w k1 k2 cL k3 k4 cI _ rfl rfl rfl ?_
  intro ff w1 s1 e4
  have e4' : ff 4 = .bool B := e4
  rw [ndst_lit, e4']
  go_wp2_with fail
  go_ret
  exact ⟨rfl, s1⟩
theorem ndSame_f (p p2 : Nat) (y1 y2 : Option Addr) (w : World) (k1 : w.cell? ⟨p, 0, none⟩ = some (.pointer y1)) (k2 : w.cell? ⟨p2, 0, none⟩ = some (.pointer y2))
    (cL : ∀ w', Step noF w w' → Calls Tryz.prog 29 #[.pointer y1, .pointer y2] w' fun e w'' => e = .returned (.bool false) ∧ Step noF w' w'') :
    Calls Tryz.prog 17 #[.pointer (some ⟨p, 0, none⟩), .pointer (some ⟨p2, 0, none⟩)] w fun e w' => e = .returned (.bool false) ∧ Step noF w w' := by
  go_enter Tryz.func17, Tryz.ntmps17
  go_upto_region 3 with fail
  change Code.wp _ (Code.region 3 ((Tryz.f17.body.bind (regionOps 3)).getD #[]) true) _ _ _
  refine ndsf_go p p2 y1 y2 none none false w k1 k2 cL _ rfl rfl rfl ?_
  intro ff w1 s1 e4
  have e4' : ff 4 = .bool false := e4
  rw [ndst_lit, e4']
  go_wp2_with fail
  go_ret
  exact ⟨rfl, s1⟩
theorem step_of_eq {w w' : World} (h : w = w') : Step noF w w' := h ▸ Step.refl _ _
theorem ndSame_any (p p2 : Nat) (v u : Nv) (hv : v.small) (hu : u.small) (w : World) (h : NodeAt w p v) (h2 : NodeAt w p2 u) :
    Calls Tryz.prog 17 #[.pointer (some ⟨p, 0, none⟩), .pointer (some ⟨p2, 0, none⟩)] w fun e w' => e = .returned (.bool (sameV v u)) ∧ Step noF w w' := by
  cases v using Nv.two with
  | leaf xs =>
    obtain ⟨q, a0, a1, hL⟩ := h.cellL
    cases u using Nv.two with
    | leaf ys =>
      obtain ⟨q2, b0, b1, hL2⟩ := h2.cellL
      show Calls _ _ _ _ fun e w' => e = .returned (.bool (sameB xs ys)) ∧ Step noF w w'
      have cS := fun w' (hs : Step noF w w') => same_any q q2 xs ys ⟨hv.1, hu.1⟩ w' (hL.step hs) (hL2.step hs)
      cases hB : sameB xs ys with
      | true =>
        rw [hB] at cS
        exact ndSame_t p p2 _ _ _ _ true w a0 b0 a1 b1 cS (fun w' _ => (sameNd_nil w').mono (fun e w'' he => ⟨he.1, step_of_eq he.2⟩))
      | false =>
        rw [hB] at cS
        exact ndSame_f p p2 _ _ w a0 b0 cS
    | inn e =>
      obtain ⟨q2, b0, b1, hL2⟩ := h2.cellI
      exact ndSame_f p p2 _ _ w a0 b0 (fun w' _ => (same_none q w').mono (fun e w'' he => ⟨he.1, step_of_eq he.2⟩))
  | inn d =>
    obtain ⟨q, a0, a1, hL⟩ := h.cellI
    cases u using Nv.two with
    | leaf ys =>
      obtain ⟨q2, b0, b1, hL2⟩ := h2.cellL
      exact ndSame_f p p2 _ _ w a0 b0 (fun w' _ => (same_none2 q2 w').mono (fun e w'' he => ⟨he.1, step_of_eq he.2⟩))
    | inn e =>
      obtain ⟨q2, b0, b1, hL2⟩ := h2.cellI
      show Calls _ _ _ _ fun e_1 w' => e_1 = .returned (.bool (sameN d e)) ∧ Step noF w w'
      exact ndSame_t p p2 _ _ _ _ (sameN d e) w a0 b0 a1 b1 (fun w' _ => (same_nil w').mono (fun e w'' he => ⟨he.1, step_of_eq he.2⟩)) (fun w' hs => sameNd_any q q2 d e ⟨⟨hv.1, hv.2.1, hv.2.2.1⟩, ⟨hu.1, hu.2.1, hu.2.2.1⟩⟩ w' (hL.step hs) (hL2.step hs))
theorem ndSame_nil2 (w : World) : Calls Tryz.prog 17 #[.pointer none, .pointer none] w fun e w' => e = .returned (.bool true) ∧ w = w' := by
  go_enter Tryz.func17, Tryz.ntmps17
  go_wp2_with fail
  go_ret
  exact ⟨rfl, rfl⟩
theorem ndSame_nilr (p : Nat) (w : World) : Calls Tryz.prog 17 #[.pointer (some ⟨p, 0, none⟩), .pointer none] w fun e w' => e = .returned (.bool false) ∧ w = w' := by
  go_enter Tryz.func17, Tryz.ntmps17
  go_wp2_with fail
  go_ret
  exact ⟨rfl, rfl⟩
end Go.Proofs.YtoobelcphcndoaaGreat
