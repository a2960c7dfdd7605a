/-
  Whether two inner nodes are the same.
-/
import Derived.Test.YtoobelcphcndoaaGreatDraw
import Derived.Test.YtoobelcphcndoaaGreatInA
import Derived.Test.YtoobelcphcndoaaGreatBfC
import Derived.Deep.Cut
import Derived.Deep.RegionWith
namespace Go.Proofs.YtoobelcphcndoaaGreat
open Go.RowKit
set_option linter.unusedVariables false
set_option linter.unusedSimpArgs false


def isattDs : List Nat := [14, 15, 16, 17, 18, 19, 20, 21, 22, 23, 24, 25, 26, 27, 28, 29, 30, 31, 32, 33, 34, 35, 36, 37, 38, 39, 40, 41, 42, 43, 44, 4]
def isattDl : List (Option Nat) := [some 14, some 15, some 16, some 17, some 18, some 19, some 20, some 21, some 22, some 23, some 24, some 25, some 26, some 27, some 28, some 29, some 30, some 31, some 32, some 33, some 34, some 35, some 36, some 37, some 38, some 39, some 40, some 41, some 42, some 43, some 44, some 4]
theorem isatt_dl : ((Tryz.f34.body.bind (regionOps 3)).getD #[]).toList.map (·.dst) = isattDl := by kernel_rfl
theorem isatt_back : backB ((Tryz.f34.body.bind (regionOps 3)).getD #[]) = true := by kernel_rfl
theorem isatt_size : ((Tryz.f34.body.bind (regionOps 3)).getD #[]).size = 32 := by kernel_rfl
theorem isatt_nd : isattDl.Pairwise (fun x y => x = none ∨ x ≠ y) := by decide
theorem isatt_lt (d : Nat) (h : some d ∈ isattDl) : d < 45 := by
  have hh : isattDl.all (fun o => o.all (fun d => decide (d < 45))) = true := by decide
  simpa using List.all_eq_true.1 hh _ h
theorem isattOp0 : opIs ((Tryz.f34.body.bind (regionOps 3)).getD #[]) 0 (some 14) (Op.move (Operand.tmp 0)) (none) := opIs_of (by kernel_rfl)
theorem isattOp1 : opIs ((Tryz.f34.body.bind (regionOps 3)).getD #[]) 1 (some 15) (Op.nilCheck (Operand.tmp 14)) (none) := opIs_of (by kernel_rfl)
theorem isattOp2 : opIs ((Tryz.f34.body.bind (regionOps 3)).getD #[]) 2 (some 16) (Op.fieldAddr 132 (Operand.tmp 15) 0) (none) := opIs_of (by kernel_rfl)
theorem isattOp3 : opIs ((Tryz.f34.body.bind (regionOps 3)).getD #[]) 3 (some 17) (Op.load 23 (Operand.tmp 16)) (none) := opIs_of (by kernel_rfl)
theorem isattOp4 : opIs ((Tryz.f34.body.bind (regionOps 3)).getD #[]) 4 (some 18) (Op.move (Operand.tmp 1)) (none) := opIs_of (by kernel_rfl)
theorem isattOp5 : opIs ((Tryz.f34.body.bind (regionOps 3)).getD #[]) 5 (some 19) (Op.nilCheck (Operand.tmp 18)) (none) := opIs_of (by kernel_rfl)
theorem isattOp6 : opIs ((Tryz.f34.body.bind (regionOps 3)).getD #[]) 6 (some 20) (Op.fieldAddr 132 (Operand.tmp 19) 0) (none) := opIs_of (by kernel_rfl)
theorem isattOp7 : opIs ((Tryz.f34.body.bind (regionOps 3)).getD #[]) 7 (some 21) (Op.load 23 (Operand.tmp 20)) (none) := opIs_of (by kernel_rfl)
theorem isattOp8 : opIs ((Tryz.f34.body.bind (regionOps 3)).getD #[]) 8 (some 22) (Op.call { callee := Callee.value (Operand.func 83), args := #[Operand.tmp 17, Operand.tmp 21], argTypes := #[23, 23] }) (none) := opIs_of (by kernel_rfl)
theorem isattOp9 : opIs ((Tryz.f34.body.bind (regionOps 3)).getD #[]) 9 (some 23) (Op.move (Operand.tmp 22)) (none) := opIs_of (by kernel_rfl)
theorem isattOp10 : opIs ((Tryz.f34.body.bind (regionOps 3)).getD #[]) 10 (some 24) (Op.move (Operand.tmp 0)) (some (9, true)) := opIs_of (by kernel_rfl)
theorem isattOp11 : opIs ((Tryz.f34.body.bind (regionOps 3)).getD #[]) 11 (some 25) (Op.nilCheck (Operand.tmp 24)) (some (9, true)) := opIs_of (by kernel_rfl)
theorem isattOp12 : opIs ((Tryz.f34.body.bind (regionOps 3)).getD #[]) 12 (some 26) (Op.fieldAddr 132 (Operand.tmp 25) 1) (some (9, true)) := opIs_of (by kernel_rfl)
theorem isattOp13 : opIs ((Tryz.f34.body.bind (regionOps 3)).getD #[]) 13 (some 27) (Op.load 24 (Operand.tmp 26)) (some (9, true)) := opIs_of (by kernel_rfl)
theorem isattOp14 : opIs ((Tryz.f34.body.bind (regionOps 3)).getD #[]) 14 (some 28) (Op.move (Operand.tmp 1)) (some (9, true)) := opIs_of (by kernel_rfl)
theorem isattOp15 : opIs ((Tryz.f34.body.bind (regionOps 3)).getD #[]) 15 (some 29) (Op.nilCheck (Operand.tmp 28)) (some (9, true)) := opIs_of (by kernel_rfl)
theorem isattOp16 : opIs ((Tryz.f34.body.bind (regionOps 3)).getD #[]) 16 (some 30) (Op.fieldAddr 132 (Operand.tmp 29) 1) (some (9, true)) := opIs_of (by kernel_rfl)
theorem isattOp17 : opIs ((Tryz.f34.body.bind (regionOps 3)).getD #[]) 17 (some 31) (Op.load 24 (Operand.tmp 30)) (some (9, true)) := opIs_of (by kernel_rfl)
theorem isattOp18 : opIs ((Tryz.f34.body.bind (regionOps 3)).getD #[]) 18 (some 32) (Op.call { callee := Callee.value (Operand.func 84), args := #[Operand.tmp 27, Operand.tmp 31], argTypes := #[24, 24] }) (some (9, true)) := opIs_of (by kernel_rfl)
theorem isattOp19 : opIs ((Tryz.f34.body.bind (regionOps 3)).getD #[]) 19 (some 33) (Op.pick (Operand.tmp 23) (Operand.tmp 32) (Operand.const (Value.bool false))) (none) := opIs_of (by kernel_rfl)
theorem isattOp20 : opIs ((Tryz.f34.body.bind (regionOps 3)).getD #[]) 20 (some 34) (Op.move (Operand.tmp 33)) (none) := opIs_of (by kernel_rfl)
theorem isattOp21 : opIs ((Tryz.f34.body.bind (regionOps 3)).getD #[]) 21 (some 35) (Op.move (Operand.tmp 0)) (some (20, true)) := opIs_of (by kernel_rfl)
theorem isattOp22 : opIs ((Tryz.f34.body.bind (regionOps 3)).getD #[]) 22 (some 36) (Op.nilCheck (Operand.tmp 35)) (some (20, true)) := opIs_of (by kernel_rfl)
theorem isattOp23 : opIs ((Tryz.f34.body.bind (regionOps 3)).getD #[]) 23 (some 37) (Op.fieldAddr 132 (Operand.tmp 36) 2) (some (20, true)) := opIs_of (by kernel_rfl)
theorem isattOp24 : opIs ((Tryz.f34.body.bind (regionOps 3)).getD #[]) 24 (some 38) (Op.load 64 (Operand.tmp 37)) (some (20, true)) := opIs_of (by kernel_rfl)
theorem isattOp25 : opIs ((Tryz.f34.body.bind (regionOps 3)).getD #[]) 25 (some 39) (Op.move (Operand.tmp 1)) (some (20, true)) := opIs_of (by kernel_rfl)
theorem isattOp26 : opIs ((Tryz.f34.body.bind (regionOps 3)).getD #[]) 26 (some 40) (Op.nilCheck (Operand.tmp 39)) (some (20, true)) := opIs_of (by kernel_rfl)
theorem isattOp27 : opIs ((Tryz.f34.body.bind (regionOps 3)).getD #[]) 27 (some 41) (Op.fieldAddr 132 (Operand.tmp 40) 2) (some (20, true)) := opIs_of (by kernel_rfl)
theorem isattOp28 : opIs ((Tryz.f34.body.bind (regionOps 3)).getD #[]) 28 (some 42) (Op.load 64 (Operand.tmp 41)) (some (20, true)) := opIs_of (by kernel_rfl)
theorem isattOp29 : opIs ((Tryz.f34.body.bind (regionOps 3)).getD #[]) 29 (some 43) (Op.call { callee := Callee.value (Operand.func 85), args := #[Operand.tmp 38, Operand.tmp 42], argTypes := #[64, 64] }) (some (20, true)) := opIs_of (by kernel_rfl)
theorem isattOp30 : opIs ((Tryz.f34.body.bind (regionOps 3)).getD #[]) 30 (some 44) (Op.pick (Operand.tmp 34) (Operand.tmp 43) (Operand.const (Value.bool false))) (none) := opIs_of (by kernel_rfl)
theorem isattOp31 : opIs ((Tryz.f34.body.bind (regionOps 3)).getD #[]) 31 (some 4) (Op.assign (Operand.tmp 44)) (none) := opIs_of (by kernel_rfl)
/-- What is said of each slot. -/
def isattSp (p p2 q q2 : Nat) (ka1 ka2 pa1 pa2 : Option Addr) (kn1 kn2 kc1 kc2 pn1 pn2 pc1 pc2 : Nat) (B : Bool) (i : Nat) (w : World) (v : Value) : Prop := match i with
  | 0 => v = .pointer (some ⟨p, 0, none⟩)
  | 1 => v = .pointer (some ⟨p, 0, none⟩)
  | 2 => v = .pointer (some ⟨p, 0, none⟩)
  | 3 => v = .slice ka1 kn1 kc1
  | 4 => v = .pointer (some ⟨p2, 0, none⟩)
  | 5 => v = .pointer (some ⟨p2, 0, none⟩)
  | 6 => v = .pointer (some ⟨p2, 0, none⟩)
  | 7 => v = .slice ka2 kn2 kc2
  | 8 => v = .bool true
  | 9 => v = .bool true
  | 10 => v = .pointer (some ⟨p, 0, none⟩)
  | 11 => v = .pointer (some ⟨p, 0, none⟩)
  | 12 => v = .pointer (some ⟨p, 1, none⟩)
  | 13 => v = .slice pa1 pn1 pc1
  | 14 => v = .pointer (some ⟨p2, 0, none⟩)
  | 15 => v = .pointer (some ⟨p2, 0, none⟩)
  | 16 => v = .pointer (some ⟨p2, 1, none⟩)
  | 17 => v = .slice pa2 pn2 pc2
  | 18 => v = .bool true
  | 19 => v = .bool true
  | 20 => v = .bool true
  | 21 => v = .pointer (some ⟨p, 0, none⟩)
  | 22 => v = .pointer (some ⟨p, 0, none⟩)
  | 23 => v = .pointer (some ⟨p, 2, none⟩)
  | 24 => v = .pointer (some ⟨q, 0, none⟩)
  | 25 => v = .pointer (some ⟨p2, 0, none⟩)
  | 26 => v = .pointer (some ⟨p2, 0, none⟩)
  | 27 => v = .pointer (some ⟨p2, 2, none⟩)
  | 28 => v = .pointer (some ⟨q2, 0, none⟩)
  | 29 => v = .bool B
  | 30 => v = .bool B
  | 31 => v = .bool B
  | _ => True
theorem isattSp_mono (p p2 q q2 : Nat) (ka1 ka2 pa1 pa2 : Option Addr) (kn1 kn2 kc1 kc2 pn1 pn2 pc1 pc2 : Nat) (B : Bool) : ∀ i w w' v, Step noF w w' → isattSp p p2 q q2 ka1 ka2 pa1 pa2 kn1 kn2 kc1 kc2 pn1 pn2 pc1 pc2 B i w v → isattSp p p2 q q2 ka1 ka2 pa1 pa2 kn1 kn2 kc1 kc2 pn1 pn2 pc1 pc2 B i w' v := by
  intro i w w' v hs h
  match i with
  | 0 => exact h
  | 1 => exact h
  | 2 => exact h
  | 3 => exact h
  | 4 => exact h
  | 5 => exact h
  | 6 => exact h
  | 7 => exact h
  | 8 => exact h
  | 9 => exact h
  | 10 => exact h
  | 11 => exact h
  | 12 => exact h
  | 13 => exact h
  | 14 => exact h
  | 15 => exact h
  | 16 => exact h
  | 17 => exact h
  | 18 => exact h
  | 19 => exact h
  | 20 => exact h
  | 21 => exact h
  | 22 => exact h
  | 23 => exact h
  | 24 => exact h
  | 25 => exact h
  | 26 => exact h
  | 27 => exact h
  | 28 => exact h
  | 29 => exact h
  | 30 => exact h
  | 31 => exact h
  | k + 32 => exact h

set_option maxHeartbeats 4000000 in
set_option maxRecDepth 100000 in
theorem isatt_go (p p2 q q2 : Nat) (ka1 ka2 pa1 pa2 : Option Addr) (kn1 kn2 kc1 kc2 pn1 pn2 pc1 pc2 : Nat) (B : Bool) (w0 : World) (k10 : w0.cell? ⟨p, 0, none⟩ = some (.slice ka1 kn1 kc1)) (k20 : w0.cell? ⟨p2, 0, none⟩ = some (.slice ka2 kn2 kc2)) (c220 : ∀ w0', Step noF w0 w0' → Calls Tryz.prog 83 #[.slice ka1 kn1 kc1, .slice ka2 kn2 kc2] w0' fun e w0'' => e = .returned (.bool true) ∧ Step noF w0' w0'') (p10 : w0.cell? ⟨p, 1, none⟩ = some (.slice pa1 pn1 pc1)) (p2_0 : w0.cell? ⟨p2, 1, none⟩ = some (.slice pa2 pn2 pc2)) (c320 : ∀ w0', Step noF w0 w0' → Calls Tryz.prog 84 #[.slice pa1 pn1 pc1, .slice pa2 pn2 pc2] w0' fun e w0'' => e = .returned (.bool true) ∧ Step noF w0' w0'') (b10 : w0.cell? ⟨p, 2, none⟩ = some (.pointer (some ⟨q, 0, none⟩))) (b20 : w0.cell? ⟨p2, 2, none⟩ = some (.pointer (some ⟨q2, 0, none⟩))) (c430 : ∀ w0', Step noF w0 w0' → Calls Tryz.prog 85 #[.pointer (some ⟨q, 0, none⟩), .pointer (some ⟨q2, 0, none⟩)] w0' fun e w0'' => e = .returned (.bool B) ∧ Step noF w0' w0'')
    {Q : Exit → Act → World → Prop} (a0 : Act) (hsz : a0.tmps.size = 45) (h0 : a0.tmps.getD 0 undef = .pointer (some ⟨p, 0, none⟩)) (h1 : a0.tmps.getD 1 undef = .pointer (some ⟨p2, 0, none⟩))
    (hend : ∀ (f : Nat → Value) (w : World), Step noF w0 w → isattSp p p2 q q2 ka1 ka2 pa1 pa2 kn1 kn2 kc1 kc2 pn1 pn2 pc1 pc2 B 31 w (f 4) → Q .normal (putAll a0 (isattDs.map some) (isattDs.map f)) w) :
    (Code.region 3 ((Tryz.f34.body.bind (regionOps 3)).getD #[]) true).wp Tryz.prog Q a0 w0 := by
  refine wp_region_preds (isattSp p p2 q q2 ka1 ka2 pa1 pa2 kn1 kn2 kc1 kc2 pn1 pn2 pc1 pc2 B) (isattSp_mono p p2 q q2 ka1 ka2 pa1 pa2 kn1 kn2 kc1 kc2 pn1 pn2 pc1 pc2 B) isattDl (by kernel_rfl) isatt_back isatt_dl isatt_nd (fun d h => by rw [hsz]; exact isatt_lt d h) ?_ ?_
  · intro i hi a w hs hfr hat
    rw [isatt_size] at hi
    have n0 := (hfr 0 (by decide)).trans h0
    have n1 := (hfr 1 (by decide)).trans h1
    have k1 : w.cell? ⟨p, 0, none⟩ = some (.slice ka1 kn1 kc1) := hs.after k10
    have k2 : w.cell? ⟨p2, 0, none⟩ = some (.slice ka2 kn2 kc2) := hs.after k20
    have c22 : ∀ w', Step noF w w' → Calls Tryz.prog 83 #[.slice ka1 kn1 kc1, .slice ka2 kn2 kc2] w' fun e w'' => e = .returned (.bool true) ∧ Step noF w' w'' := fun w' s' => c220 w' (hs.trans s')
    have p1 : w.cell? ⟨p, 1, none⟩ = some (.slice pa1 pn1 pc1) := hs.after p10
    have p2_ : w.cell? ⟨p2, 1, none⟩ = some (.slice pa2 pn2 pc2) := hs.after p2_0
    have c32 : ∀ w', Step noF w w' → Calls Tryz.prog 84 #[.slice pa1 pn1 pc1, .slice pa2 pn2 pc2] w' fun e w'' => e = .returned (.bool true) ∧ Step noF w' w'' := fun w' s' => c320 w' (hs.trans s')
    have b1 : w.cell? ⟨p, 2, none⟩ = some (.pointer (some ⟨q, 0, none⟩)) := hs.after b10
    have b2 : w.cell? ⟨p2, 2, none⟩ = some (.pointer (some ⟨q2, 0, none⟩)) := hs.after b20
    have c43 : ∀ w', Step noF w w' → Calls Tryz.prog 85 #[.pointer (some ⟨q, 0, none⟩), .pointer (some ⟨q2, 0, none⟩)] w' fun e w'' => e = .returned (.bool B) ∧ Step noF w' w'' := fun w' s' => c430 w' (hs.trans s')
    match i, hi with
    | 0, _ =>
      refine op_runs (d := some 14) isattOp0 (wants_none a) (v := .pointer (some ⟨p, 0, none⟩)) (w' := w) ?_ ⟨14, _, rfl, rfl, Step.refl _ _, rfl⟩
      intro oo hoo
      simp only [execOp, hoo, Act.eval, n0]
      go_simp
    | 1, _ =>
      have n14 : a.tmps.getD 14 undef = _ := hat 0 (lc (by kernel_rfl)) 14 rfl
      refine op_runs (d := some 15) isattOp1 (wants_none a) (v := .pointer (some ⟨p, 0, none⟩)) (w' := w) ?_ ⟨15, _, rfl, rfl, Step.refl _ _, rfl⟩
      intro oo hoo
      simp only [execOp, hoo, Act.eval, n14]
      go_simp
    | 2, _ =>
      have n15 : a.tmps.getD 15 undef = _ := hat 1 (lc (by kernel_rfl)) 15 rfl
      refine op_runs (d := some 16) isattOp2 (wants_none a) (v := .pointer (some ⟨p, 0, none⟩)) (w' := w) ?_ ⟨16, _, rfl, rfl, Step.refl _ _, rfl⟩
      intro oo hoo
      simp only [execOp, hoo, Act.eval, n15]
      go_simp
    | 3, _ =>
      have n16 : a.tmps.getD 16 undef = _ := hat 2 (lc (by kernel_rfl)) 16 rfl
      refine op_runs (d := some 17) isattOp3 (wants_none a) (v := .slice ka1 kn1 kc1) (w' := w) ?_ ⟨17, _, rfl, rfl, Step.refl _ _, rfl⟩
      intro oo hoo
      simp only [execOp, hoo, Act.eval, n16]
      go_simp
    | 4, _ =>
      refine op_runs (d := some 18) isattOp4 (wants_none a) (v := .pointer (some ⟨p2, 0, none⟩)) (w' := w) ?_ ⟨18, _, rfl, rfl, Step.refl _ _, rfl⟩
      intro oo hoo
      simp only [execOp, hoo, Act.eval, n1]
      go_simp
    | 5, _ =>
      have n18 : a.tmps.getD 18 undef = _ := hat 4 (lc (by kernel_rfl)) 18 rfl
      refine op_runs (d := some 19) isattOp5 (wants_none a) (v := .pointer (some ⟨p2, 0, none⟩)) (w' := w) ?_ ⟨19, _, rfl, rfl, Step.refl _ _, rfl⟩
      intro oo hoo
      simp only [execOp, hoo, Act.eval, n18]
      go_simp
    | 6, _ =>
      have n19 : a.tmps.getD 19 undef = _ := hat 5 (lc (by kernel_rfl)) 19 rfl
      refine op_runs (d := some 20) isattOp6 (wants_none a) (v := .pointer (some ⟨p2, 0, none⟩)) (w' := w) ?_ ⟨20, _, rfl, rfl, Step.refl _ _, rfl⟩
      intro oo hoo
      simp only [execOp, hoo, Act.eval, n19]
      go_simp
    | 7, _ =>
      have n20 : a.tmps.getD 20 undef = _ := hat 6 (lc (by kernel_rfl)) 20 rfl
      refine op_runs (d := some 21) isattOp7 (wants_none a) (v := .slice ka2 kn2 kc2) (w' := w) ?_ ⟨21, _, rfl, rfl, Step.refl _ _, rfl⟩
      intro oo hoo
      simp only [execOp, hoo, Act.eval, n20]
      go_simp
    | 8, _ =>
      have n17 : a.tmps.getD 17 undef = _ := hat 3 (lc (by kernel_rfl)) 17 rfl
      have n21 : a.tmps.getD 21 undef = _ := hat 7 (lc (by kernel_rfl)) 21 rfl
      refine op_calls isattOp8 (wants_none a) Tryz.func83 (by kernel_rfl) (by kernel_rfl) (args := #[.slice ka1 kn1 kc1, .slice ka2 kn2 kc2]) (by simp [Act.eval, n17, n21]) ((c22 w (Step.refl _ _)).mono ?_)
      rintro e w' ⟨rfl, s'⟩
      exact ⟨_, rfl, 22, _, rfl, rfl, s', rfl⟩
    | 9, _ =>
      have n22 : a.tmps.getD 22 undef = _ := hat 8 (lc (by kernel_rfl)) 22 rfl
      refine op_runs (d := some 23) isattOp9 (wants_none a) (v := .bool true) (w' := w) ?_ ⟨23, _, rfl, rfl, Step.refl _ _, rfl⟩
      intro oo hoo
      simp only [execOp, hoo, Act.eval, n22]
      go_simp
    | 10, _ =>
      have n23 : a.tmps.getD 23 undef = _ := hat 9 (lc (by kernel_rfl)) 23 rfl
      refine op_runs (d := some 24) isattOp10 (wants_some (d := 23) (b := true) (by kernel_rfl) n23) (v := .pointer (some ⟨p, 0, none⟩)) (w' := w) ?_ ⟨24, _, rfl, rfl, Step.refl _ _, rfl⟩
      intro oo hoo
      simp only [execOp, hoo, Act.eval, n0]
      go_simp
    | 11, _ =>
      have n24 : a.tmps.getD 24 undef = _ := hat 10 (lc (by kernel_rfl)) 24 rfl
      have n23 : a.tmps.getD 23 undef = _ := hat 9 (lc (by kernel_rfl)) 23 rfl
      refine op_runs (d := some 25) isattOp11 (wants_some (d := 23) (b := true) (by kernel_rfl) n23) (v := .pointer (some ⟨p, 0, none⟩)) (w' := w) ?_ ⟨25, _, rfl, rfl, Step.refl _ _, rfl⟩
      intro oo hoo
      simp only [execOp, hoo, Act.eval, n24]
      go_simp
    | 12, _ =>
      have n25 : a.tmps.getD 25 undef = _ := hat 11 (lc (by kernel_rfl)) 25 rfl
      have n23 : a.tmps.getD 23 undef = _ := hat 9 (lc (by kernel_rfl)) 23 rfl
      refine op_runs (d := some 26) isattOp12 (wants_some (d := 23) (b := true) (by kernel_rfl) n23) (v := .pointer (some ⟨p, 1, none⟩)) (w' := w) ?_ ⟨26, _, rfl, rfl, Step.refl _ _, rfl⟩
      intro oo hoo
      simp only [execOp, hoo, Act.eval, n25]
      go_simp
    | 13, _ =>
      have n26 : a.tmps.getD 26 undef = _ := hat 12 (lc (by kernel_rfl)) 26 rfl
      have n23 : a.tmps.getD 23 undef = _ := hat 9 (lc (by kernel_rfl)) 23 rfl
      refine op_runs (d := some 27) isattOp13 (wants_some (d := 23) (b := true) (by kernel_rfl) n23) (v := .slice pa1 pn1 pc1) (w' := w) ?_ ⟨27, _, rfl, rfl, Step.refl _ _, rfl⟩
      intro oo hoo
      simp only [execOp, hoo, Act.eval, n26]
      go_simp
    | 14, _ =>
      have n23 : a.tmps.getD 23 undef = _ := hat 9 (lc (by kernel_rfl)) 23 rfl
      refine op_runs (d := some 28) isattOp14 (wants_some (d := 23) (b := true) (by kernel_rfl) n23) (v := .pointer (some ⟨p2, 0, none⟩)) (w' := w) ?_ ⟨28, _, rfl, rfl, Step.refl _ _, rfl⟩
      intro oo hoo
      simp only [execOp, hoo, Act.eval, n1]
      go_simp
    | 15, _ =>
      have n28 : a.tmps.getD 28 undef = _ := hat 14 (lc (by kernel_rfl)) 28 rfl
      have n23 : a.tmps.getD 23 undef = _ := hat 9 (lc (by kernel_rfl)) 23 rfl
      refine op_runs (d := some 29) isattOp15 (wants_some (d := 23) (b := true) (by kernel_rfl) n23) (v := .pointer (some ⟨p2, 0, none⟩)) (w' := w) ?_ ⟨29, _, rfl, rfl, Step.refl _ _, rfl⟩
      intro oo hoo
      simp only [execOp, hoo, Act.eval, n28]
      go_simp
    | 16, _ =>
      have n29 : a.tmps.getD 29 undef = _ := hat 15 (lc (by kernel_rfl)) 29 rfl
      have n23 : a.tmps.getD 23 undef = _ := hat 9 (lc (by kernel_rfl)) 23 rfl
      refine op_runs (d := some 30) isattOp16 (wants_some (d := 23) (b := true) (by kernel_rfl) n23) (v := .pointer (some ⟨p2, 1, none⟩)) (w' := w) ?_ ⟨30, _, rfl, rfl, Step.refl _ _, rfl⟩
      intro oo hoo
      simp only [execOp, hoo, Act.eval, n29]
      go_simp
    | 17, _ =>
      have n30 : a.tmps.getD 30 undef = _ := hat 16 (lc (by kernel_rfl)) 30 rfl
      have n23 : a.tmps.getD 23 undef = _ := hat 9 (lc (by kernel_rfl)) 23 rfl
      refine op_runs (d := some 31) isattOp17 (wants_some (d := 23) (b := true) (by kernel_rfl) n23) (v := .slice pa2 pn2 pc2) (w' := w) ?_ ⟨31, _, rfl, rfl, Step.refl _ _, rfl⟩
      intro oo hoo
      simp only [execOp, hoo, Act.eval, n30]
      go_simp
    | 18, _ =>
      have n27 : a.tmps.getD 27 undef = _ := hat 13 (lc (by kernel_rfl)) 27 rfl
      have n31 : a.tmps.getD 31 undef = _ := hat 17 (lc (by kernel_rfl)) 31 rfl
      have n23 : a.tmps.getD 23 undef = _ := hat 9 (lc (by kernel_rfl)) 23 rfl
      refine op_calls isattOp18 (wants_some (d := 23) (b := true) (by kernel_rfl) n23) Tryz.func84 (by kernel_rfl) (by kernel_rfl) (args := #[.slice pa1 pn1 pc1, .slice pa2 pn2 pc2]) (by simp [Act.eval, n27, n31]) ((c32 w (Step.refl _ _)).mono ?_)
      rintro e w' ⟨rfl, s'⟩
      exact ⟨_, rfl, 32, _, rfl, rfl, s', rfl⟩
    | 19, _ =>
      have n23 : a.tmps.getD 23 undef = _ := hat 9 (lc (by kernel_rfl)) 23 rfl
      have n32 : a.tmps.getD 32 undef = _ := hat 18 (lc (by kernel_rfl)) 32 rfl
      refine op_runs (d := some 33) isattOp19 (wants_none a) (v := .bool true) (w' := w) ?_ ⟨33, _, rfl, rfl, Step.refl _ _, rfl⟩
      intro oo hoo
      simp only [execOp, hoo, Act.eval, n23, n32]
      go_simp
    | 20, _ =>
      have n33 : a.tmps.getD 33 undef = _ := hat 19 (lc (by kernel_rfl)) 33 rfl
      refine op_runs (d := some 34) isattOp20 (wants_none a) (v := .bool true) (w' := w) ?_ ⟨34, _, rfl, rfl, Step.refl _ _, rfl⟩
      intro oo hoo
      simp only [execOp, hoo, Act.eval, n33]
      go_simp
    | 21, _ =>
      have n34 : a.tmps.getD 34 undef = _ := hat 20 (lc (by kernel_rfl)) 34 rfl
      refine op_runs (d := some 35) isattOp21 (wants_some (d := 34) (b := true) (by kernel_rfl) n34) (v := .pointer (some ⟨p, 0, none⟩)) (w' := w) ?_ ⟨35, _, rfl, rfl, Step.refl _ _, rfl⟩
      intro oo hoo
      simp only [execOp, hoo, Act.eval, n0]
      go_simp
    | 22, _ =>
      have n35 : a.tmps.getD 35 undef = _ := hat 21 (lc (by kernel_rfl)) 35 rfl
      have n34 : a.tmps.getD 34 undef = _ := hat 20 (lc (by kernel_rfl)) 34 rfl
      refine op_runs (d := some 36) isattOp22 (wants_some (d := 34) (b := true) (by kernel_rfl) n34) (v := .pointer (some ⟨p, 0, none⟩)) (w' := w) ?_ ⟨36, _, rfl, rfl, Step.refl _ _, rfl⟩
      intro oo hoo
      simp only [execOp, hoo, Act.eval, n35]
      go_simp
    | 23, _ =>
      have n36 : a.tmps.getD 36 undef = _ := hat 22 (lc (by kernel_rfl)) 36 rfl
      have n34 : a.tmps.getD 34 undef = _ := hat 20 (lc (by kernel_rfl)) 34 rfl
      refine op_runs (d := some 37) isattOp23 (wants_some (d := 34) (b := true) (by kernel_rfl) n34) (v := .pointer (some ⟨p, 2, none⟩)) (w' := w) ?_ ⟨37, _, rfl, rfl, Step.refl _ _, rfl⟩
      intro oo hoo
      simp only [execOp, hoo, Act.eval, n36]
      go_simp
    | 24, _ =>
      have n37 : a.tmps.getD 37 undef = _ := hat 23 (lc (by kernel_rfl)) 37 rfl
      have n34 : a.tmps.getD 34 undef = _ := hat 20 (lc (by kernel_rfl)) 34 rfl
      refine op_runs (d := some 38) isattOp24 (wants_some (d := 34) (b := true) (by kernel_rfl) n34) (v := .pointer (some ⟨q, 0, none⟩)) (w' := w) ?_ ⟨38, _, rfl, rfl, Step.refl _ _, rfl⟩
      intro oo hoo
      simp only [execOp, hoo, Act.eval, n37]
      go_simp
    | 25, _ =>
      have n34 : a.tmps.getD 34 undef = _ := hat 20 (lc (by kernel_rfl)) 34 rfl
      refine op_runs (d := some 39) isattOp25 (wants_some (d := 34) (b := true) (by kernel_rfl) n34) (v := .pointer (some ⟨p2, 0, none⟩)) (w' := w) ?_ ⟨39, _, rfl, rfl, Step.refl _ _, rfl⟩
      intro oo hoo
      simp only [execOp, hoo, Act.eval, n1]
      go_simp
    | 26, _ =>
      have n39 : a.tmps.getD 39 undef = _ := hat 25 (lc (by kernel_rfl)) 39 rfl
      have n34 : a.tmps.getD 34 undef = _ := hat 20 (lc (by kernel_rfl)) 34 rfl
      refine op_runs (d := some 40) isattOp26 (wants_some (d := 34) (b := true) (by kernel_rfl) n34) (v := .pointer (some ⟨p2, 0, none⟩)) (w' := w) ?_ ⟨40, _, rfl, rfl, Step.refl _ _, rfl⟩
      intro oo hoo
      simp only [execOp, hoo, Act.eval, n39]
      go_simp
    | 27, _ =>
      have n40 : a.tmps.getD 40 undef = _ := hat 26 (lc (by kernel_rfl)) 40 rfl
      have n34 : a.tmps.getD 34 undef = _ := hat 20 (lc (by kernel_rfl)) 34 rfl
      refine op_runs (d := some 41) isattOp27 (wants_some (d := 34) (b := true) (by kernel_rfl) n34) (v := .pointer (some ⟨p2, 2, none⟩)) (w' := w) ?_ ⟨41, _, rfl, rfl, Step.refl _ _, rfl⟩
      intro oo hoo
      simp only [execOp, hoo, Act.eval, n40]
      go_simp
    | 28, _ =>
      have n41 : a.tmps.getD 41 undef = _ := hat 27 (lc (by kernel_rfl)) 41 rfl
      have n34 : a.tmps.getD 34 undef = _ := hat 20 (lc (by kernel_rfl)) 34 rfl
      refine op_runs (d := some 42) isattOp28 (wants_some (d := 34) (b := true) (by kernel_rfl) n34) (v := .pointer (some ⟨q2, 0, none⟩)) (w' := w) ?_ ⟨42, _, rfl, rfl, Step.refl _ _, rfl⟩
      intro oo hoo
      simp only [execOp, hoo, Act.eval, n41]
      go_simp
    | 29, _ =>
      have n38 : a.tmps.getD 38 undef = _ := hat 24 (lc (by kernel_rfl)) 38 rfl
      have n42 : a.tmps.getD 42 undef = _ := hat 28 (lc (by kernel_rfl)) 42 rfl
      have n34 : a.tmps.getD 34 undef = _ := hat 20 (lc (by kernel_rfl)) 34 rfl
      refine op_calls isattOp29 (wants_some (d := 34) (b := true) (by kernel_rfl) n34) Tryz.func85 (by kernel_rfl) (by kernel_rfl) (args := #[.pointer (some ⟨q, 0, none⟩), .pointer (some ⟨q2, 0, none⟩)]) (by simp [Act.eval, n38, n42]) ((c43 w (Step.refl _ _)).mono ?_)
      rintro e w' ⟨rfl, s'⟩
      exact ⟨_, rfl, 43, _, rfl, rfl, s', rfl⟩
    | 30, _ =>
      have n34 : a.tmps.getD 34 undef = _ := hat 20 (lc (by kernel_rfl)) 34 rfl
      have n43 : a.tmps.getD 43 undef = _ := hat 29 (lc (by kernel_rfl)) 43 rfl
      refine op_runs (d := some 44) isattOp30 (wants_none a) (v := .bool B) (w' := w) ?_ ⟨44, _, rfl, rfl, Step.refl _ _, rfl⟩
      intro oo hoo
      simp only [execOp, hoo, Act.eval, n34, n43]
      go_simp
    | 31, _ =>
      have n44 : a.tmps.getD 44 undef = _ := hat 30 (lc (by kernel_rfl)) 44 rfl
      refine op_runs (d := some 4) isattOp31 (wants_none a) (v := .bool B) (w' := w) ?_ ⟨4, _, rfl, rfl, Step.refl _ _, rfl⟩
      intro oo hoo
      simp only [execOp, hoo, Act.eval, n44]
      go_simp
    | k + 32, h => exact absurd h (by omega)
  · intro a w hs hdf hs2 hfr hat
    rw [isatt_size] at hat
    have e := act_vals (a := a) (a0 := a0) isattDs (by decide) (fun d hd => by rw [hsz]; exact isatt_lt d (by revert hd; revert d; decide)) hdf hs2 (fun k hk => hfr k (fun hk2 => hk (by revert hk2; simp [isattDl, isattDs])))
    rw [e]
    exact hend (fun d => a.tmps.getD d undef) w hs (hat 31 (by omega) 4 rfl)
set_option maxRecDepth 100000 in
theorem isatt_lit (f : Nat → Value) (D : List Deferred) (x0 x1 x2 x3 x4 x5 x6 x7 x8 x9 x10 x11 x12 x13 x14 x15 x16 x17 x18 x19 x20 x21 x22 x23 x24 x25 x26 x27 x28 x29 x30 x31 x32 x33 x34 x35 x36 x37 x38 x39 x40 x41 x42 x43 x44 : Value) : putAll { tmps := #[x0, x1, x2, x3, x4, x5, x6, x7, x8, x9, x10, x11, x12, x13, x14, x15, x16, x17, x18, x19, x20, x21, x22, x23, x24, x25, x26, x27, x28, x29, x30, x31, x32, x33, x34, x35, x36, x37, x38, x39, x40, x41, x42, x43, x44], defers := D } (isattDs.map some) (isattDs.map f) = { tmps := #[x0, x1, x2, x3, f 4, x5, x6, x7, x8, x9, x10, x11, x12, x13, f 14, f 15, f 16, f 17, f 18, f 19, f 20, f 21, f 22, f 23, f 24, f 25, f 26, f 27, f 28, f 29, f 30, f 31, f 32, f 33, f 34, f 35, f 36, f 37, f 38, f 39, f 40, f 41, f 42, f 43, f 44], defers := D } := by kernel_rfl
end Go.Proofs.YtoobelcphcndoaaGreat
namespace Go.Proofs.YtoobelcphcndoaaGreat
open Go.RowKit
set_option linter.unusedVariables false
set_option linter.unusedSimpArgs false


/-- What is said of each slot. -/
def isatfSp (p p2 q q2 : Nat) (ka1 ka2 pa1 pa2 : Option Addr) (kn1 kn2 kc1 kc2 pn1 pn2 pc1 pc2 : Nat) (B : Bool) (i : Nat) (w : World) (v : Value) : Prop := match i with
  | 0 => v = .pointer (some ⟨p, 0, none⟩)
  | 1 => v = .pointer (some ⟨p, 0, none⟩)
  | 2 => v = .pointer (some ⟨p, 0, none⟩)
  | 3 => v = .slice ka1 kn1 kc1
  | 4 => v = .pointer (some ⟨p2, 0, none⟩)
  | 5 => v = .pointer (some ⟨p2, 0, none⟩)
  | 6 => v = .pointer (some ⟨p2, 0, none⟩)
  | 7 => v = .slice ka2 kn2 kc2
  | 8 => v = .bool true
  | 9 => v = .bool true
  | 10 => v = .pointer (some ⟨p, 0, none⟩)
  | 11 => v = .pointer (some ⟨p, 0, none⟩)
  | 12 => v = .pointer (some ⟨p, 1, none⟩)
  | 13 => v = .slice pa1 pn1 pc1
  | 14 => v = .pointer (some ⟨p2, 0, none⟩)
  | 15 => v = .pointer (some ⟨p2, 0, none⟩)
  | 16 => v = .pointer (some ⟨p2, 1, none⟩)
  | 17 => v = .slice pa2 pn2 pc2
  | 18 => v = .bool false
  | 19 => v = .bool false
  | 20 => v = .bool false
  | 21 => v = undef
  | 22 => v = undef
  | 23 => v = undef
  | 24 => v = undef
  | 25 => v = undef
  | 26 => v = undef
  | 27 => v = undef
  | 28 => v = undef
  | 29 => v = undef
  | 30 => v = .bool false
  | 31 => v = .bool false
  | _ => True
theorem isatfSp_mono (p p2 q q2 : Nat) (ka1 ka2 pa1 pa2 : Option Addr) (kn1 kn2 kc1 kc2 pn1 pn2 pc1 pc2 : Nat) (B : Bool) : ∀ i w w' v, Step noF w w' → isatfSp p p2 q q2 ka1 ka2 pa1 pa2 kn1 kn2 kc1 kc2 pn1 pn2 pc1 pc2 B i w v → isatfSp p p2 q q2 ka1 ka2 pa1 pa2 kn1 kn2 kc1 kc2 pn1 pn2 pc1 pc2 B i w' v := by
  intro i w w' v hs h
  match i with
  | 0 => exact h
  | 1 => exact h
  | 2 => exact h
  | 3 => exact h
  | 4 => exact h
  | 5 => exact h
  | 6 => exact h
  | 7 => exact h
  | 8 => exact h
  | 9 => exact h
  | 10 => exact h
  | 11 => exact h
  | 12 => exact h
  | 13 => exact h
  | 14 => exact h
  | 15 => exact h
  | 16 => exact h
  | 17 => exact h
  | 18 => exact h
  | 19 => exact h
  | 20 => exact h
  | 21 => exact h
  | 22 => exact h
  | 23 => exact h
  | 24 => exact h
  | 25 => exact h
  | 26 => exact h
  | 27 => exact h
  | 28 => exact h
  | 29 => exact h
  | 30 => exact h
  | 31 => exact h
  | k + 32 => exact h

set_option maxHeartbeats 4000000 in
set_option maxRecDepth 100000 in
theorem isatf_go (p p2 q q2 : Nat) (ka1 ka2 pa1 pa2 : Option Addr) (kn1 kn2 kc1 kc2 pn1 pn2 pc1 pc2 : Nat) (B : Bool) (w0 : World) (k10 : w0.cell? ⟨p, 0, none⟩ = some (.slice ka1 kn1 kc1)) (k20 : w0.cell? ⟨p2, 0, none⟩ = some (.slice ka2 kn2 kc2)) (c220 : ∀ w0', Step noF w0 w0' → Calls Tryz.prog 83 #[.slice ka1 kn1 kc1, .slice ka2 kn2 kc2] w0' fun e w0'' => e = .returned (.bool true) ∧ Step noF w0' w0'') (p10 : w0.cell? ⟨p, 1, none⟩ = some (.slice pa1 pn1 pc1)) (p2_0 : w0.cell? ⟨p2, 1, none⟩ = some (.slice pa2 pn2 pc2)) (c320 : ∀ w0', Step noF w0 w0' → Calls Tryz.prog 84 #[.slice pa1 pn1 pc1, .slice pa2 pn2 pc2] w0' fun e w0'' => e = .returned (.bool false) ∧ Step noF w0' w0'')
    {Q : Exit → Act → World → Prop} (a0 : Act) (hsz : a0.tmps.size = 45) (h0 : a0.tmps.getD 0 undef = .pointer (some ⟨p, 0, none⟩)) (h1 : a0.tmps.getD 1 undef = .pointer (some ⟨p2, 0, none⟩))
    (hend : ∀ (f : Nat → Value) (w : World), Step noF w0 w → isatfSp p p2 q q2 ka1 ka2 pa1 pa2 kn1 kn2 kc1 kc2 pn1 pn2 pc1 pc2 B 31 w (f 4) → Q .normal (putAll a0 (isattDs.map some) (isattDs.map f)) w) :
    (Code.region 3 ((Tryz.f34.body.bind (regionOps 3)).getD #[]) true).wp Tryz.prog Q a0 w0 := by
  refine wp_region_preds (isatfSp p p2 q q2 ka1 ka2 pa1 pa2 kn1 kn2 kc1 kc2 pn1 pn2 pc1 pc2 B) (isatfSp_mono p p2 q q2 ka1 ka2 pa1 pa2 kn1 kn2 kc1 kc2 pn1 pn2 pc1 pc2 B) isattDl (by kernel_rfl) isatt_back isatt_dl isatt_nd (fun d h => by rw [hsz]; exact isatt_lt d h) ?_ ?_
  · intro i hi a w hs hfr hat
    rw [isatt_size] at hi
    have n0 := (hfr 0 (by decide)).trans h0
    have n1 := (hfr 1 (by decide)).trans h1
    have k1 : w.cell? ⟨p, 0, none⟩ = some (.slice ka1 kn1 kc1) := hs.after k10
    have k2 : w.cell? ⟨p2, 0, none⟩ = some (.slice ka2 kn2 kc2) := hs.after k20
    have c22 : ∀ w', Step noF w w' → Calls Tryz.prog 83 #[.slice ka1 kn1 kc1, .slice ka2 kn2 kc2] w' fun e w'' => e = .returned (.bool true) ∧ Step noF w' w'' := fun w' s' => c220 w' (hs.trans s')
    have p1 : w.cell? ⟨p, 1, none⟩ = some (.slice pa1 pn1 pc1) := hs.after p10
    have p2_ : w.cell? ⟨p2, 1, none⟩ = some (.slice pa2 pn2 pc2) := hs.after p2_0
    have c32 : ∀ w', Step noF w w' → Calls Tryz.prog 84 #[.slice pa1 pn1 pc1, .slice pa2 pn2 pc2] w' fun e w'' => e = .returned (.bool false) ∧ Step noF w' w'' := fun w' s' => c320 w' (hs.trans s')
    match i, hi with
    | 0, _ =>
      refine op_runs (d := some 14) isattOp0 (wants_none a) (v := .pointer (some ⟨p, 0, none⟩)) (w' := w) ?_ ⟨14, _, rfl, rfl, Step.refl _ _, rfl⟩
      intro oo hoo
      simp only [execOp, hoo, Act.eval, n0]
      go_simp
    | 1, _ =>
      have n14 : a.tmps.getD 14 undef = _ := hat 0 (lc (by kernel_rfl)) 14 rfl
      refine op_runs (d := some 15) isattOp1 (wants_none a) (v := .pointer (some ⟨p, 0, none⟩)) (w' := w) ?_ ⟨15, _, rfl, rfl, Step.refl _ _, rfl⟩
      intro oo hoo
      simp only [execOp, hoo, Act.eval, n14]
      go_simp
    | 2, _ =>
      have n15 : a.tmps.getD 15 undef = _ := hat 1 (lc (by kernel_rfl)) 15 rfl
      refine op_runs (d := some 16) isattOp2 (wants_none a) (v := .pointer (some ⟨p, 0, none⟩)) (w' := w) ?_ ⟨16, _, rfl, rfl, Step.refl _ _, rfl⟩
      intro oo hoo
      simp only [execOp, hoo, Act.eval, n15]
      go_simp
    | 3, _ =>
      have n16 : a.tmps.getD 16 undef = _ := hat 2 (lc (by kernel_rfl)) 16 rfl
      refine op_runs (d := some 17) isattOp3 (wants_none a) (v := .slice ka1 kn1 kc1) (w' := w) ?_ ⟨17, _, rfl, rfl, Step.refl _ _, rfl⟩
      intro oo hoo
      simp only [execOp, hoo, Act.eval, n16]
      go_simp
    | 4, _ =>
      refine op_runs (d := some 18) isattOp4 (wants_none a) (v := .pointer (some ⟨p2, 0, none⟩)) (w' := w) ?_ ⟨18, _, rfl, rfl, Step.refl _ _, rfl⟩
      intro oo hoo
      simp only [execOp, hoo, Act.eval, n1]
      go_simp
    | 5, _ =>
      have n18 : a.tmps.getD 18 undef = _ := hat 4 (lc (by kernel_rfl)) 18 rfl
      refine op_runs (d := some 19) isattOp5 (wants_none a) (v := .pointer (some ⟨p2, 0, none⟩)) (w' := w) ?_ ⟨19, _, rfl, rfl, Step.refl _ _, rfl⟩
      intro oo hoo
      simp only [execOp, hoo, Act.eval, n18]
      go_simp
    | 6, _ =>
      have n19 : a.tmps.getD 19 undef = _ := hat 5 (lc (by kernel_rfl)) 19 rfl
      refine op_runs (d := some 20) isattOp6 (wants_none a) (v := .pointer (some ⟨p2, 0, none⟩)) (w' := w) ?_ ⟨20, _, rfl, rfl, Step.refl _ _, rfl⟩
      intro oo hoo
      simp only [execOp, hoo, Act.eval, n19]
      go_simp
    | 7, _ =>
      have n20 : a.tmps.getD 20 undef = _ := hat 6 (lc (by kernel_rfl)) 20 rfl
      refine op_runs (d := some 21) isattOp7 (wants_none a) (v := .slice ka2 kn2 kc2) (w' := w) ?_ ⟨21, _, rfl, rfl, Step.refl _ _, rfl⟩
      intro oo hoo
      simp only [execOp, hoo, Act.eval, n20]
      go_simp
    | 8, _ =>
      have n17 : a.tmps.getD 17 undef = _ := hat 3 (lc (by kernel_rfl)) 17 rfl
      have n21 : a.tmps.getD 21 undef = _ := hat 7 (lc (by kernel_rfl)) 21 rfl
      refine op_calls isattOp8 (wants_none a) Tryz.func83 (by kernel_rfl) (by kernel_rfl) (args := #[.slice ka1 kn1 kc1, .slice ka2 kn2 kc2]) (by simp [Act.eval, n17, n21]) ((c22 w (Step.refl _ _)).mono ?_)
      rintro e w' ⟨rfl, s'⟩
      exact ⟨_, rfl, 22, _, rfl, rfl, s', rfl⟩
    | 9, _ =>
      have n22 : a.tmps.getD 22 undef = _ := hat 8 (lc (by kernel_rfl)) 22 rfl
      refine op_runs (d := some 23) isattOp9 (wants_none a) (v := .bool true) (w' := w) ?_ ⟨23, _, rfl, rfl, Step.refl _ _, rfl⟩
      intro oo hoo
      simp only [execOp, hoo, Act.eval, n22]
      go_simp
    | 10, _ =>
      have n23 : a.tmps.getD 23 undef = _ := hat 9 (lc (by kernel_rfl)) 23 rfl
      refine op_runs (d := some 24) isattOp10 (wants_some (d := 23) (b := true) (by kernel_rfl) n23) (v := .pointer (some ⟨p, 0, none⟩)) (w' := w) ?_ ⟨24, _, rfl, rfl, Step.refl _ _, rfl⟩
      intro oo hoo
      simp only [execOp, hoo, Act.eval, n0]
      go_simp
    | 11, _ =>
      have n24 : a.tmps.getD 24 undef = _ := hat 10 (lc (by kernel_rfl)) 24 rfl
      have n23 : a.tmps.getD 23 undef = _ := hat 9 (lc (by kernel_rfl)) 23 rfl
      refine op_runs (d := some 25) isattOp11 (wants_some (d := 23) (b := true) (by kernel_rfl) n23) (v := .pointer (some ⟨p, 0, none⟩)) (w' := w) ?_ ⟨25, _, rfl, rfl, Step.refl _ _, rfl⟩
      intro oo hoo
      simp only [execOp, hoo, Act.eval, n24]
      go_simp
    | 12, _ =>
      have n25 : a.tmps.getD 25 undef = _ := hat 11 (lc (by kernel_rfl)) 25 rfl
      have n23 : a.tmps.getD 23 undef = _ := hat 9 (lc (by kernel_rfl)) 23 rfl
      refine op_runs (d := some 26) isattOp12 (wants_some (d := 23) (b := true) (by kernel_rfl) n23) (v := .pointer (some ⟨p, 1, none⟩)) (w' := w) ?_ ⟨26, _, rfl, rfl, Step.refl _ _, rfl⟩
      intro oo hoo
      simp only [execOp, hoo, Act.eval, n25]
      go_simp
    | 13, _ =>
      have n26 : a.tmps.getD 26 undef = _ := hat 12 (lc (by kernel_rfl)) 26 rfl
      have n23 : a.tmps.getD 23 undef = _ := hat 9 (lc (by kernel_rfl)) 23 rfl
      refine op_runs (d := some 27) isattOp13 (wants_some (d := 23) (b := true) (by kernel_rfl) n23) (v := .slice pa1 pn1 pc1) (w' := w) ?_ ⟨27, _, rfl, rfl, Step.refl _ _, rfl⟩
      intro oo hoo
      simp only [execOp, hoo, Act.eval, n26]
      go_simp
    | 14, _ =>
      have n23 : a.tmps.getD 23 undef = _ := hat 9 (lc (by kernel_rfl)) 23 rfl
      refine op_runs (d := some 28) isattOp14 (wants_some (d := 23) (b := true) (by kernel_rfl) n23) (v := .pointer (some ⟨p2, 0, none⟩)) (w' := w) ?_ ⟨28, _, rfl, rfl, Step.refl _ _, rfl⟩
      intro oo hoo
      simp only [execOp, hoo, Act.eval, n1]
      go_simp
    | 15, _ =>
      have n28 : a.tmps.getD 28 undef = _ := hat 14 (lc (by kernel_rfl)) 28 rfl
      have n23 : a.tmps.getD 23 undef = _ := hat 9 (lc (by kernel_rfl)) 23 rfl
      refine op_runs (d := some 29) isattOp15 (wants_some (d := 23) (b := true) (by kernel_rfl) n23) (v := .pointer (some ⟨p2, 0, none⟩)) (w' := w) ?_ ⟨29, _, rfl, rfl, Step.refl _ _, rfl⟩
      intro oo hoo
      simp only [execOp, hoo, Act.eval, n28]
      go_simp
    | 16, _ =>
      have n29 : a.tmps.getD 29 undef = _ := hat 15 (lc (by kernel_rfl)) 29 rfl
      have n23 : a.tmps.getD 23 undef = _ := hat 9 (lc (by kernel_rfl)) 23 rfl
      refine op_runs (d := some 30) isattOp16 (wants_some (d := 23) (b := true) (by kernel_rfl) n23) (v := .pointer (some ⟨p2, 1, none⟩)) (w' := w) ?_ ⟨30, _, rfl, rfl, Step.refl _ _, rfl⟩
      intro oo hoo
      simp only [execOp, hoo, Act.eval, n29]
      go_simp
    | 17, _ =>
      have n30 : a.tmps.getD 30 undef = _ := hat 16 (lc (by kernel_rfl)) 30 rfl
      have n23 : a.tmps.getD 23 undef = _ := hat 9 (lc (by kernel_rfl)) 23 rfl
      refine op_runs (d := some 31) isattOp17 (wants_some (d := 23) (b := true) (by kernel_rfl) n23) (v := .slice pa2 pn2 pc2) (w' := w) ?_ ⟨31, _, rfl, rfl, Step.refl _ _, rfl⟩
      intro oo hoo
      simp only [execOp, hoo, Act.eval, n30]
      go_simp
    | 18, _ =>
      have n27 : a.tmps.getD 27 undef = _ := hat 13 (lc (by kernel_rfl)) 27 rfl
      have n31 : a.tmps.getD 31 undef = _ := hat 17 (lc (by kernel_rfl)) 31 rfl
      have n23 : a.tmps.getD 23 undef = _ := hat 9 (lc (by kernel_rfl)) 23 rfl
      refine op_calls isattOp18 (wants_some (d := 23) (b := true) (by kernel_rfl) n23) Tryz.func84 (by kernel_rfl) (by kernel_rfl) (args := #[.slice pa1 pn1 pc1, .slice pa2 pn2 pc2]) (by simp [Act.eval, n27, n31]) ((c32 w (Step.refl _ _)).mono ?_)
      rintro e w' ⟨rfl, s'⟩
      exact ⟨_, rfl, 32, _, rfl, rfl, s', rfl⟩
    | 19, _ =>
      have n23 : a.tmps.getD 23 undef = _ := hat 9 (lc (by kernel_rfl)) 23 rfl
      have n32 : a.tmps.getD 32 undef = _ := hat 18 (lc (by kernel_rfl)) 32 rfl
      refine op_runs (d := some 33) isattOp19 (wants_none a) (v := .bool false) (w' := w) ?_ ⟨33, _, rfl, rfl, Step.refl _ _, rfl⟩
      intro oo hoo
      simp only [execOp, hoo, Act.eval, n23, n32]
      go_simp
    | 20, _ =>
      have n33 : a.tmps.getD 33 undef = _ := hat 19 (lc (by kernel_rfl)) 33 rfl
      refine op_runs (d := some 34) isattOp20 (wants_none a) (v := .bool false) (w' := w) ?_ ⟨34, _, rfl, rfl, Step.refl _ _, rfl⟩
      intro oo hoo
      simp only [execOp, hoo, Act.eval, n33]
      go_simp
    | 21, _ =>
      have n34 : a.tmps.getD 34 undef = _ := hat 20 (lc (by kernel_rfl)) 34 rfl
      exact op_skip isattOp21 (dj := 34) (by kernel_rfl) n34 (by decide) ⟨35, undef, rfl, rfl, Step.refl _ _, rfl⟩
    | 22, _ =>
      have n34 : a.tmps.getD 34 undef = _ := hat 20 (lc (by kernel_rfl)) 34 rfl
      exact op_skip isattOp22 (dj := 34) (by kernel_rfl) n34 (by decide) ⟨36, undef, rfl, rfl, Step.refl _ _, rfl⟩
    | 23, _ =>
      have n34 : a.tmps.getD 34 undef = _ := hat 20 (lc (by kernel_rfl)) 34 rfl
      exact op_skip isattOp23 (dj := 34) (by kernel_rfl) n34 (by decide) ⟨37, undef, rfl, rfl, Step.refl _ _, rfl⟩
    | 24, _ =>
      have n34 : a.tmps.getD 34 undef = _ := hat 20 (lc (by kernel_rfl)) 34 rfl
      exact op_skip isattOp24 (dj := 34) (by kernel_rfl) n34 (by decide) ⟨38, undef, rfl, rfl, Step.refl _ _, rfl⟩
    | 25, _ =>
      have n34 : a.tmps.getD 34 undef = _ := hat 20 (lc (by kernel_rfl)) 34 rfl
      exact op_skip isattOp25 (dj := 34) (by kernel_rfl) n34 (by decide) ⟨39, undef, rfl, rfl, Step.refl _ _, rfl⟩
    | 26, _ =>
      have n34 : a.tmps.getD 34 undef = _ := hat 20 (lc (by kernel_rfl)) 34 rfl
      exact op_skip isattOp26 (dj := 34) (by kernel_rfl) n34 (by decide) ⟨40, undef, rfl, rfl, Step.refl _ _, rfl⟩
    | 27, _ =>
      have n34 : a.tmps.getD 34 undef = _ := hat 20 (lc (by kernel_rfl)) 34 rfl
      exact op_skip isattOp27 (dj := 34) (by kernel_rfl) n34 (by decide) ⟨41, undef, rfl, rfl, Step.refl _ _, rfl⟩
    | 28, _ =>
      have n34 : a.tmps.getD 34 undef = _ := hat 20 (lc (by kernel_rfl)) 34 rfl
      exact op_skip isattOp28 (dj := 34) (by kernel_rfl) n34 (by decide) ⟨42, undef, rfl, rfl, Step.refl _ _, rfl⟩
    | 29, _ =>
      have n34 : a.tmps.getD 34 undef = _ := hat 20 (lc (by kernel_rfl)) 34 rfl
      exact op_skip isattOp29 (dj := 34) (by kernel_rfl) n34 (by decide) ⟨43, undef, rfl, rfl, Step.refl _ _, rfl⟩
    | 30, _ =>
      have n34 : a.tmps.getD 34 undef = _ := hat 20 (lc (by kernel_rfl)) 34 rfl
      have n43 : a.tmps.getD 43 undef = _ := hat 29 (lc (by kernel_rfl)) 43 rfl
      refine op_runs (d := some 44) isattOp30 (wants_none a) (v := .bool false) (w' := w) ?_ ⟨44, _, rfl, rfl, Step.refl _ _, rfl⟩
      intro oo hoo
      simp only [execOp, hoo, Act.eval, n34, n43]
      go_simp
    | 31, _ =>
      have n44 : a.tmps.getD 44 undef = _ := hat 30 (lc (by kernel_rfl)) 44 rfl
      refine op_runs (d := some 4) isattOp31 (wants_none a) (v := .bool false) (w' := w) ?_ ⟨4, _, rfl, rfl, Step.refl _ _, rfl⟩
      intro oo hoo
      simp only [execOp, hoo, Act.eval, n44]
      go_simp
    | k + 32, h => exact absurd h (by omega)
  · intro a w hs hdf hs2 hfr hat
    rw [isatt_size] at hat
    have e := act_vals (a := a) (a0 := a0) isattDs (by decide) (fun d hd => by rw [hsz]; exact isatt_lt d (by revert hd; revert d; decide)) hdf hs2 (fun k hk => hfr k (fun hk2 => hk (by revert hk2; simp [isattDl, isattDs])))
    rw [e]
    exact hend (fun d => a.tmps.getD d undef) w hs (hat 31 (by omega) 4 rfl)
end Go.Proofs.YtoobelcphcndoaaGreat
namespace Go.Proofs.YtoobelcphcndoaaGreat
open Go.RowKit
set_option linter.unusedVariables false
set_option linter.unusedSimpArgs false


/-- What is said of each slot. -/
def isafSp (p p2 q q2 : Nat) (ka1 ka2 pa1 pa2 : Option Addr) (kn1 kn2 kc1 kc2 pn1 pn2 pc1 pc2 : Nat) (B : Bool) (i : Nat) (w : World) (v : Value) : Prop := match i with
  | 0 => v = .pointer (some ⟨p, 0, none⟩)
  | 1 => v = .pointer (some ⟨p, 0, none⟩)
  | 2 => v = .pointer (some ⟨p, 0, none⟩)
  | 3 => v = .slice ka1 kn1 kc1
  | 4 => v = .pointer (some ⟨p2, 0, none⟩)
  | 5 => v = .pointer (some ⟨p2, 0, none⟩)
  | 6 => v = .pointer (some ⟨p2, 0, none⟩)
  | 7 => v = .slice ka2 kn2 kc2
  | 8 => v = .bool false
  | 9 => v = .bool false
  | 10 => v = undef
  | 11 => v = undef
  | 12 => v = undef
  | 13 => v = undef
  | 14 => v = undef
  | 15 => v = undef
  | 16 => v = undef
  | 17 => v = undef
  | 18 => v = undef
  | 19 => v = .bool false
  | 20 => v = .bool false
  | 21 => v = undef
  | 22 => v = undef
  | 23 => v = undef
  | 24 => v = undef
  | 25 => v = undef
  | 26 => v = undef
  | 27 => v = undef
  | 28 => v = undef
  | 29 => v = undef
  | 30 => v = .bool false
  | 31 => v = .bool false
  | _ => True
theorem isafSp_mono (p p2 q q2 : Nat) (ka1 ka2 pa1 pa2 : Option Addr) (kn1 kn2 kc1 kc2 pn1 pn2 pc1 pc2 : Nat) (B : Bool) : ∀ i w w' v, Step noF w w' → isafSp p p2 q q2 ka1 ka2 pa1 pa2 kn1 kn2 kc1 kc2 pn1 pn2 pc1 pc2 B i w v → isafSp p p2 q q2 ka1 ka2 pa1 pa2 kn1 kn2 kc1 kc2 pn1 pn2 pc1 pc2 B i w' v := by
  intro i w w' v hs h
  match i with
  | 0 => exact h
  | 1 => exact h
  | 2 => exact h
  | 3 => exact h
  | 4 => exact h
  | 5 => exact h
  | 6 => exact h
  | 7 => exact h
  | 8 => exact h
  | 9 => exact h
  | 10 => exact h
  | 11 => exact h
  | 12 => exact h
  | 13 => exact h
  | 14 => exact h
  | 15 => exact h
  | 16 => exact h
  | 17 => exact h
  | 18 => exact h
  | 19 => exact h
  | 20 => exact h
  | 21 => exact h
  | 22 => exact h
  | 23 => exact h
  | 24 => exact h
  | 25 => exact h
  | 26 => exact h
  | 27 => exact h
  | 28 => exact h
  | 29 => exact h
  | 30 => exact h
  | 31 => exact h
  | k + 32 => exact h

set_option maxHeartbeats 4000000 in
set_option maxRecDepth 100000 in
theorem isaf_go (p p2 q q2 : Nat) (ka1 ka2 pa1 pa2 : Option Addr) (kn1 kn2 kc1 kc2 pn1 pn2 pc1 pc2 : Nat) (B : Bool) (w0 : World) (k10 : w0.cell? ⟨p, 0, none⟩ = some (.slice ka1 kn1 kc1)) (k20 : w0.cell? ⟨p2, 0, none⟩ = some (.slice ka2 kn2 kc2)) (c220 : ∀ w0', Step noF w0 w0' → Calls Tryz.prog 83 #[.slice ka1 kn1 kc1, .slice ka2 kn2 kc2] w0' fun e w0'' => e = .returned (.bool false) ∧ Step noF w0' w0'')
    {Q : Exit → Act → World → Prop} (a0 : Act) (hsz : a0.tmps.size = 45) (h0 : a0.tmps.getD 0 undef = .pointer (some ⟨p, 0, none⟩)) (h1 : a0.tmps.getD 1 undef = .pointer (some ⟨p2, 0, none⟩))
    (hend : ∀ (f : Nat → Value) (w : World), Step noF w0 w → isafSp p p2 q q2 ka1 ka2 pa1 pa2 kn1 kn2 kc1 kc2 pn1 pn2 pc1 pc2 B 31 w (f 4) → Q .normal (putAll a0 (isattDs.map some) (isattDs.map f)) w) :
    (Code.region 3 ((Tryz.f34.body.bind (regionOps 3)).getD #[]) true).wp Tryz.prog Q a0 w0 := by
  refine wp_region_preds (isafSp p p2 q q2 ka1 ka2 pa1 pa2 kn1 kn2 kc1 kc2 pn1 pn2 pc1 pc2 B) (isafSp_mono p p2 q q2 ka1 ka2 pa1 pa2 kn1 kn2 kc1 kc2 pn1 pn2 pc1 pc2 B) isattDl (by kernel_rfl) isatt_back isatt_dl isatt_nd (fun d h => by rw [hsz]; exact isatt_lt d h) ?_ ?_
  · intro i hi a w hs hfr hat
    rw [isatt_size] at hi
    have n0 := (hfr 0 (by decide)).trans h0
    have n1 := (hfr 1 (by decide)).trans h1
    have k1 : w.cell? ⟨p, 0, none⟩ = some (.slice ka1 kn1 kc1) := hs.after k10
    have k2 : w.cell? ⟨p2, 0, none⟩ = some (.slice ka2 kn2 kc2) := hs.after k20
    have c22 : ∀ w', Step noF w w' → Calls Tryz.prog 83 #[.slice ka1 kn1 kc1, .slice ka2 kn2 kc2] w' fun e w'' => e = .returned (.bool false) ∧ Step noF w' w'' := fun w' s' => c220 w' (hs.trans s')
    match i, hi with
    | 0, _ =>
      refine op_runs (d := some 14) isattOp0 (wants_none a) (v := .pointer (some ⟨p, 0, none⟩)) (w' := w) ?_ ⟨14, _, rfl, rfl, Step.refl _ _, rfl⟩
      intro oo hoo
      simp only [execOp, hoo, Act.eval, n0]
      go_simp
    | 1, _ =>
      have n14 : a.tmps.getD 14 undef = _ := hat 0 (lc (by kernel_rfl)) 14 rfl
      refine op_runs (d := some 15) isattOp1 (wants_none a) (v := .pointer (some ⟨p, 0, none⟩)) (w' := w) ?_ ⟨15, _, rfl, rfl, Step.refl _ _, rfl⟩
      intro oo hoo
      simp only [execOp, hoo, Act.eval, n14]
      go_simp
    | 2, _ =>
      have n15 : a.tmps.getD 15 undef = _ := hat 1 (lc (by kernel_rfl)) 15 rfl
      refine op_runs (d := some 16) isattOp2 (wants_none a) (v := .pointer (some ⟨p, 0, none⟩)) (w' := w) ?_ ⟨16, _, rfl, rfl, Step.refl _ _, rfl⟩
      intro oo hoo
      simp only [execOp, hoo, Act.eval, n15]
      go_simp
    | 3, _ =>
      have n16 : a.tmps.getD 16 undef = _ := hat 2 (lc (by kernel_rfl)) 16 rfl
      refine op_runs (d := some 17) isattOp3 (wants_none a) (v := .slice ka1 kn1 kc1) (w' := w) ?_ ⟨17, _, rfl, rfl, Step.refl _ _, rfl⟩
      intro oo hoo
      simp only [execOp, hoo, Act.eval, n16]
      go_simp
    | 4, _ =>
      refine op_runs (d := some 18) isattOp4 (wants_none a) (v := .pointer (some ⟨p2, 0, none⟩)) (w' := w) ?_ ⟨18, _, rfl, rfl, Step.refl _ _, rfl⟩
      intro oo hoo
      simp only [execOp, hoo, Act.eval, n1]
      go_simp
    | 5, _ =>
      have n18 : a.tmps.getD 18 undef = _ := hat 4 (lc (by kernel_rfl)) 18 rfl
      refine op_runs (d := some 19) isattOp5 (wants_none a) (v := .pointer (some ⟨p2, 0, none⟩)) (w' := w) ?_ ⟨19, _, rfl, rfl, Step.refl _ _, rfl⟩
      intro oo hoo
      simp only [execOp, hoo, Act.eval, n18]
      go_simp
    | 6, _ =>
      have n19 : a.tmps.getD 19 undef = _ := hat 5 (lc (by kernel_rfl)) 19 rfl
      refine op_runs (d := some 20) isattOp6 (wants_none a) (v := .pointer (some ⟨p2, 0, none⟩)) (w' := w) ?_ ⟨20, _, rfl, rfl, Step.refl _ _, rfl⟩
      intro oo hoo
      simp only [execOp, hoo, Act.eval, n19]
      go_simp
    | 7, _ =>
      have n20 : a.tmps.getD 20 undef = _ := hat 6 (lc (by kernel_rfl)) 20 rfl
      refine op_runs (d := some 21) isattOp7 (wants_none a) (v := .slice ka2 kn2 kc2) (w' := w) ?_ ⟨21, _, rfl, rfl, Step.refl _ _, rfl⟩
      intro oo hoo
      simp only [execOp, hoo, Act.eval, n20]
      go_simp
    | 8, _ =>
      have n17 : a.tmps.getD 17 undef = _ := hat 3 (lc (by kernel_rfl)) 17 rfl
      have n21 : a.tmps.getD 21 undef = _ := hat 7 (lc (by kernel_rfl)) 21 rfl
      refine op_calls isattOp8 (wants_none a) Tryz.func83 (by kernel_rfl) (by kernel_rfl) (args := #[.slice ka1 kn1 kc1, .slice ka2 kn2 kc2]) (by simp [Act.eval, n17, n21]) ((c22 w (Step.refl _ _)).mono ?_)
      rintro e w' ⟨rfl, s'⟩
      exact ⟨_, rfl, 22, _, rfl, rfl, s', rfl⟩
    | 9, _ =>
      have n22 : a.tmps.getD 22 undef = _ := hat 8 (lc (by kernel_rfl)) 22 rfl
      refine op_runs (d := some 23) isattOp9 (wants_none a) (v := .bool false) (w' := w) ?_ ⟨23, _, rfl, rfl, Step.refl _ _, rfl⟩
      intro oo hoo
      simp only [execOp, hoo, Act.eval, n22]
      go_simp
    | 10, _ =>
      have n23 : a.tmps.getD 23 undef = _ := hat 9 (lc (by kernel_rfl)) 23 rfl
      exact op_skip isattOp10 (dj := 23) (by kernel_rfl) n23 (by decide) ⟨24, undef, rfl, rfl, Step.refl _ _, rfl⟩
    | 11, _ =>
      have n23 : a.tmps.getD 23 undef = _ := hat 9 (lc (by kernel_rfl)) 23 rfl
      exact op_skip isattOp11 (dj := 23) (by kernel_rfl) n23 (by decide) ⟨25, undef, rfl, rfl, Step.refl _ _, rfl⟩
    | 12, _ =>
      have n23 : a.tmps.getD 23 undef = _ := hat 9 (lc (by kernel_rfl)) 23 rfl
      exact op_skip isattOp12 (dj := 23) (by kernel_rfl) n23 (by decide) ⟨26, undef, rfl, rfl, Step.refl _ _, rfl⟩
    | 13, _ =>
      have n23 : a.tmps.getD 23 undef = _ := hat 9 (lc (by kernel_rfl)) 23 rfl
      exact op_skip isattOp13 (dj := 23) (by kernel_rfl) n23 (by decide) ⟨27, undef, rfl, rfl, Step.refl _ _, rfl⟩
    | 14, _ =>
      have n23 : a.tmps.getD 23 undef = _ := hat 9 (lc (by kernel_rfl)) 23 rfl
      exact op_skip isattOp14 (dj := 23) (by kernel_rfl) n23 (by decide) ⟨28, undef, rfl, rfl, Step.refl _ _, rfl⟩
    | 15, _ =>
      have n23 : a.tmps.getD 23 undef = _ := hat 9 (lc (by kernel_rfl)) 23 rfl
      exact op_skip isattOp15 (dj := 23) (by kernel_rfl) n23 (by decide) ⟨29, undef, rfl, rfl, Step.refl _ _, rfl⟩
    | 16, _ =>
      have n23 : a.tmps.getD 23 undef = _ := hat 9 (lc (by kernel_rfl)) 23 rfl
      exact op_skip isattOp16 (dj := 23) (by kernel_rfl) n23 (by decide) ⟨30, undef, rfl, rfl, Step.refl _ _, rfl⟩
    | 17, _ =>
      have n23 : a.tmps.getD 23 undef = _ := hat 9 (lc (by kernel_rfl)) 23 rfl
      exact op_skip isattOp17 (dj := 23) (by kernel_rfl) n23 (by decide) ⟨31, undef, rfl, rfl, Step.refl _ _, rfl⟩
    | 18, _ =>
      have n23 : a.tmps.getD 23 undef = _ := hat 9 (lc (by kernel_rfl)) 23 rfl
      exact op_skip isattOp18 (dj := 23) (by kernel_rfl) n23 (by decide) ⟨32, undef, rfl, rfl, Step.refl _ _, rfl⟩
    | 19, _ =>
      have n23 : a.tmps.getD 23 undef = _ := hat 9 (lc (by kernel_rfl)) 23 rfl
      have n32 : a.tmps.getD 32 undef = _ := hat 18 (lc (by kernel_rfl)) 32 rfl
      refine op_runs (d := some 33) isattOp19 (wants_none a) (v := .bool false) (w' := w) ?_ ⟨33, _, rfl, rfl, Step.refl _ _, rfl⟩
      intro oo hoo
      simp only [execOp, hoo, Act.eval, n23, n32]
      go_simp
    | 20, _ =>
      have n33 : a.tmps.getD 33 undef = _ := hat 19 (lc (by kernel_rfl)) 33 rfl
      refine op_runs (d := some 34) isattOp20 (wants_none a) (v := .bool false) (w' := w) ?_ ⟨34, _, rfl, rfl, Step.refl _ _, rfl⟩
      intro oo hoo
      simp only [execOp, hoo, Act.eval, n33]
      go_simp
    | 21, _ =>
      have n34 : a.tmps.getD 34 undef = _ := hat 20 (lc (by kernel_rfl)) 34 rfl
      exact op_skip isattOp21 (dj := 34) (by kernel_rfl) n34 (by decide) ⟨35, undef, rfl, rfl, Step.refl _ _, rfl⟩
    | 22, _ =>
      have n34 : a.tmps.getD 34 undef = _ := hat 20 (lc (by kernel_rfl)) 34 rfl
      exact op_skip isattOp22 (dj := 34) (by kernel_rfl) n34 (by decide) ⟨36, undef, rfl, rfl, Step.refl _ _, rfl⟩
    | 23, _ =>
      have n34 : a.tmps.getD 34 undef = _ := hat 20 (lc (by kernel_rfl)) 34 rfl
      exact op_skip isattOp23 (dj := 34) (by kernel_rfl) n34 (by decide) ⟨37, undef, rfl, rfl, Step.refl _ _, rfl⟩
    | 24, _ =>
      have n34 : a.tmps.getD 34 undef = _ := hat 20 (lc (by kernel_rfl)) 34 rfl
      exact op_skip isattOp24 (dj := 34) (by kernel_rfl) n34 (by decide) ⟨38, undef, rfl, rfl, Step.refl _ _, rfl⟩
    | 25, _ =>
      have n34 : a.tmps.getD 34 undef = _ := hat 20 (lc (by kernel_rfl)) 34 rfl
      exact op_skip isattOp25 (dj := 34) (by kernel_rfl) n34 (by decide) ⟨39, undef, rfl, rfl, Step.refl _ _, rfl⟩
    | 26, _ =>
      have n34 : a.tmps.getD 34 undef = _ := hat 20 (lc (by kernel_rfl)) 34 rfl
      exact op_skip isattOp26 (dj := 34) (by kernel_rfl) n34 (by decide) ⟨40, undef, rfl, rfl, Step.refl _ _, rfl⟩
    | 27, _ =>
      have n34 : a.tmps.getD 34 undef = _ := hat 20 (lc (by kernel_rfl)) 34 rfl
      exact op_skip isattOp27 (dj := 34) (by kernel_rfl) n34 (by decide) ⟨41, undef, rfl, rfl, Step.refl _ _, rfl⟩
    | 28, _ =>
      have n34 : a.tmps.getD 34 undef = _ := hat 20 (lc (by kernel_rfl)) 34 rfl
      exact op_skip isattOp28 (dj := 34) (by kernel_rfl) n34 (by decide) ⟨42, undef, rfl, rfl, Step.refl _ _, rfl⟩
    | 29, _ =>
      have n34 : a.tmps.getD 34 undef = _ := hat 20 (lc (by kernel_rfl)) 34 rfl
      exact op_skip isattOp29 (dj := 34) (by kernel_rfl) n34 (by decide) ⟨43, undef, rfl, rfl, Step.refl _ _, rfl⟩
    | 30, _ =>
      have n34 : a.tmps.getD 34 undef = _ := hat 20 (lc (by kernel_rfl)) 34 rfl
      have n43 : a.tmps.getD 43 undef = _ := hat 29 (lc (by kernel_rfl)) 43 rfl
      refine op_runs (d := some 44) isattOp30 (wants_none a) (v := .bool false) (w' := w) ?_ ⟨44, _, rfl, rfl, Step.refl _ _, rfl⟩
      intro oo hoo
      simp only [execOp, hoo, Act.eval, n34, n43]
      go_simp
    | 31, _ =>
      have n44 : a.tmps.getD 44 undef = _ := hat 30 (lc (by kernel_rfl)) 44 rfl
      refine op_runs (d := some 4) isattOp31 (wants_none a) (v := .bool false) (w' := w) ?_ ⟨4, _, rfl, rfl, Step.refl _ _, rfl⟩
      intro oo hoo
      simp only [execOp, hoo, Act.eval, n44]
      go_simp
    | k + 32, h => exact absurd h (by omega)
  · intro a w hs hdf hs2 hfr hat
    rw [isatt_size] at hat
    have e := act_vals (a := a) (a0 := a0) isattDs (by decide) (fun d hd => by rw [hsz]; exact isatt_lt d (by revert hd; revert d; decide)) hdf hs2 (fun k hk => hfr k (fun hk2 => hk (by revert hk2; simp [isattDl, isattDs])))
    rw [e]
    exact hend (fun d => a.tmps.getD d undef) w hs (hat 31 (by omega) 4 rfl)
end Go.Proofs.YtoobelcphcndoaaGreat
namespace Go.Proofs.YtoobelcphcndoaaGreat
open Go.RowKit Go.Sort
set_option linter.unusedVariables false
set_option linter.unusedSimpArgs false
set_option maxRecDepth 20000

theorem Nd.ext' {a b : Nd} (h1 : a.kids = b.kids) (h2 : a.pivs = b.pivs) (h3 : a.ms = b.ms) : a = b := by
  cases a; cases b; simp_all
/-- Whether two nodes are the same. -/
def sameN (a b : Nd) : Bool := sameI a.kids b.kids && sameT a.pivs b.pivs && sameM a.ms b.ms
theorem sameN_iff (a b : Nd) : sameN a b = true ↔ a = b := by
  unfold sameN
  rw [Bool.and_eq_true, Bool.and_eq_true, sameI_iff, sameT_iff, sameM_iff]
  exact ⟨fun ⟨⟨h1, h2⟩, h3⟩ => Nd.ext' h1 h2 h3, fun h => by subst h; exact ⟨⟨rfl, rfl⟩, rfl⟩⟩
theorem sameNd_nil (w : World) : Calls Tryz.prog 34 #[.pointer none, .pointer none] w fun e w' => e = .returned (.bool true) ∧ w = w' := by
  go_enter Tryz.func34, Tryz.ntmps34
  go_wp2
  go_ret
  exact ⟨rfl, rfl⟩
theorem sameNd_none (p : Nat) (w : World) : Calls Tryz.prog 34 #[.pointer (some ⟨p, 0, none⟩), .pointer none] w fun e w' => e = .returned (.bool false) ∧ w = w' := by
  go_enter Tryz.func34, Tryz.ntmps34
  go_wp2
  go_ret
  exact ⟨rfl, rfl⟩
set_option maxHeartbeats 2000000 in
theorem sameNd_any (p p2 : Nat) (d d2 : Nd) (hl : (d.kids.length ≤ 1000000 ∧ d.pivs.length ≤ 1000000 ∧ d.ms.length ≤ 1000000) ∧ d2.kids.length ≤ 1000000 ∧ d2.pivs.length ≤ 1000000 ∧ d2.ms.length ≤ 1000000) (w : World) (h : InnerAt w p d) (h2 : InnerAt w p2 d2) :
    Calls Tryz.prog 34 #[.pointer (some ⟨p, 0, none⟩), .pointer (some ⟨p2, 0, none⟩)] w fun e w' => e = .returned (.bool (sameN d d2)) ∧ Step noF w w' := by
  obtain ⟨ka, pa, kc, pc, q, k0, k1, k2, hk, hp, hb⟩ := h.cell
  obtain ⟨ka2, pa2, kc2, pc2, q2, j0, j1, j2, hk2, hp2, hb2⟩ := h2.cell
  have cK := fun w' (hs : Step noF w w') => equalI_any d.kids d2.kids ⟨hl.1.1, hl.2.1⟩ ka ka2 kc kc2 w' (hk.step hs).2.2 (hk2.step hs).2.2
  have cP := fun w' (hs : Step noF w w') => equalT_any d.pivs d2.pivs ⟨hl.1.2.1, hl.2.2.1⟩ pa pa2 pc pc2 w' (hp.step hs).2.2 (hp2.step hs).2.2
  have cB := fun w' (hs : Step noF w w') => sameBf_any q q2 d.ms d2.ms ⟨hl.1.2.2, hl.2.2.2⟩ w' (hb.step hs) (hb2.step hs)
  have HD : Hid (sameN d d2 = (sameI d.kids d2.kids && sameT d.pivs d2.pivs && sameM d.ms d2.ms)) := rfl
  obtain ⟨n1, e1⟩ : ∃ n, d.kids.length = n := ⟨_, rfl⟩
  obtain ⟨n2, e2⟩ : ∃ n, d2.kids.length = n := ⟨_, rfl⟩
  obtain ⟨m1, e3⟩ : ∃ n, d.pivs.length = n := ⟨_, rfl⟩
  obtain ⟨m2, e4⟩ : ∃ n, d2.pivs.length = n := ⟨_, rfl⟩
  rw [e1] at k0
  rw [e2] at j0
  rw [e3] at k1
  rw [e4] at j1
  rw [e1, e2] at cK
  rw [e3, e4] at cP
  obtain ⟨B, hB⟩ : ∃ B, sameM d.ms d2.ms = B := ⟨_, rfl⟩
  rw [hB] at cB HD
  obtain ⟨D, hD⟩ : ∃ D, sameN d d2 = D := ⟨_, rfl⟩
  rw [hD] at HD ⊢
  clear h h2 hk hk2 hp hp2 hb hb2 e1 e2 e3 e4 hB hD
  cases eK : sameI d.kids d2.kids
  · rw [eK] at cK HD
    have HD2 : Hid (D = false) := by show _ = _; rw [HD.out]; rfl
    clear eK HD
    go_enter Tryz.func34, Tryz.ntmps34
    go_upto_region 3 with fail
    change Code.wp _ (Code.region 3 ((Tryz.f34.body.bind (regionOps 3)).getD #[]) true) _ _ _
    refine isaf_go p p2 q q2 ka ka2 pa pa2 n1 n2 kc kc2 m1 m2 pc pc2 B w k0 j0 cK _ rfl rfl rfl ?_
    intro ff w1 s1 e4
    have e4' : ff 4 = .bool false := e4
    rw [isatt_lit, e4']
    go_wp2_with fail
    go_ret
    exact ⟨ret_bool HD2.out.symm, s1⟩
  · cases eP : sameT d.pivs d2.pivs
    · rw [eK, eP] at HD
      rw [eK] at cK
      rw [eP] at cP
      have HD2 : Hid (D = false) := by show _ = _; rw [HD.out]; rfl
      clear eK eP HD
      go_enter Tryz.func34, Tryz.ntmps34
      go_upto_region 3 with fail
      change Code.wp _ (Code.region 3 ((Tryz.f34.body.bind (regionOps 3)).getD #[]) true) _ _ _
      refine isatf_go p p2 q q2 ka ka2 pa pa2 n1 n2 kc kc2 m1 m2 pc pc2 B w k0 j0 cK k1 j1 cP _ rfl rfl rfl ?_
      intro ff w1 s1 e4
      have e4' : ff 4 = .bool false := e4
      rw [isatt_lit, e4']
      go_wp2_with fail
      go_ret
      exact ⟨ret_bool HD2.out.symm, s1⟩
    · rw [eK, eP] at HD
      rw [eK] at cK
      rw [eP] at cP
      have HD2 : Hid (D = B) := by show _ = _; rw [HD.out]; rfl
      clear eK eP HD
      go_enter Tryz.func34, Tryz.ntmps34
      go_upto_region 3 with fail
      change Code.wp _ (Code.region 3 ((Tryz.f34.body.bind (regionOps 3)).getD #[]) true) _ _ _
      refine isatt_go p p2 q q2 ka ka2 pa pa2 n1 n2 kc kc2 m1 m2 pc pc2 B w k0 j0 cK k1 j1 cP k2 j2 cB _ rfl rfl rfl ?_
      intro ff w1 s1 e4
      have e4' : ff 4 = .bool B := e4
      rw [isatt_lit, e4']
      go_wp2_with fail
      go_ret
      exact ⟨ret_bool HD2.out.symm, s1⟩
end Go.Proofs.YtoobelcphcndoaaGreat
