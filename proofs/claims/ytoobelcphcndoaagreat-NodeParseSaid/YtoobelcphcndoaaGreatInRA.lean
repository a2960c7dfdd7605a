/-
  The region that draws in grangerref11.Good (number 11), operation by operation. Written by draw6.py.
  The region that draws in grangerref11.Good (number 11), operation by operation. Written by draw6.py.
  The region that draws in grangerref11.Good (number 11), operation by operation. Written by draw6.py.
  The reference of layer 11: Good, KidOf, Range, Of; the law's form.
  The reference of layer 11: a node's box; the law's form, Of, Range.
  The reference of layer 11: Range.
  The reference of layer 11: Same.
  The law's form and the reference's Same, as the laws of layer 11 want them.
-/
import Derived.Test.YtoobelcphcndoaaGreatDraw
import Derived.Test.YtoobelcphcndoaaGreatInA
import Derived.Test.YtoobelcphcndoaaGreatKeyM
import Derived.Test.YtoobelcphcndoaaGreatInS
import Derived.Deep.LoopGhost
import Derived.Deep.Cut
import Derived.Test.YtoobelcphcndoaaGreatKeyI
import Derived.Test.YtoobelcphcndoaaGreatBfRA
import Derived.Test.YtoobelcphcndoaaGreatKeyC
namespace Go.Proofs.YtoobelcphcndoaaGreat
open Go.RowKit
set_option linter.unusedVariables false
set_option linter.unusedSimpArgs false


def igzDs : List Nat := [35, 36, 37, 38, 39, 40, 41, 42, 43, 44, 45, 46, 47, 48, 49, 50, 51, 52, 53, 54, 55, 56]
def igzDl : List (Option Nat) := [some 35, some 36, some 37, some 38, some 39, some 40, some 41, some 42, some 43, some 44, some 45, some 46, some 47, some 48, some 49, some 50, some 51, some 52, some 53, some 54, some 55, some 56]
theorem igz_dl : ((Tryz.f59.body.bind (regionOps 11)).getD #[]).toList.map (·.dst) = igzDl := by kernel_rfl
theorem igz_back : backB ((Tryz.f59.body.bind (regionOps 11)).getD #[]) = true := by kernel_rfl
theorem igz_size : ((Tryz.f59.body.bind (regionOps 11)).getD #[]).size = 22 := by kernel_rfl
theorem igz_nd : igzDl.Pairwise (fun x y => x = none ∨ x ≠ y) := by decide
theorem igz_lt (d : Nat) (h : some d ∈ igzDl) : d < 57 := by
  have hh : igzDl.all (fun o => o.all (fun d => decide (d < 57))) = true := by decide
  simpa using List.all_eq_true.1 hh _ h
theorem igzOp0 : opIs ((Tryz.f59.body.bind (regionOps 11)).getD #[]) 0 (some 35) (Op.move (Operand.tmp 1)) (none) := opIs_of (by kernel_rfl)
theorem igzOp1 : opIs ((Tryz.f59.body.bind (regionOps 11)).getD #[]) 1 (some 36) (Op.move (Operand.tmp 6)) (none) := opIs_of (by kernel_rfl)
theorem igzOp2 : opIs ((Tryz.f59.body.bind (regionOps 11)).getD #[]) 2 (some 37) (Op.indexAddr 24 (Operand.tmp 35) (Operand.tmp 36)) (none) := opIs_of (by kernel_rfl)
theorem igzOp3 : opIs ((Tryz.f59.body.bind (regionOps 11)).getD #[]) 3 (some 38) (Op.load 9 (Operand.tmp 37)) (none) := opIs_of (by kernel_rfl)
theorem igzOp4 : opIs ((Tryz.f59.body.bind (regionOps 11)).getD #[]) 4 (some 39) (Op.call { callee := Callee.value (Operand.func 89), args := #[Operand.tmp 38], argTypes := #[9] }) (none) := opIs_of (by kernel_rfl)
theorem igzOp5 : opIs ((Tryz.f59.body.bind (regionOps 11)).getD #[]) 5 (some 40) (Op.unOp UnOp.not 4 (Operand.tmp 39)) (none) := opIs_of (by kernel_rfl)
theorem igzOp6 : opIs ((Tryz.f59.body.bind (regionOps 11)).getD #[]) 6 (some 41) (Op.move (Operand.tmp 40)) (none) := opIs_of (by kernel_rfl)
theorem igzOp7 : opIs ((Tryz.f59.body.bind (regionOps 11)).getD #[]) 7 (some 42) (Op.move (Operand.tmp 6)) (some (6, false)) := opIs_of (by kernel_rfl)
theorem igzOp8 : opIs ((Tryz.f59.body.bind (regionOps 11)).getD #[]) 8 (some 43) (Op.binOp BinOp.gtr 3 (Operand.tmp 42) (Operand.const (Value.int IntKind.i64 0)) 3) (some (6, false)) := opIs_of (by kernel_rfl)
theorem igzOp9 : opIs ((Tryz.f59.body.bind (regionOps 11)).getD #[]) 9 (some 44) (Op.move (Operand.tmp 43)) (some (6, false)) := opIs_of (by kernel_rfl)
theorem igzOp10 : opIs ((Tryz.f59.body.bind (regionOps 11)).getD #[]) 10 (some 45) (Op.move (Operand.tmp 1)) (some (9, true)) := opIs_of (by kernel_rfl)
theorem igzOp11 : opIs ((Tryz.f59.body.bind (regionOps 11)).getD #[]) 11 (some 46) (Op.move (Operand.tmp 6)) (some (9, true)) := opIs_of (by kernel_rfl)
theorem igzOp12 : opIs ((Tryz.f59.body.bind (regionOps 11)).getD #[]) 12 (some 47) (Op.indexAddr 24 (Operand.tmp 45) (Operand.tmp 46)) (some (9, true)) := opIs_of (by kernel_rfl)
theorem igzOp13 : opIs ((Tryz.f59.body.bind (regionOps 11)).getD #[]) 13 (some 48) (Op.load 9 (Operand.tmp 47)) (some (9, true)) := opIs_of (by kernel_rfl)
theorem igzOp14 : opIs ((Tryz.f59.body.bind (regionOps 11)).getD #[]) 14 (some 49) (Op.move (Operand.tmp 1)) (some (9, true)) := opIs_of (by kernel_rfl)
theorem igzOp15 : opIs ((Tryz.f59.body.bind (regionOps 11)).getD #[]) 15 (some 50) (Op.move (Operand.tmp 6)) (some (9, true)) := opIs_of (by kernel_rfl)
theorem igzOp16 : opIs ((Tryz.f59.body.bind (regionOps 11)).getD #[]) 16 (some 51) (Op.binOp BinOp.sub 3 (Operand.tmp 50) (Operand.const (Value.int IntKind.i64 1)) 3) (some (9, true)) := opIs_of (by kernel_rfl)
theorem igzOp17 : opIs ((Tryz.f59.body.bind (regionOps 11)).getD #[]) 17 (some 52) (Op.indexAddr 24 (Operand.tmp 49) (Operand.tmp 51)) (some (9, true)) := opIs_of (by kernel_rfl)
theorem igzOp18 : opIs ((Tryz.f59.body.bind (regionOps 11)).getD #[]) 18 (some 53) (Op.load 9 (Operand.tmp 52)) (some (9, true)) := opIs_of (by kernel_rfl)
theorem igzOp19 : opIs ((Tryz.f59.body.bind (regionOps 11)).getD #[]) 19 (some 54) (Op.binOp BinOp.leq 9 (Operand.tmp 48) (Operand.tmp 53) 9) (some (9, true)) := opIs_of (by kernel_rfl)
theorem igzOp20 : opIs ((Tryz.f59.body.bind (regionOps 11)).getD #[]) 20 (some 55) (Op.pick (Operand.tmp 44) (Operand.tmp 54) (Operand.const (Value.bool false))) (some (6, false)) := opIs_of (by kernel_rfl)
theorem igzOp21 : opIs ((Tryz.f59.body.bind (regionOps 11)).getD #[]) 21 (some 56) (Op.pick (Operand.tmp 41) (Operand.const (Value.bool true)) (Operand.tmp 55)) (none) := opIs_of (by kernel_rfl)
/-- What is said of each slot. -/
def igzSp (b off n c j jm : Nat) (X Y : List UInt8) (i : Nat) (w : World) (v : Value) : Prop := match i with
  | 0 => v = .slice (some ⟨b, off, none⟩) n c
  | 1 => v = .int .i64 j
  | 2 => v = .pointer (some ⟨b, off + j, none⟩)
  | 3 => v = .string (str X)
  | 4 => v = .bool true
  | 5 => v = .bool false
  | 6 => v = .bool false
  | 7 => v = .int .i64 j
  | 8 => v = .bool false
  | 9 => v = .bool false
  | 10 => v = undef
  | 11 => v = undef
  | 12 => v = undef
  | 13 => v = undef
  | 14 => v = undef
  | 15 => v = undef
  | 16 => v = undef
  | 17 => v = undef
  | 18 => v = undef
  | 19 => v = undef
  | 20 => v = .bool false
  | 21 => v = .bool false
  | _ => True
theorem igzSp_mono (b off n c j jm : Nat) (X Y : List UInt8) : ∀ i w w' v, Step noF w w' → igzSp b off n c j jm X Y i w v → igzSp b off n c j jm X Y i w' v := by
  intro i w w' v hs h
  match i with
  | 0 => exact h
  | 1 => exact h
  | 2 => exact h
  | 3 => exact h
  | 4 => exact h
  | 5 => exact h
  | 6 => exact h
  | 7 => exact h
  | 8 => exact h
  | 9 => exact h
  | 10 => exact h
  | 11 => exact h
  | 12 => exact h
  | 13 => exact h
  | 14 => exact h
  | 15 => exact h
  | 16 => exact h
  | 17 => exact h
  | 18 => exact h
  | 19 => exact h
  | 20 => exact h
  | 21 => exact h
  | k + 22 => exact h

set_option maxHeartbeats 4000000 in
set_option maxRecDepth 100000 in
theorem igz_go (b off n c j jm : Nat) (X Y : List UInt8) (w0 : World) (b10 : w0.cell? ⟨b, off + j, none⟩ = some (.string (str X))) (lj0 : (j : Int) < (n : Int)) (c390 : ∀ w0', Step noF w0 w0' → Calls Tryz.prog 89 #[.string (str X)] w0' fun e w0'' => e = .returned (.bool true) ∧ Step noF w0' w0'') (gj0 : Hid (j = 0))
    {Q : Exit → Act → World → Prop} (a0 : Act) (hsz : a0.tmps.size = 57) (h1 : a0.tmps.getD 1 undef = .slice (some ⟨b, off, none⟩) n c) (h6 : a0.tmps.getD 6 undef = .int .i64 j)
    (hend : ∀ (f : Nat → Value) (w : World), Step noF w0 w → igzSp b off n c j jm X Y 21 w (f 56) → Q .normal (putAll a0 (igzDs.map some) (igzDs.map f)) w) :
    (Code.region 11 ((Tryz.f59.body.bind (regionOps 11)).getD #[]) true).wp Tryz.prog Q a0 w0 := by
  refine wp_region_preds (igzSp b off n c j jm X Y) (igzSp_mono b off n c j jm X Y) igzDl (by kernel_rfl) igz_back igz_dl igz_nd (fun d h => by rw [hsz]; exact igz_lt d h) ?_ ?_
  · intro i hi a w hs hfr hat
    rw [igz_size] at hi
    have n1 := (hfr 1 (by decide)).trans h1
    have n6 := (hfr 6 (by decide)).trans h6
    have b1 : w.cell? ⟨b, off + j, none⟩ = some (.string (str X)) := hs.after b10
    have lj : (j : Int) < (n : Int) := lj0
    have c39 : ∀ w', Step noF w w' → Calls Tryz.prog 89 #[.string (str X)] w' fun e w'' => e = .returned (.bool true) ∧ Step noF w' w'' := fun w' s' => c390 w' (hs.trans s')
    have gj : Hid (j = 0) := gj0
    match i, hi with
    | 0, _ =>
      refine op_runs (d := some 35) igzOp0 (wants_none a) (v := .slice (some ⟨b, off, none⟩) n c) (w' := w) ?_ ⟨35, _, rfl, rfl, Step.refl _ _, rfl⟩
      intro oo hoo
      simp only [execOp, hoo, Act.eval, n1]
      go_simp
    | 1, _ =>
      refine op_runs (d := some 36) igzOp1 (wants_none a) (v := .int .i64 j) (w' := w) ?_ ⟨36, _, rfl, rfl, Step.refl _ _, rfl⟩
      intro oo hoo
      simp only [execOp, hoo, Act.eval, n6]
      go_simp
    | 2, _ =>
      have n35 : a.tmps.getD 35 undef = _ := hat 0 (lc (by kernel_rfl)) 35 rfl
      have n36 : a.tmps.getD 36 undef = _ := hat 1 (lc (by kernel_rfl)) 36 rfl
      refine op_runs (d := some 37) igzOp2 (wants_none a) (v := .pointer (some ⟨b, off + j, none⟩)) (w' := w) ?_ ⟨37, _, rfl, rfl, Step.refl _ _, rfl⟩
      intro oo hoo
      simp only [execOp, hoo, Act.eval, n35, n36]
      go_simp
    | 3, _ =>
      have n37 : a.tmps.getD 37 undef = _ := hat 2 (lc (by kernel_rfl)) 37 rfl
      refine op_runs (d := some 38) igzOp3 (wants_none a) (v := .string (str X)) (w' := w) ?_ ⟨38, _, rfl, rfl, Step.refl _ _, rfl⟩
      intro oo hoo
      simp only [execOp, hoo, Act.eval, n37]
      go_simp
    | 4, _ =>
      have n38 : a.tmps.getD 38 undef = _ := hat 3 (lc (by kernel_rfl)) 38 rfl
      refine op_calls igzOp4 (wants_none a) Tryz.func89 (by kernel_rfl) (by kernel_rfl) (args := #[.string (str X)]) (by simp [Act.eval, n38]) ((c39 w (Step.refl _ _)).mono ?_)
      rintro e w' ⟨rfl, s'⟩
      exact ⟨_, rfl, 39, _, rfl, rfl, s', rfl⟩
    | 5, _ =>
      have n39 : a.tmps.getD 39 undef = _ := hat 4 (lc (by kernel_rfl)) 39 rfl
      refine op_runs (d := some 40) igzOp5 (wants_none a) (v := .bool false) (w' := w) ?_ ⟨40, _, rfl, rfl, Step.refl _ _, rfl⟩
      intro oo hoo
      simp only [execOp, hoo, Act.eval, n39]
      go_simp
    | 6, _ =>
      have n40 : a.tmps.getD 40 undef = _ := hat 5 (lc (by kernel_rfl)) 40 rfl
      refine op_runs (d := some 41) igzOp6 (wants_none a) (v := .bool false) (w' := w) ?_ ⟨41, _, rfl, rfl, Step.refl _ _, rfl⟩
      intro oo hoo
      simp only [execOp, hoo, Act.eval, n40]
      go_simp
    | 7, _ =>
      have n41 : a.tmps.getD 41 undef = _ := hat 6 (lc (by kernel_rfl)) 41 rfl
      refine op_runs (d := some 42) igzOp7 (wants_some (d := 41) (b := false) (by kernel_rfl) n41) (v := .int .i64 j) (w' := w) ?_ ⟨42, _, rfl, rfl, Step.refl _ _, rfl⟩
      intro oo hoo
      simp only [execOp, hoo, Act.eval, n6]
      go_simp
    | 8, _ =>
      have n42 : a.tmps.getD 42 undef = _ := hat 7 (lc (by kernel_rfl)) 42 rfl
      have n41 : a.tmps.getD 41 undef = _ := hat 6 (lc (by kernel_rfl)) 41 rfl
      refine op_runs (d := some 43) igzOp8 (wants_some (d := 41) (b := false) (by kernel_rfl) n41) (v := .bool false) (w' := w) ?_ ⟨43, _, rfl, rfl, Step.refl _ _, rfl⟩
      intro oo hoo
      simp only [execOp, hoo, Act.eval, n42]
      rw [gj.out]
      go_simp
    | 9, _ =>
      have n43 : a.tmps.getD 43 undef = _ := hat 8 (lc (by kernel_rfl)) 43 rfl
      have n41 : a.tmps.getD 41 undef = _ := hat 6 (lc (by kernel_rfl)) 41 rfl
      refine op_runs (d := some 44) igzOp9 (wants_some (d := 41) (b := false) (by kernel_rfl) n41) (v := .bool false) (w' := w) ?_ ⟨44, _, rfl, rfl, Step.refl _ _, rfl⟩
      intro oo hoo
      simp only [execOp, hoo, Act.eval, n43]
      go_simp
    | 10, _ =>
      have n44 : a.tmps.getD 44 undef = _ := hat 9 (lc (by kernel_rfl)) 44 rfl
      exact op_skip igzOp10 (dj := 44) (by kernel_rfl) n44 (by decide) ⟨45, undef, rfl, rfl, Step.refl _ _, rfl⟩
    | 11, _ =>
      have n44 : a.tmps.getD 44 undef = _ := hat 9 (lc (by kernel_rfl)) 44 rfl
      exact op_skip igzOp11 (dj := 44) (by kernel_rfl) n44 (by decide) ⟨46, undef, rfl, rfl, Step.refl _ _, rfl⟩
    | 12, _ =>
      have n44 : a.tmps.getD 44 undef = _ := hat 9 (lc (by kernel_rfl)) 44 rfl
      exact op_skip igzOp12 (dj := 44) (by kernel_rfl) n44 (by decide) ⟨47, undef, rfl, rfl, Step.refl _ _, rfl⟩
    | 13, _ =>
      have n44 : a.tmps.getD 44 undef = _ := hat 9 (lc (by kernel_rfl)) 44 rfl
      exact op_skip igzOp13 (dj := 44) (by kernel_rfl) n44 (by decide) ⟨48, undef, rfl, rfl, Step.refl _ _, rfl⟩
    | 14, _ =>
      have n44 : a.tmps.getD 44 undef = _ := hat 9 (lc (by kernel_rfl)) 44 rfl
      exact op_skip igzOp14 (dj := 44) (by kernel_rfl) n44 (by decide) ⟨49, undef, rfl, rfl, Step.refl _ _, rfl⟩
    | 15, _ =>
      have n44 : a.tmps.getD 44 undef = _ := hat 9 (lc (by kernel_rfl)) 44 rfl
      exact op_skip igzOp15 (dj := 44) (by kernel_rfl) n44 (by decide) ⟨50, undef, rfl, rfl, Step.refl _ _, rfl⟩
    | 16, _ =>
      have n44 : a.tmps.getD 44 undef = _ := hat 9 (lc (by kernel_rfl)) 44 rfl
      exact op_skip igzOp16 (dj := 44) (by kernel_rfl) n44 (by decide) ⟨51, undef, rfl, rfl, Step.refl _ _, rfl⟩
    | 17, _ =>
      have n44 : a.tmps.getD 44 undef = _ := hat 9 (lc (by kernel_rfl)) 44 rfl
      exact op_skip igzOp17 (dj := 44) (by kernel_rfl) n44 (by decide) ⟨52, undef, rfl, rfl, Step.refl _ _, rfl⟩
    | 18, _ =>
      have n44 : a.tmps.getD 44 undef = _ := hat 9 (lc (by kernel_rfl)) 44 rfl
      exact op_skip igzOp18 (dj := 44) (by kernel_rfl) n44 (by decide) ⟨53, undef, rfl, rfl, Step.refl _ _, rfl⟩
    | 19, _ =>
      have n44 : a.tmps.getD 44 undef = _ := hat 9 (lc (by kernel_rfl)) 44 rfl
      exact op_skip igzOp19 (dj := 44) (by kernel_rfl) n44 (by decide) ⟨54, undef, rfl, rfl, Step.refl _ _, rfl⟩
    | 20, _ =>
      have n44 : a.tmps.getD 44 undef = _ := hat 9 (lc (by kernel_rfl)) 44 rfl
      have n54 : a.tmps.getD 54 undef = _ := hat 19 (lc (by kernel_rfl)) 54 rfl
      have n41 : a.tmps.getD 41 undef = _ := hat 6 (lc (by kernel_rfl)) 41 rfl
      refine op_runs (d := some 55) igzOp20 (wants_some (d := 41) (b := false) (by kernel_rfl) n41) (v := .bool false) (w' := w) ?_ ⟨55, _, rfl, rfl, Step.refl _ _, rfl⟩
      intro oo hoo
      simp only [execOp, hoo, Act.eval, n44, n54]
      go_simp
    | 21, _ =>
      have n41 : a.tmps.getD 41 undef = _ := hat 6 (lc (by kernel_rfl)) 41 rfl
      have n55 : a.tmps.getD 55 undef = _ := hat 20 (lc (by kernel_rfl)) 55 rfl
      refine op_runs (d := some 56) igzOp21 (wants_none a) (v := .bool false) (w' := w) ?_ ⟨56, _, rfl, rfl, Step.refl _ _, rfl⟩
      intro oo hoo
      simp only [execOp, hoo, Act.eval, n41, n55]
      go_simp
    | k + 22, h => exact absurd h (by omega)
  · intro a w hs hdf hs2 hfr hat
    rw [igz_size] at hat
    have e := act_vals (a := a) (a0 := a0) igzDs (by decide) (fun d hd => by rw [hsz]; exact igz_lt d (by revert hd; revert d; decide)) hdf hs2 (fun k hk => hfr k (fun hk2 => hk (by revert hk2; simp [igzDl, igzDs])))
    rw [e]
    exact hend (fun d => a.tmps.getD d undef) w hs (hat 21 (by omega) 56 rfl)
set_option maxRecDepth 100000 in
theorem igz_lit (f : Nat → Value) (D : List Deferred) (x0 x1 x2 x3 x4 x5 x6 x7 x8 x9 x10 x11 x12 x13 x14 x15 x16 x17 x18 x19 x20 x21 x22 x23 x24 x25 x26 x27 x28 x29 x30 x31 x32 x33 x34 x35 x36 x37 x38 x39 x40 x41 x42 x43 x44 x45 x46 x47 x48 x49 x50 x51 x52 x53 x54 x55 x56 : Value) : putAll { tmps := #[x0, x1, x2, x3, x4, x5, x6, x7, x8, x9, x10, x11, x12, x13, x14, x15, x16, x17, x18, x19, x20, x21, x22, x23, x24, x25, x26, x27, x28, x29, x30, x31, x32, x33, x34, x35, x36, x37, x38, x39, x40, x41, x42, x43, x44, x45, x46, x47, x48, x49, x50, x51, x52, x53, x54, x55, x56], defers := D } (igzDs.map some) (igzDs.map f) = { tmps := #[x0, x1, x2, x3, x4, x5, x6, x7, x8, x9, x10, x11, x12, x13, x14, x15, x16, x17, x18, x19, x20, x21, x22, x23, x24, x25, x26, x27, x28, x29, x30, x31, x32, x33, x34, f 35, f 36, f 37, f 38, f 39, f 40, f 41, f 42, f 43, f 44, f 45, f 46, f 47, f 48, f 49, f 50, f 51, f 52, f 53, f 54, f 55, f 56], defers := D } := by kernel_rfl
end Go.Proofs.YtoobelcphcndoaaGreat
namespace Go.Proofs.YtoobelcphcndoaaGreat
open Go.RowKit
set_option linter.unusedVariables false
set_option linter.unusedSimpArgs false

theorem op_skipU {P : Program} {ops : Array Oper} {Q : Exit → Act → World → Prop} {i j dj : Nat} {d : Option Nat} {op : Op} {b : Bool} {a : Act} {w : World} {K : Act → World → Prop} (h : opIs ops i d op (some (j, b))) (hd : (ops[j]?).bind (·.dst) = some dj) (hv : a.tmps.getD dj undef = undef) (hK : K (a.put d undef) w) : wpOp P ops Q i K a w := by
  unfold opIs at h
  obtain ⟨o, ho, he⟩ := Option.map_eq_some_iff.1 h
  simp only [Prod.mk.injEq] at he
  obtain ⟨rfl, rfl, hg⟩ := he
  refine wpOp_step ho fun K' hK' => ?_
  have hwt : ¬ Region.wanted o (yielded ops a.tmps) = true := by
    unfold Region.wanted
    rw [hg]
    have hy : yielded ops a.tmps j ≠ some b := by
      unfold yielded
      rw [hd, Option.bind_some]
      rw [Array.getD_eq_getD_getElem?] at hv
      cases hx : a.tmps[dj]? with
      | none => simp
      | some v =>
        rw [hx] at hv
        simp at hv
        subst hv
        simp [undef]
    simp [hy]
  rw [if_neg hwt]
  exact hK' _ _ hK

/-- What is said of each slot. -/
def igfSp (b off n c j jm : Nat) (X Y : List UInt8) (i : Nat) (w : World) (v : Value) : Prop := match i with
  | 0 => v = .slice (some ⟨b, off, none⟩) n c
  | 1 => v = .int .i64 j
  | 2 => v = .pointer (some ⟨b, off + j, none⟩)
  | 3 => v = .string (str X)
  | 4 => v = .bool false
  | 5 => v = .bool true
  | 6 => v = .bool true
  | 7 => v = undef
  | 8 => v = undef
  | 9 => v = undef
  | 10 => v = undef
  | 11 => v = undef
  | 12 => v = undef
  | 13 => v = undef
  | 14 => v = undef
  | 15 => v = undef
  | 16 => v = undef
  | 17 => v = undef
  | 18 => v = undef
  | 19 => v = undef
  | 20 => v = undef
  | 21 => v = .bool true
  | _ => True
theorem igfSp_mono (b off n c j jm : Nat) (X Y : List UInt8) : ∀ i w w' v, Step noF w w' → igfSp b off n c j jm X Y i w v → igfSp b off n c j jm X Y i w' v := by
  intro i w w' v hs h
  match i with
  | 0 => exact h
  | 1 => exact h
  | 2 => exact h
  | 3 => exact h
  | 4 => exact h
  | 5 => exact h
  | 6 => exact h
  | 7 => exact h
  | 8 => exact h
  | 9 => exact h
  | 10 => exact h
  | 11 => exact h
  | 12 => exact h
  | 13 => exact h
  | 14 => exact h
  | 15 => exact h
  | 16 => exact h
  | 17 => exact h
  | 18 => exact h
  | 19 => exact h
  | 20 => exact h
  | 21 => exact h
  | k + 22 => exact h

set_option maxHeartbeats 4000000 in
set_option maxRecDepth 100000 in
theorem igf_go (b off n c j jm : Nat) (X Y : List UInt8) (w0 : World) (b10 : w0.cell? ⟨b, off + j, none⟩ = some (.string (str X))) (lj0 : (j : Int) < (n : Int)) (c390 : ∀ w0', Step noF w0 w0' → Calls Tryz.prog 89 #[.string (str X)] w0' fun e w0'' => e = .returned (.bool false) ∧ Step noF w0' w0'')
    {Q : Exit → Act → World → Prop} (a0 : Act) (hsz : a0.tmps.size = 57) (h1 : a0.tmps.getD 1 undef = .slice (some ⟨b, off, none⟩) n c) (h6 : a0.tmps.getD 6 undef = .int .i64 j)
    (hend : ∀ (f : Nat → Value) (w : World), Step noF w0 w → igfSp b off n c j jm X Y 21 w (f 56) → Q .normal (putAll a0 (igzDs.map some) (igzDs.map f)) w) :
    (Code.region 11 ((Tryz.f59.body.bind (regionOps 11)).getD #[]) true).wp Tryz.prog Q a0 w0 := by
  refine wp_region_preds (igfSp b off n c j jm X Y) (igfSp_mono b off n c j jm X Y) igzDl (by kernel_rfl) igz_back igz_dl igz_nd (fun d h => by rw [hsz]; exact igz_lt d h) ?_ ?_
  · intro i hi a w hs hfr hat
    rw [igz_size] at hi
    have n1 := (hfr 1 (by decide)).trans h1
    have n6 := (hfr 6 (by decide)).trans h6
    have b1 : w.cell? ⟨b, off + j, none⟩ = some (.string (str X)) := hs.after b10
    have lj : (j : Int) < (n : Int) := lj0
    have c39 : ∀ w', Step noF w w' → Calls Tryz.prog 89 #[.string (str X)] w' fun e w'' => e = .returned (.bool false) ∧ Step noF w' w'' := fun w' s' => c390 w' (hs.trans s')
    match i, hi with
    | 0, _ =>
      refine op_runs (d := some 35) igzOp0 (wants_none a) (v := .slice (some ⟨b, off, none⟩) n c) (w' := w) ?_ ⟨35, _, rfl, rfl, Step.refl _ _, rfl⟩
      intro oo hoo
      simp only [execOp, hoo, Act.eval, n1]
      go_simp
    | 1, _ =>
      refine op_runs (d := some 36) igzOp1 (wants_none a) (v := .int .i64 j) (w' := w) ?_ ⟨36, _, rfl, rfl, Step.refl _ _, rfl⟩
      intro oo hoo
      simp only [execOp, hoo, Act.eval, n6]
      go_simp
    | 2, _ =>
      have n35 : a.tmps.getD 35 undef = _ := hat 0 (lc (by kernel_rfl)) 35 rfl
      have n36 : a.tmps.getD 36 undef = _ := hat 1 (lc (by kernel_rfl)) 36 rfl
      refine op_runs (d := some 37) igzOp2 (wants_none a) (v := .pointer (some ⟨b, off + j, none⟩)) (w' := w) ?_ ⟨37, _, rfl, rfl, Step.refl _ _, rfl⟩
      intro oo hoo
      simp only [execOp, hoo, Act.eval, n35, n36]
      go_simp
    | 3, _ =>
      have n37 : a.tmps.getD 37 undef = _ := hat 2 (lc (by kernel_rfl)) 37 rfl
      refine op_runs (d := some 38) igzOp3 (wants_none a) (v := .string (str X)) (w' := w) ?_ ⟨38, _, rfl, rfl, Step.refl _ _, rfl⟩
      intro oo hoo
      simp only [execOp, hoo, Act.eval, n37]
      go_simp
    | 4, _ =>
      have n38 : a.tmps.getD 38 undef = _ := hat 3 (lc (by kernel_rfl)) 38 rfl
      refine op_calls igzOp4 (wants_none a) Tryz.func89 (by kernel_rfl) (by kernel_rfl) (args := #[.string (str X)]) (by simp [Act.eval, n38]) ((c39 w (Step.refl _ _)).mono ?_)
      rintro e w' ⟨rfl, s'⟩
      exact ⟨_, rfl, 39, _, rfl, rfl, s', rfl⟩
    | 5, _ =>
      have n39 : a.tmps.getD 39 undef = _ := hat 4 (lc (by kernel_rfl)) 39 rfl
      refine op_runs (d := some 40) igzOp5 (wants_none a) (v := .bool true) (w' := w) ?_ ⟨40, _, rfl, rfl, Step.refl _ _, rfl⟩
      intro oo hoo
      simp only [execOp, hoo, Act.eval, n39]
      go_simp
    | 6, _ =>
      have n40 : a.tmps.getD 40 undef = _ := hat 5 (lc (by kernel_rfl)) 40 rfl
      refine op_runs (d := some 41) igzOp6 (wants_none a) (v := .bool true) (w' := w) ?_ ⟨41, _, rfl, rfl, Step.refl _ _, rfl⟩
      intro oo hoo
      simp only [execOp, hoo, Act.eval, n40]
      go_simp
    | 7, _ =>
      have n41 : a.tmps.getD 41 undef = _ := hat 6 (lc (by kernel_rfl)) 41 rfl
      exact op_skip igzOp7 (dj := 41) (by kernel_rfl) n41 (by decide) ⟨42, undef, rfl, rfl, Step.refl _ _, rfl⟩
    | 8, _ =>
      have n41 : a.tmps.getD 41 undef = _ := hat 6 (lc (by kernel_rfl)) 41 rfl
      exact op_skip igzOp8 (dj := 41) (by kernel_rfl) n41 (by decide) ⟨43, undef, rfl, rfl, Step.refl _ _, rfl⟩
    | 9, _ =>
      have n41 : a.tmps.getD 41 undef = _ := hat 6 (lc (by kernel_rfl)) 41 rfl
      exact op_skip igzOp9 (dj := 41) (by kernel_rfl) n41 (by decide) ⟨44, undef, rfl, rfl, Step.refl _ _, rfl⟩
    | 10, _ =>
      have n44 : a.tmps.getD 44 undef = _ := hat 9 (lc (by kernel_rfl)) 44 rfl
      exact op_skipU igzOp10 (dj := 44) (by kernel_rfl) n44 ⟨45, undef, rfl, rfl, Step.refl _ _, rfl⟩
    | 11, _ =>
      have n44 : a.tmps.getD 44 undef = _ := hat 9 (lc (by kernel_rfl)) 44 rfl
      exact op_skipU igzOp11 (dj := 44) (by kernel_rfl) n44 ⟨46, undef, rfl, rfl, Step.refl _ _, rfl⟩
    | 12, _ =>
      have n44 : a.tmps.getD 44 undef = _ := hat 9 (lc (by kernel_rfl)) 44 rfl
      exact op_skipU igzOp12 (dj := 44) (by kernel_rfl) n44 ⟨47, undef, rfl, rfl, Step.refl _ _, rfl⟩
    | 13, _ =>
      have n44 : a.tmps.getD 44 undef = _ := hat 9 (lc (by kernel_rfl)) 44 rfl
      exact op_skipU igzOp13 (dj := 44) (by kernel_rfl) n44 ⟨48, undef, rfl, rfl, Step.refl _ _, rfl⟩
    | 14, _ =>
      have n44 : a.tmps.getD 44 undef = _ := hat 9 (lc (by kernel_rfl)) 44 rfl
      exact op_skipU igzOp14 (dj := 44) (by kernel_rfl) n44 ⟨49, undef, rfl, rfl, Step.refl _ _, rfl⟩
    | 15, _ =>
      have n44 : a.tmps.getD 44 undef = _ := hat 9 (lc (by kernel_rfl)) 44 rfl
      exact op_skipU igzOp15 (dj := 44) (by kernel_rfl) n44 ⟨50, undef, rfl, rfl, Step.refl _ _, rfl⟩
    | 16, _ =>
      have n44 : a.tmps.getD 44 undef = _ := hat 9 (lc (by kernel_rfl)) 44 rfl
      exact op_skipU igzOp16 (dj := 44) (by kernel_rfl) n44 ⟨51, undef, rfl, rfl, Step.refl _ _, rfl⟩
    | 17, _ =>
      have n44 : a.tmps.getD 44 undef = _ := hat 9 (lc (by kernel_rfl)) 44 rfl
      exact op_skipU igzOp17 (dj := 44) (by kernel_rfl) n44 ⟨52, undef, rfl, rfl, Step.refl _ _, rfl⟩
    | 18, _ =>
      have n44 : a.tmps.getD 44 undef = _ := hat 9 (lc (by kernel_rfl)) 44 rfl
      exact op_skipU igzOp18 (dj := 44) (by kernel_rfl) n44 ⟨53, undef, rfl, rfl, Step.refl _ _, rfl⟩
    | 19, _ =>
      have n44 : a.tmps.getD 44 undef = _ := hat 9 (lc (by kernel_rfl)) 44 rfl
      exact op_skipU igzOp19 (dj := 44) (by kernel_rfl) n44 ⟨54, undef, rfl, rfl, Step.refl _ _, rfl⟩
    | 20, _ =>
      have n41 : a.tmps.getD 41 undef = _ := hat 6 (lc (by kernel_rfl)) 41 rfl
      exact op_skip igzOp20 (dj := 41) (by kernel_rfl) n41 (by decide) ⟨55, undef, rfl, rfl, Step.refl _ _, rfl⟩
    | 21, _ =>
      have n41 : a.tmps.getD 41 undef = _ := hat 6 (lc (by kernel_rfl)) 41 rfl
      have n55 : a.tmps.getD 55 undef = _ := hat 20 (lc (by kernel_rfl)) 55 rfl
      refine op_runs (d := some 56) igzOp21 (wants_none a) (v := .bool true) (w' := w) ?_ ⟨56, _, rfl, rfl, Step.refl _ _, rfl⟩
      intro oo hoo
      simp only [execOp, hoo, Act.eval, n41, n55]
      go_simp
    | k + 22, h => exact absurd h (by omega)
  · intro a w hs hdf hs2 hfr hat
    rw [igz_size] at hat
    have e := act_vals (a := a) (a0 := a0) igzDs (by decide) (fun d hd => by rw [hsz]; exact igz_lt d (by revert hd; revert d; decide)) hdf hs2 (fun k hk => hfr k (fun hk2 => hk (by revert hk2; simp [igzDl, igzDs])))
    rw [e]
    exact hend (fun d => a.tmps.getD d undef) w hs (hat 21 (by omega) 56 rfl)
end Go.Proofs.YtoobelcphcndoaaGreat
namespace Go.Proofs.YtoobelcphcndoaaGreat
open Go.RowKit
set_option linter.unusedVariables false
set_option linter.unusedSimpArgs false


/-- What is said of each slot. -/
def igtSp (b off n c j jm : Nat) (X Y : List UInt8) (i : Nat) (w : World) (v : Value) : Prop := match i with
  | 0 => v = .slice (some ⟨b, off, none⟩) n c
  | 1 => v = .int .i64 j
  | 2 => v = .pointer (some ⟨b, off + j, none⟩)
  | 3 => v = .string (str X)
  | 4 => v = .bool true
  | 5 => v = .bool false
  | 6 => v = .bool false
  | 7 => v = .int .i64 j
  | 8 => v = .bool true
  | 9 => v = .bool true
  | 10 => v = .slice (some ⟨b, off, none⟩) n c
  | 11 => v = .int .i64 j
  | 12 => v = .pointer (some ⟨b, off + j, none⟩)
  | 13 => v = .string (str X)
  | 14 => v = .slice (some ⟨b, off, none⟩) n c
  | 15 => v = .int .i64 j
  | 16 => v = .int .i64 jm
  | 17 => v = .pointer (some ⟨b, off + jm, none⟩)
  | 18 => v = .string (str Y)
  | 19 => v = .bool (decide (X < Y) || decide (X = Y))
  | 20 => v = .bool (decide (X < Y) || decide (X = Y))
  | 21 => v = .bool (decide (X < Y) || decide (X = Y))
  | _ => True
theorem igtSp_mono (b off n c j jm : Nat) (X Y : List UInt8) : ∀ i w w' v, Step noF w w' → igtSp b off n c j jm X Y i w v → igtSp b off n c j jm X Y i w' v := by
  intro i w w' v hs h
  match i with
  | 0 => exact h
  | 1 => exact h
  | 2 => exact h
  | 3 => exact h
  | 4 => exact h
  | 5 => exact h
  | 6 => exact h
  | 7 => exact h
  | 8 => exact h
  | 9 => exact h
  | 10 => exact h
  | 11 => exact h
  | 12 => exact h
  | 13 => exact h
  | 14 => exact h
  | 15 => exact h
  | 16 => exact h
  | 17 => exact h
  | 18 => exact h
  | 19 => exact h
  | 20 => exact h
  | 21 => exact h
  | k + 22 => exact h

set_option maxHeartbeats 4000000 in
set_option maxRecDepth 100000 in
theorem igt_go (b off n c j jm : Nat) (X Y : List UInt8) (w0 : World) (b10 : w0.cell? ⟨b, off + j, none⟩ = some (.string (str X))) (lj0 : (j : Int) < (n : Int)) (c390 : ∀ w0', Step noF w0 w0' → Calls Tryz.prog 89 #[.string (str X)] w0' fun e w0'' => e = .returned (.bool true) ∧ Step noF w0' w0'') (b20 : w0.cell? ⟨b, off + jm, none⟩ = some (.string (str Y))) (gj0 : (0 : Int) < (j : Int)) (ej0 : (j : Int) - 1 = (jm : Int)) (wj0 : IntKind.i64.wrap (jm : Int) = (jm : Int)) (lm0 : (jm : Int) < (n : Int))
    {Q : Exit → Act → World → Prop} (a0 : Act) (hsz : a0.tmps.size = 57) (h1 : a0.tmps.getD 1 undef = .slice (some ⟨b, off, none⟩) n c) (h6 : a0.tmps.getD 6 undef = .int .i64 j)
    (hend : ∀ (f : Nat → Value) (w : World), Step noF w0 w → igtSp b off n c j jm X Y 21 w (f 56) → Q .normal (putAll a0 (igzDs.map some) (igzDs.map f)) w) :
    (Code.region 11 ((Tryz.f59.body.bind (regionOps 11)).getD #[]) true).wp Tryz.prog Q a0 w0 := by
  refine wp_region_preds (igtSp b off n c j jm X Y) (igtSp_mono b off n c j jm X Y) igzDl (by kernel_rfl) igz_back igz_dl igz_nd (fun d h => by rw [hsz]; exact igz_lt d h) ?_ ?_
  · intro i hi a w hs hfr hat
    rw [igz_size] at hi
    have n1 := (hfr 1 (by decide)).trans h1
    have n6 := (hfr 6 (by decide)).trans h6
    have b1 : w.cell? ⟨b, off + j, none⟩ = some (.string (str X)) := hs.after b10
    have lj : (j : Int) < (n : Int) := lj0
    have c39 : ∀ w', Step noF w w' → Calls Tryz.prog 89 #[.string (str X)] w' fun e w'' => e = .returned (.bool true) ∧ Step noF w' w'' := fun w' s' => c390 w' (hs.trans s')
    have b2 : w.cell? ⟨b, off + jm, none⟩ = some (.string (str Y)) := hs.after b20
    have gj : (0 : Int) < (j : Int) := gj0
    have ej : (j : Int) - 1 = (jm : Int) := ej0
    have wj : IntKind.i64.wrap (jm : Int) = (jm : Int) := wj0
    have lm : (jm : Int) < (n : Int) := lm0
    match i, hi with
    | 0, _ =>
      refine op_runs (d := some 35) igzOp0 (wants_none a) (v := .slice (some ⟨b, off, none⟩) n c) (w' := w) ?_ ⟨35, _, rfl, rfl, Step.refl _ _, rfl⟩
      intro oo hoo
      simp only [execOp, hoo, Act.eval, n1]
      go_simp
    | 1, _ =>
      refine op_runs (d := some 36) igzOp1 (wants_none a) (v := .int .i64 j) (w' := w) ?_ ⟨36, _, rfl, rfl, Step.refl _ _, rfl⟩
      intro oo hoo
      simp only [execOp, hoo, Act.eval, n6]
      go_simp
    | 2, _ =>
      have n35 : a.tmps.getD 35 undef = _ := hat 0 (lc (by kernel_rfl)) 35 rfl
      have n36 : a.tmps.getD 36 undef = _ := hat 1 (lc (by kernel_rfl)) 36 rfl
      refine op_runs (d := some 37) igzOp2 (wants_none a) (v := .pointer (some ⟨b, off + j, none⟩)) (w' := w) ?_ ⟨37, _, rfl, rfl, Step.refl _ _, rfl⟩
      intro oo hoo
      simp only [execOp, hoo, Act.eval, n35, n36]
      go_simp
    | 3, _ =>
      have n37 : a.tmps.getD 37 undef = _ := hat 2 (lc (by kernel_rfl)) 37 rfl
      refine op_runs (d := some 38) igzOp3 (wants_none a) (v := .string (str X)) (w' := w) ?_ ⟨38, _, rfl, rfl, Step.refl _ _, rfl⟩
      intro oo hoo
      simp only [execOp, hoo, Act.eval, n37]
      go_simp
    | 4, _ =>
      have n38 : a.tmps.getD 38 undef = _ := hat 3 (lc (by kernel_rfl)) 38 rfl
      refine op_calls igzOp4 (wants_none a) Tryz.func89 (by kernel_rfl) (by kernel_rfl) (args := #[.string (str X)]) (by simp [Act.eval, n38]) ((c39 w (Step.refl _ _)).mono ?_)
      rintro e w' ⟨rfl, s'⟩
      exact ⟨_, rfl, 39, _, rfl, rfl, s', rfl⟩
    | 5, _ =>
      have n39 : a.tmps.getD 39 undef = _ := hat 4 (lc (by kernel_rfl)) 39 rfl
      refine op_runs (d := some 40) igzOp5 (wants_none a) (v := .bool false) (w' := w) ?_ ⟨40, _, rfl, rfl, Step.refl _ _, rfl⟩
      intro oo hoo
      simp only [execOp, hoo, Act.eval, n39]
      go_simp
    | 6, _ =>
      have n40 : a.tmps.getD 40 undef = _ := hat 5 (lc (by kernel_rfl)) 40 rfl
      refine op_runs (d := some 41) igzOp6 (wants_none a) (v := .bool false) (w' := w) ?_ ⟨41, _, rfl, rfl, Step.refl _ _, rfl⟩
      intro oo hoo
      simp only [execOp, hoo, Act.eval, n40]
      go_simp
    | 7, _ =>
      have n41 : a.tmps.getD 41 undef = _ := hat 6 (lc (by kernel_rfl)) 41 rfl
      refine op_runs (d := some 42) igzOp7 (wants_some (d := 41) (b := false) (by kernel_rfl) n41) (v := .int .i64 j) (w' := w) ?_ ⟨42, _, rfl, rfl, Step.refl _ _, rfl⟩
      intro oo hoo
      simp only [execOp, hoo, Act.eval, n6]
      go_simp
    | 8, _ =>
      have n42 : a.tmps.getD 42 undef = _ := hat 7 (lc (by kernel_rfl)) 42 rfl
      have n41 : a.tmps.getD 41 undef = _ := hat 6 (lc (by kernel_rfl)) 41 rfl
      refine op_runs (d := some 43) igzOp8 (wants_some (d := 41) (b := false) (by kernel_rfl) n41) (v := .bool true) (w' := w) ?_ ⟨43, _, rfl, rfl, Step.refl _ _, rfl⟩
      intro oo hoo
      simp only [execOp, hoo, Act.eval, n42]
      go_simp
      omega
    | 9, _ =>
      have n43 : a.tmps.getD 43 undef = _ := hat 8 (lc (by kernel_rfl)) 43 rfl
      have n41 : a.tmps.getD 41 undef = _ := hat 6 (lc (by kernel_rfl)) 41 rfl
      refine op_runs (d := some 44) igzOp9 (wants_some (d := 41) (b := false) (by kernel_rfl) n41) (v := .bool true) (w' := w) ?_ ⟨44, _, rfl, rfl, Step.refl _ _, rfl⟩
      intro oo hoo
      simp only [execOp, hoo, Act.eval, n43]
      go_simp
    | 10, _ =>
      have n44 : a.tmps.getD 44 undef = _ := hat 9 (lc (by kernel_rfl)) 44 rfl
      refine op_runs (d := some 45) igzOp10 (wants_some (d := 44) (b := true) (by kernel_rfl) n44) (v := .slice (some ⟨b, off, none⟩) n c) (w' := w) ?_ ⟨45, _, rfl, rfl, Step.refl _ _, rfl⟩
      intro oo hoo
      simp only [execOp, hoo, Act.eval, n1]
      go_simp
    | 11, _ =>
      have n44 : a.tmps.getD 44 undef = _ := hat 9 (lc (by kernel_rfl)) 44 rfl
      refine op_runs (d := some 46) igzOp11 (wants_some (d := 44) (b := true) (by kernel_rfl) n44) (v := .int .i64 j) (w' := w) ?_ ⟨46, _, rfl, rfl, Step.refl _ _, rfl⟩
      intro oo hoo
      simp only [execOp, hoo, Act.eval, n6]
      go_simp
    | 12, _ =>
      have n45 : a.tmps.getD 45 undef = _ := hat 10 (lc (by kernel_rfl)) 45 rfl
      have n46 : a.tmps.getD 46 undef = _ := hat 11 (lc (by kernel_rfl)) 46 rfl
      have n44 : a.tmps.getD 44 undef = _ := hat 9 (lc (by kernel_rfl)) 44 rfl
      refine op_runs (d := some 47) igzOp12 (wants_some (d := 44) (b := true) (by kernel_rfl) n44) (v := .pointer (some ⟨b, off + j, none⟩)) (w' := w) ?_ ⟨47, _, rfl, rfl, Step.refl _ _, rfl⟩
      intro oo hoo
      simp only [execOp, hoo, Act.eval, n45, n46]
      go_simp
    | 13, _ =>
      have n47 : a.tmps.getD 47 undef = _ := hat 12 (lc (by kernel_rfl)) 47 rfl
      have n44 : a.tmps.getD 44 undef = _ := hat 9 (lc (by kernel_rfl)) 44 rfl
      refine op_runs (d := some 48) igzOp13 (wants_some (d := 44) (b := true) (by kernel_rfl) n44) (v := .string (str X)) (w' := w) ?_ ⟨48, _, rfl, rfl, Step.refl _ _, rfl⟩
      intro oo hoo
      simp only [execOp, hoo, Act.eval, n47]
      go_simp
    | 14, _ =>
      have n44 : a.tmps.getD 44 undef = _ := hat 9 (lc (by kernel_rfl)) 44 rfl
      refine op_runs (d := some 49) igzOp14 (wants_some (d := 44) (b := true) (by kernel_rfl) n44) (v := .slice (some ⟨b, off, none⟩) n c) (w' := w) ?_ ⟨49, _, rfl, rfl, Step.refl _ _, rfl⟩
      intro oo hoo
      simp only [execOp, hoo, Act.eval, n1]
      go_simp
    | 15, _ =>
      have n44 : a.tmps.getD 44 undef = _ := hat 9 (lc (by kernel_rfl)) 44 rfl
      refine op_runs (d := some 50) igzOp15 (wants_some (d := 44) (b := true) (by kernel_rfl) n44) (v := .int .i64 j) (w' := w) ?_ ⟨50, _, rfl, rfl, Step.refl _ _, rfl⟩
      intro oo hoo
      simp only [execOp, hoo, Act.eval, n6]
      go_simp
    | 16, _ =>
      have n50 : a.tmps.getD 50 undef = _ := hat 15 (lc (by kernel_rfl)) 50 rfl
      have n44 : a.tmps.getD 44 undef = _ := hat 9 (lc (by kernel_rfl)) 44 rfl
      refine op_runs (d := some 51) igzOp16 (wants_some (d := 44) (b := true) (by kernel_rfl) n44) (v := .int .i64 jm) (w' := w) ?_ ⟨51, _, rfl, rfl, Step.refl _ _, rfl⟩
      intro oo hoo
      simp only [execOp, hoo, Act.eval, n50]
      go_simp
    | 17, _ =>
      have n49 : a.tmps.getD 49 undef = _ := hat 14 (lc (by kernel_rfl)) 49 rfl
      have n51 : a.tmps.getD 51 undef = _ := hat 16 (lc (by kernel_rfl)) 51 rfl
      have n44 : a.tmps.getD 44 undef = _ := hat 9 (lc (by kernel_rfl)) 44 rfl
      refine op_runs (d := some 52) igzOp17 (wants_some (d := 44) (b := true) (by kernel_rfl) n44) (v := .pointer (some ⟨b, off + jm, none⟩)) (w' := w) ?_ ⟨52, _, rfl, rfl, Step.refl _ _, rfl⟩
      intro oo hoo
      simp only [execOp, hoo, Act.eval, n49, n51]
      go_simp
    | 18, _ =>
      have n52 : a.tmps.getD 52 undef = _ := hat 17 (lc (by kernel_rfl)) 52 rfl
      have n44 : a.tmps.getD 44 undef = _ := hat 9 (lc (by kernel_rfl)) 44 rfl
      refine op_runs (d := some 53) igzOp18 (wants_some (d := 44) (b := true) (by kernel_rfl) n44) (v := .string (str Y)) (w' := w) ?_ ⟨53, _, rfl, rfl, Step.refl _ _, rfl⟩
      intro oo hoo
      simp only [execOp, hoo, Act.eval, n52]
      go_simp
    | 19, _ =>
      have n48 : a.tmps.getD 48 undef = _ := hat 13 (lc (by kernel_rfl)) 48 rfl
      have n53 : a.tmps.getD 53 undef = _ := hat 18 (lc (by kernel_rfl)) 53 rfl
      have n44 : a.tmps.getD 44 undef = _ := hat 9 (lc (by kernel_rfl)) 44 rfl
      refine op_runs (d := some 54) igzOp19 (wants_some (d := 44) (b := true) (by kernel_rfl) n44) (v := .bool (decide (X < Y) || decide (X = Y))) (w' := w) ?_ ⟨54, _, rfl, rfl, Step.refl _ _, rfl⟩
      intro oo hoo
      simp only [execOp, hoo, Act.eval, n48, n53]
      have hE := same_str
      have hL := less_str
      go_simp
    | 20, _ =>
      have n44 : a.tmps.getD 44 undef = _ := hat 9 (lc (by kernel_rfl)) 44 rfl
      have n54 : a.tmps.getD 54 undef = _ := hat 19 (lc (by kernel_rfl)) 54 rfl
      have n41 : a.tmps.getD 41 undef = _ := hat 6 (lc (by kernel_rfl)) 41 rfl
      refine op_runs (d := some 55) igzOp20 (wants_some (d := 41) (b := false) (by kernel_rfl) n41) (v := .bool (decide (X < Y) || decide (X = Y))) (w' := w) ?_ ⟨55, _, rfl, rfl, Step.refl _ _, rfl⟩
      intro oo hoo
      simp only [execOp, hoo, Act.eval, n44, n54]
      go_simp
    | 21, _ =>
      have n41 : a.tmps.getD 41 undef = _ := hat 6 (lc (by kernel_rfl)) 41 rfl
      have n55 : a.tmps.getD 55 undef = _ := hat 20 (lc (by kernel_rfl)) 55 rfl
      refine op_runs (d := some 56) igzOp21 (wants_none a) (v := .bool (decide (X < Y) || decide (X = Y))) (w' := w) ?_ ⟨56, _, rfl, rfl, Step.refl _ _, rfl⟩
      intro oo hoo
      simp only [execOp, hoo, Act.eval, n41, n55]
      go_simp
    | k + 22, h => exact absurd h (by omega)
  · intro a w hs hdf hs2 hfr hat
    rw [igz_size] at hat
    have e := act_vals (a := a) (a0 := a0) igzDs (by decide) (fun d hd => by rw [hsz]; exact igz_lt d (by revert hd; revert d; decide)) hdf hs2 (fun k hk => hfr k (fun hk2 => hk (by revert hk2; simp [igzDl, igzDs])))
    rw [e]
    exact hend (fun d => a.tmps.getD d undef) w hs (hat 21 (by omega) 56 rfl)
end Go.Proofs.YtoobelcphcndoaaGreat
namespace Go.Proofs.YtoobelcphcndoaaGreat
open Go.RowKit Go.Sort
set_option linter.unusedVariables false
set_option linter.unusedSimpArgs false
set_option maxRecDepth 20000

/-- A node as the reference has it. -/
def NdV (w : World) (d : Nd) (v : Value) : Prop := ∃ (ka pa a : Option Addr) (kc pc c : Nat), v = .agg #[.slice ka d.kids.length kc, .slice pa d.pivs.length pc, .slice a d.ms.length c] ∧ (RowAt w noF ka (intsOf d.kids) ∧ (ka = none → kc = 0) ∧ d.kids.length ≤ kc) ∧ (RowAt w noF pa (texts d.pivs) ∧ (pa = none → pc = 0) ∧ d.pivs.length ≤ pc) ∧ MsgsAt w noF a d.ms ∧ (a = none → c = 0)
theorem NdV.step {w w' : World} {d : Nd} {v : Value} (h : NdV w d v) (hs : Step noF w w') : NdV w' d v := by
  obtain ⟨ka, pa, a, kc, pc, c, h1, ⟨k1, k2, k3⟩, ⟨p1, p2, p3⟩, m1, m2⟩ := h
  exact ⟨ka, pa, a, kc, pc, c, h1, ⟨rowAt_step k1 hs (fun _ _ h => h), k2, k3⟩, ⟨rowAt_step p1 hs (fun _ _ h => h), p2, p3⟩, m1.stepB hs, m2⟩
theorem kidsOk_false {ks : List Int} {j : Nat} (hj : j < ks.length) (h : ks[j] < 0) : kidsOk ks = false := by
  unfold kidsOk
  rw [List.all_eq_false]
  exact ⟨ks[j], List.getElem_mem hj, by simp; omega⟩
theorem good_len {ks : List Int} {ps : List (List UInt8)} (h : ¬ ps.length + 1 = ks.length) : goodN ks ps = false := by
  rw [good_parts]
  simp [h]

set_option maxHeartbeats 4000000 in
theorem refGood_any (ks : List Int) (ps : List (List UInt8)) (hkl : ks.length ≤ 1000000) (hpl : ps.length ≤ 1000000) (ka pa : Option Addr) (kc pc : Nat) (w : World) (hk : RowAt w noF ka (intsOf ks)) (hp : RowAt w noF pa (texts ps)) :
    Calls Tryz.prog 59 #[.slice ka ks.length kc, .slice pa ps.length pc] w fun e w' => e = .returned (.bool (goodN ks ps)) ∧ Step noF w w' := by
  have HK := hid hk
  have HP := hid hp
  clear hk hp
  have HLN := hid (@good_len ks ps)
  have HGP := hid (good_parts ks ps)
  have HKF := hid (fun (j : Nat) (hj : j < ks.length) (h : ks[j] < 0) => kidsOk_false hj h)
  obtain ⟨D, hD⟩ : ∃ D, goodN ks ps = D := ⟨_, rfl⟩
  rw [hD] at HLN HGP ⊢
  obtain ⟨n, hn⟩ : ∃ n, ks.length = n := ⟨_, rfl⟩
  obtain ⟨m, hm⟩ : ∃ m, ps.length = m := ⟨_, rfl⟩
  rw [hn] at HLN HGP ⊢
  rw [hm] at HLN HGP ⊢
  rw [hn] at hkl
  rw [hm] at hpl
  have HN := hid hn
  have HM := hid hm
  clear hn hm hD
  have wn : IntKind.i64.wrap ((n : Int) - 1) = (n : Int) - 1 := by rw [IntKind.wrap_i64]; omega
  go_enter Tryz.func59, Tryz.ntmps59
  by_cases hn0 : n = 0
  · have hd : D = false := HLN.out (by omega)
    subst hn0
    subst hd
    go_wp2_with fail
    go_ret
    exact ⟨rfl, Step.refl _ _⟩
  have hnz : ¬ (n : Int) = 0 := by omega
  have hnb : ((n : Int) == 0) = false := by rw [beq_eq_false_iff_ne]; exact hnz
  by_cases hmn : m + 1 = n
  · have hmz : (m : Int) = (n : Int) - 1 := by omega
    have hmb : ((m : Int) == (n : Int) - 1) = true := by rw [beq_iff_eq]; exact hmz
    have HG2 : Hid (D = (kidsOk ks && upK ps m)) := by
      show _ = _
      rw [HGP.out, decide_eq_true hmn, Bool.true_and]
    clear hn0
    go_wp2_with fail
    go_loopg [5] n (fun kx s5 wr => ∃ j : Nat, s5 = .int .i64 j ∧ j ≤ n ∧ n - j ≤ kx ∧ Hid (kidsOk (ks.take j) = true) ∧ Hid (Step noF w wr))
    case atStart => exact ⟨0, rfl, Nat.zero_le _, by omega, (by show _ = _; rfl), Step.refl _ _⟩
    case round =>
      obtain ⟨j, rfl, hjn, hkx, HA, ST⟩ := hrel
      by_cases hjl : j < n
      · have hjz : (j : Int) < (n : Int) := by omega
        have hjk : j < ks.length := by rw [HN.out]; exact hjl
        have wj : IntKind.i64.wrap ((j : Int) + 1) = (j : Int) + 1 := by rw [IntKind.wrap_i64]; omega
        obtain ⟨g, off, rfl, c0⟩ := ints_get (rowAt_step HK.out ST.out (fun _ _ h => h)) j hjk
        have HT := hid (kidsOk_take ks j hjk)
        have HF := hid (HKF.out j hjk)
        obtain ⟨z, hz⟩ : ∃ z, ks[j] = z := ⟨_, rfl⟩
        rw [hz] at c0 HT HF
        clear hz
        by_cases hi : z < 0
        · have hd : D = false := by rw [HG2.out, HF.out hi, Bool.false_and]
          subst hd
          go_wp2_with fail
          go_ret
          exact ⟨rfl, ST.out⟩
        · have HT2 : Hid (kidsOk (ks.take (j + 1)) = true) := by
            show _ = _
            rw [HT.out, HA.out]
            simp; omega
          go_wp2_with fail
          go_roundg (n - (j + 1))
          case measure => omega
          case rel => exact ⟨j + 1, by simp, by omega, Nat.le_refl _, HT2.out, ST.out⟩
      · obtain rfl : j = n := by omega
        have HKO : Hid (D = upK ps m) := by
          show _ = _
          have := HA.out
          rw [List.take_of_length_le (by rw [HN.out]; exact Nat.le_refl _)] at this
          rw [HG2.out, this, Bool.true_and]
        clear HA HG2
        go_wp2_with fail
        go_loopg [6] m (fun kx s6 wx => ∃ t : Nat, s6 = .int .i64 t ∧ t ≤ m ∧ m - t ≤ kx ∧ Hid (upK ps t = true) ∧ Hid (Step noF w wx))
        case atStart => exact ⟨0, rfl, Nat.zero_le _, by omega, (by show _ = _; rfl), ST.out⟩
        case round =>
          obtain ⟨t, rfl, htm, hkx2, HU, SW⟩ := hrel
          by_cases htl : t < m
          · have htz : (t : Int) < (m : Int) := by omega
            have htp : t < ps.length := by rw [HM.out]; exact htl
            have wt : IntKind.i64.wrap ((t : Int) + 1) = (t : Int) + 1 := by rw [IntKind.wrap_i64]; omega
            have rowp := rowAt_step HP.out SW.out (fun _ _ h => h)
            obtain ⟨b, off, rfl, y0⟩ := texts_get rowp t htp
            have hg : ps.getD t [] = ps[t] := by simp [List.getD, List.getElem?_eq_getElem htp]
            have hst : upK ps (t + 1) = (isK ps[t] && (decide (t = 0) || decide (ps.getD (t - 1) [] < ps[t]))) := by
              rw [upK, HU.out, Bool.true_and, hg]
            have hfl := upK_false ps (t + 1)
            have cI : ∀ w', Step noF wr w' → Calls Tryz.prog 89 #[.string (str ps[t])] w' fun e w'' => e = .returned (.bool (isK ps[t])) ∧ Step noF w' w'' := fun w' hs => by
              refine (refIs_any ps[t] w').mono ?_
              rintro e w'' ⟨rfl, rfl⟩
              exact ⟨rfl, Step.refl _ _⟩
            cases hik : isK ps[t]
            · rw [hik] at cI
              have hd : D = false := by
                rw [HKO.out]
                exact hfl (by rw [hst, hik, Bool.false_and]) m htl
              subst hd
              clear hst hfl hg rowp
              go_upto_region 11 with fail
              change Code.wp _ (Code.region 11 ((Tryz.f59.body.bind (regionOps 11)).getD #[]) true) _ _ _
              refine igf_go b off m pc t 0 ps[t] [] wr y0 htz cI _ rfl rfl rfl ?_
              intro ff wz sz e56
              have e56' : ff 56 = .bool true := e56
              have SZ := hid (SW.out.trans sz)
              clear sz e56 cI y0
              rw [igz_lit, e56']
              go_wp2_with fail
              go_ret
              exact ⟨rfl, SZ.out⟩
            · rw [hik] at cI
              by_cases ht0 : t = 0
              · subst ht0
                have HU2 : Hid (upK ps (0 + 1) = true) := by
                  show _ = _
                  rw [hst, hik]
                  rfl
                clear hst hfl hg rowp
                go_upto_region 11 with fail
                change Code.wp _ (Code.region 11 ((Tryz.f59.body.bind (regionOps 11)).getD #[]) true) _ _ _
                refine igz_go b off m pc 0 0 ps[0] [] wr y0 htz cI (hid rfl) _ rfl rfl rfl ?_
                intro ff wz sz e56
                have e56' : ff 56 = .bool false := e56
                have SZ := hid (SW.out.trans sz)
                clear sz e56 cI y0
                rw [igz_lit, e56']
                go_wp2_with fail
                go_roundg (m - (0 + 1))
                case measure => omega
                case rel => exact ⟨0 + 1, by simp, by omega, Nat.le_refl _, HU2.out, SZ.out⟩
              · obtain ⟨tm, htm1⟩ : ∃ x, t - 1 = x := ⟨_, rfl⟩
                have htm2 : tm < ps.length := by omega
                have hgm : ps.getD (t - 1) [] = ps[tm] := by rw [htm1]; simp [List.getD, List.getElem?_eq_getElem htm2]
                have y1 : wr.cell? ⟨b, off + tm, none⟩ = some (.string (str ps[tm])) := by
                  obtain ⟨b', off', e, h⟩ := texts_get rowp tm htm2
                  injection e with e
                  injection e with e1 e2 _
                  rw [← e1, ← e2] at h
                  exact h
                have gt0 : (0 : Int) < (t : Int) := by omega
                have etm : (t : Int) - 1 = (tm : Int) := by omega
                have wtm : IntKind.i64.wrap (tm : Int) = (tm : Int) := by rw [IntKind.wrap_i64]; omega
                have ltm : (tm : Int) < (m : Int) := by omega
                have hle : (decide (ps[t] < ps[tm]) || decide (ps[t] = ps[tm])) = !decide (ps[tm] < ps[t]) := by
                  by_cases h : ps[tm] < ps[t]
                  · rw [decide_eq_true h, decide_eq_false (lt_asymm' h), decide_eq_false (fun e => by rw [e] at h; exact lt_irrefl' h)]
                    rfl
                  · rw [decide_eq_false h]
                    by_cases h2 : ps[t] = ps[tm]
                    · rw [decide_eq_true h2, Bool.or_true]; rfl
                    · rw [decide_eq_true (lt_or' h (fun e => h2 e.symm))]; rfl
                rw [hgm, hik, decide_eq_false ht0, Bool.true_and, Bool.false_or] at hst
                cases hlt : decide (ps[tm] < ps[t])
                · rw [hlt] at hle hst
                  have hd : D = false := by
                    rw [HKO.out]
                    exact hfl hst m htl
                  subst hd
                  clear hst hfl hg rowp hgm
                  go_upto_region 11 with fail
                  change Code.wp _ (Code.region 11 ((Tryz.f59.body.bind (regionOps 11)).getD #[]) true) _ _ _
                  refine igt_go b off m pc t tm ps[t] ps[tm] wr y0 htz cI y1 gt0 etm wtm ltm _ rfl rfl rfl ?_
                  intro ff wz sz e56
                  have e56' : ff 56 = .bool (decide (ps[t] < ps[tm]) || decide (ps[t] = ps[tm])) := e56
                  rw [hle] at e56'
                  have SZ := hid (SW.out.trans sz)
                  clear sz e56 cI y0 y1 hle hlt
                  rw [igz_lit, e56']
                  go_wp2_with fail
                  go_ret
                  exact ⟨rfl, SZ.out⟩
                · rw [hlt] at hle hst
                  have HU2 : Hid (upK ps (t + 1) = true) := hst
                  clear hst hfl hg rowp hgm
                  go_upto_region 11 with fail
                  change Code.wp _ (Code.region 11 ((Tryz.f59.body.bind (regionOps 11)).getD #[]) true) _ _ _
                  refine igt_go b off m pc t tm ps[t] ps[tm] wr y0 htz cI y1 gt0 etm wtm ltm _ rfl rfl rfl ?_
                  intro ff wz sz e56
                  have e56' : ff 56 = .bool (decide (ps[t] < ps[tm]) || decide (ps[t] = ps[tm])) := e56
                  rw [hle] at e56'
                  have SZ := hid (SW.out.trans sz)
                  clear sz e56 cI y0 y1 hle hlt
                  rw [igz_lit, e56']
                  go_wp2_with fail
                  go_roundg (m - (t + 1))
                  case measure => omega
                  case rel => exact ⟨t + 1, by simp, by omega, Nat.le_refl _, HU2.out, SZ.out⟩
          · obtain rfl : t = m := by omega
            have hd : D = true := by rw [HKO.out]; exact HU.out
            subst hd
            go_wp2_with fail
            go_ret
            exact ⟨rfl, SW.out⟩
  · have hd : D = false := HLN.out hmn
    have hmz : ¬ (m : Int) = (n : Int) - 1 := by omega
    have hmb : ((m : Int) == (n : Int) - 1) = false := by rw [beq_eq_false_iff_ne]; exact hmz
    subst hd
    go_wp2_with fail
    go_ret
    exact ⟨rfl, Step.refl _ _⟩

end Go.Proofs.YtoobelcphcndoaaGreat
namespace Go.Proofs.YtoobelcphcndoaaGreat
open Go.RowKit Go.Sort
set_option linter.unusedVariables false
set_option linter.unusedSimpArgs false
set_option maxRecDepth 20000

/-- A node of the reference, boxed. -/
def BoxAt (w : World) (g : Nat) (x y z : Value) : Prop := w.heap[g]? = some (.cells #[x, y, z] 27 (0, 0))
theorem BoxAt.all {w : World} {g : Nat} {x y z : Value} (h : BoxAt w g x y z) : w.cell? ⟨g, 0, none⟩ = some x ∧ w.cell? ⟨g, 1, none⟩ = some y ∧ w.cell? ⟨g, 2, none⟩ = some z ∧ w.frozen? ⟨g, 0, none⟩ = false ∧ w.frozen? ⟨g, 1, none⟩ = false ∧ w.frozen? ⟨g, 2, none⟩ = false :=
  ⟨by simpa using cell_of_block h 0, by simpa using cell_of_block h 1, by simpa using cell_of_block h 2, frozen_of_block h 0, frozen_of_block h 1, frozen_of_block h 2⟩
theorem BoxAt.step {w w' : World} {g : Nat} {x y z : Value} (h : BoxAt w g x y z) (hs : Step noF w w') : BoxAt w' g x y z := (hs.block g (lt_of_block h) (fun x => x)).trans h
theorem BoxAt.alloc {w : World} {g : Nat} {x y z : Value} (h : BoxAt w g x y z) (o : Obj) : BoxAt (w.alloc o) g x y z := block_alloc_old h o
theorem box_new (w : World) (x y z : Value) : BoxAt (w.alloc (.cells #[x, y, z] 27)) w.heap.size x y z := block_alloc_new w _
theorem BoxAt.put {w : World} {g : Nat} {x y z : Value} (h : BoxAt w g x y z) (a b c : Value) : BoxAt (((w.setCell ⟨g, 0, none⟩ a).setCell ⟨g, 1, none⟩ b).setCell ⟨g, 2, none⟩ c) g a b c := by
  have h1 := block_setCell h 0 a
  have h2 := block_setCell h1 1 b
  have h3 := block_setCell h2 2 c
  simpa [BoxAt] using h3

def IsSl (v : Value) : Prop := ∃ a n c, v = .slice a n c
theorem box_cell {w : World} {g : Nat} {x y z : Value} (hB : BoxAt w g x y z) (hx : IsSl x) (hy : IsSl y) (hz : IsSl z) {j : Nat} {u : Value} (h : w.cell? ⟨g, j, none⟩ = some u) : IsSl u := by
  rw [cell_of_block hB] at h
  match j, h with
  | 0, h => simp at h; exact h ▸ hx
  | 1, h => simp at h; exact h ▸ hy
  | 2, h => simp at h; exact h ▸ hz
  | n + 3, h => simp at h
theorem step_put (w : World) (g : Nat) (p q r : Value) : Step (fun k => k = g) w (((w.setCell ⟨g, 0, none⟩ p).setCell ⟨g, 1, none⟩ q).setCell ⟨g, 2, none⟩ r) :=
  (((Step.refl (fun k => k = g) w).setCell (p := ⟨g, 0, none⟩) (.inl rfl) p).setCell (p := ⟨g, 1, none⟩) (.inl rfl) q).setCell (p := ⟨g, 2, none⟩) (.inl rfl) r
theorem cell_put {w : World} {g : Nat} {x y z : Value} (hB : BoxAt w g x y z) (hx : IsSl x) (hy : IsSl y) (hz : IsSl z) (p q r : Value) {ad : Addr} {u : Value} (hs : ad.spot = none) (h : w.cell? ad = some u) (hu : ¬ IsSl u) : (((w.setCell ⟨g, 0, none⟩ p).setCell ⟨g, 1, none⟩ q).setCell ⟨g, 2, none⟩ r).cell? ad = some u := by
  have hb : ad.block ≠ g := by
    intro e
    obtain ⟨b, j, s⟩ := ad
    simp only at hs e
    subst hs e
    exact hu (box_cell hB hx hy hz h)
  exact ((step_put w g p q r).cell (p := ad) hb (World.block_lt_of_cell? w _ h)).trans h
theorem row_put {w : World} {g : Nat} {x y z : Value} (hB : BoxAt w g x y z) (hx : IsSl x) (hy : IsSl y) (hz : IsSl z) (p q r : Value) {a : Option Addr} {cs : List Value} (h : RowAt w noF a cs) (hc : ∀ u ∈ cs, ¬ IsSl u) : RowAt (((w.setCell ⟨g, 0, none⟩ p).setCell ⟨g, 1, none⟩ q).setCell ⟨g, 2, none⟩ r) noF a cs := by
  rcases h with h | ⟨b, off, rfl, hF, h⟩
  · exact .inl h
  · exact .inr ⟨b, off, rfl, hF, fun j hj => cell_put hB hx hy hz p q r rfl (h j hj) (hc _ (List.getElem_mem hj))⟩
theorem msgs_put {w : World} {g : Nat} {x y z : Value} (hB : BoxAt w g x y z) (hx : IsSl x) (hy : IsSl y) (hz : IsSl z) (p q r : Value) {a : Option Addr} {ms : List Mg} (h : MsgsAt w noF a ms) : MsgsAt (((w.setCell ⟨g, 0, none⟩ p).setCell ⟨g, 1, none⟩ q).setCell ⟨g, 2, none⟩ r) noF a ms := by
  rcases h with h | ⟨b, off, rfl, hF, hb, h⟩
  · exact .inl h
  · refine .inr ⟨b, off, rfl, hF, Nat.lt_of_lt_of_le hb (step_put w g p q r).size, fun j hj => ?_⟩
    obtain ⟨h1, h2, h3⟩ := h j hj
    refine ⟨cell_put hB hx hy hz p q r rfl h1 ?_, cell_put hB hx hy hz p q r rfl h2 ?_, cell_put hB hx hy hz p q r rfl h3 ?_⟩ <;> rintro ⟨a, n, c, e⟩ <;> cases e
theorem ints_noSl (zs : List Int) : ∀ u ∈ intsOf zs, ¬ IsSl u := by
  intro u hu
  obtain ⟨z, _, rfl⟩ := List.mem_map.1 hu
  rintro ⟨a, n, c, e⟩
  cases e
theorem texts_noSl (ps : List (List UInt8)) : ∀ u ∈ texts ps, ¬ IsSl u := by
  intro u hu
  obtain ⟨z, _, rfl⟩ := List.mem_map.1 hu
  rintro ⟨a, n, c, e⟩
  cases e
/-- Behind a store into a box. -/
theorem NdV.put {w : World} {g : Nat} {x y z : Value} {d : Nd} {v : Value} (h : NdV w d v) (hB : BoxAt w g x y z) (hx : IsSl x) (hy : IsSl y) (hz : IsSl z) (p q r : Value) : NdV (((w.setCell ⟨g, 0, none⟩ p).setCell ⟨g, 1, none⟩ q).setCell ⟨g, 2, none⟩ r) d v := by
  obtain ⟨ka, pa, a, kc, pc, c, h1, ⟨k1, k2, k3⟩, ⟨p1, p2, p3⟩, m1, m2⟩ := h
  exact ⟨ka, pa, a, kc, pc, c, h1, ⟨row_put hB hx hy hz p q r k1 (ints_noSl _), k2, k3⟩, ⟨row_put hB hx hy hz p q r p1 (texts_noSl _), p2, p3⟩, msgs_put hB hx hy hz p q r m1, m2⟩

/-- The reference's answer of a node that can be or can't be. -/
def RefMade (w : World) (good : Bool) (d : Nd) (e : Ending) : Prop := (good = false ∧ e = .returned (.tuple #[.agg #[.slice none 0 0, .slice none 0 0, .slice none 0 0], .bool false])) ∨ (good = true ∧ ∃ v, e = .returned (.tuple #[v, .bool true]) ∧ NdV w d v)

set_option maxHeartbeats 2000000 in
theorem refOfN_any (ks : List Int) (ps : List (List UInt8)) (ms : List Mg) (hkl : ks.length ≤ 1000000) (hpl : ps.length ≤ 1000000) (hml : ms.length ≤ 100000) (ka pa a : Option Addr) (kc pc c : Nat) (w : World) (hk : RowAt w noF ka (intsOf ks)) (hkc : ka = none → kc = 0) (hkn : ks.length ≤ kc) (hp : RowAt w noF pa (texts ps)) (hpc : pa = none → pc = 0) (hpn : ps.length ≤ pc) (hm : MsgsAt w noF a ms) :
    Calls Tryz.prog 37 #[.slice ka ks.length kc, .slice pa ps.length pc, .slice a ms.length c] w fun e w' => RefMade w' (ms.all Mg.is && goodN ks ps) ⟨ks, ps, putsM ms []⟩ e ∧ Step noF w w' := by
  have B0 := hid (box_new w (.slice none 0 0) (.slice none 0 0) (.slice none 0 0))
  have S0 := hid ((Step.refl noF w).alloc (.cells #[.slice none 0 0, .slice none 0 0, .slice none 0 0] 27))
  have HK := hid hk
  have HP := hid hp
  have HC := hid (And.intro (And.intro hkc hkn) (And.intro hpc hpn))
  have cW := fun w' (hs : Step noF w w') => refWithB_any [] List.Pairwise.nil (fun _ h => by simp at h) ms (by simpa using hml) none 0 (fun _ => rfl) a c w' (.inl rfl) (hm.stepB hs)
  simp only [List.length_nil] at cW
  have cG := fun w' (hs : Step noF w w') => refGood_any ks ps hkl hpl ka pa kc pc w' (rowAt_step HK.out hs (fun _ _ h => h)) (rowAt_step HP.out hs (fun _ _ h => h))
  clear hk hp hm hkc hkn hpc hpn
  go_enter Tryz.func37, Tryz.ntmps37
  go_wp2_with fail
  refine (cW _ S0.out).mono ?_
  rintro e w1 ⟨hw, s1⟩
  have S1 := hid (S0.out.trans s1)
  have B1 := hid (B0.out.step s1)
  clear s1
  rcases hw with ⟨h1, rfl⟩ | ⟨h1, v, rfl, hv⟩
  · obtain ⟨p0, p1, p2, z0, z1, z2⟩ := BoxAt.all B1.out
    have BP := BoxAt.put B1.out (.slice none 0 0) (.slice none 0 0) (.slice none 0 0)
    obtain ⟨y0, y1, y2, _, _, _⟩ := BoxAt.all BP
    have SP := hid (S1.out.put3 w.heap.size (Nat.le_refl _) (.slice none 0 0) (.slice none 0 0) (.slice none 0 0))
    have H1 := hid h1
    clear BP h1
    go_wp2_with fail
    refine bodyPost_ret (v := .tuple #[.agg #[.slice none 0 0, .slice none 0 0, .slice none 0 0], .bool false]) (by simp [results, Tryz.results37, go_sem, *]) rfl ⟨.inl ⟨by rw [H1.out]; rfl, rfl⟩, SP.out⟩
  · have cg := cG w1 S1.out
    have HV := hid hv
    have H1 := hid h1
    clear cW cG hv h1
    obtain ⟨a3, c3, rfl, n3, m3⟩ := HV.out
    cases hgd : goodN ks ps
    · rw [hgd] at cg
      have HG := hid hgd
      clear hgd n3 m3
      go_wp2_with fail
      refine cg.mono ?_
      rintro e w2 ⟨rfl, s2⟩
      have S2 := hid (S1.out.trans s2)
      have B2 := hid (B1.out.step s2)
      clear s2
      obtain ⟨p0, p1, p2, z0, z1, z2⟩ := BoxAt.all B2.out
      have BP := BoxAt.put B2.out (.slice none 0 0) (.slice none 0 0) (.slice none 0 0)
      obtain ⟨y0, y1, y2, _, _, _⟩ := BoxAt.all BP
      have SP := hid (S2.out.put3 w.heap.size (Nat.le_refl _) (.slice none 0 0) (.slice none 0 0) (.slice none 0 0))
      clear BP cg
      go_wp2_with fail
      refine bodyPost_ret (v := .tuple #[.agg #[.slice none 0 0, .slice none 0 0, .slice none 0 0], .bool false]) (by simp [results, Tryz.results37, go_sem, *]) rfl ⟨.inl ⟨by rw [H1.out, HG.out]; rfl, rfl⟩, SP.out⟩
    · rw [hgd] at cg
      have HG := hid hgd
      have N3 := hid n3
      have M3 := hid m3
      clear hgd n3 m3
      obtain ⟨U, hU⟩ : ∃ U, putsM ms [] = U := ⟨_, rfl⟩
      rw [hU] at M3 ⊢
      have HU := hid hU
      clear HV hU
      go_wp2_with fail
      refine cg.mono ?_
      rintro e w2 ⟨rfl, s2⟩
      have S2 := hid (S1.out.trans s2)
      have B2 := hid (B1.out.step s2)
      have hnd : NdV w2 ⟨ks, ps, U⟩ (.agg #[.slice ka ks.length kc, .slice pa ps.length pc, .slice a3 U.length c3]) :=
        ⟨ka, pa, a3, kc, pc, c3, rfl, ⟨rowAt_step HK.out S2.out (fun _ _ h => h), HC.out.1.1, HC.out.1.2⟩, ⟨rowAt_step HP.out S2.out (fun _ _ h => h), HC.out.2.1, HC.out.2.2⟩, M3.out.stepB s2, N3.out⟩
      have HND := hid (hnd.put B2.out ⟨_, _, _, rfl⟩ ⟨_, _, _, rfl⟩ ⟨_, _, _, rfl⟩ (.slice ka ks.length kc) (.slice pa ps.length pc) (.slice a3 U.length c3))
      clear s2 hnd
      obtain ⟨p0, p1, p2, z0, z1, z2⟩ := BoxAt.all B2.out
      have BP := BoxAt.put B2.out (.slice ka ks.length kc) (.slice pa ps.length pc) (.slice a3 U.length c3)
      obtain ⟨y0, y1, y2, _, _, _⟩ := BoxAt.all BP
      have SP := hid (S2.out.put3 w.heap.size (Nat.le_refl _) (.slice ka ks.length kc) (.slice pa ps.length pc) (.slice a3 U.length c3))
      clear BP cg
      go_wp2_with fail
      refine bodyPost_ret (v := .tuple #[.agg #[.slice ka ks.length kc, .slice pa ps.length pc, .slice a3 U.length c3], .bool true]) (by simp [results, Tryz.results37, go_sem, *]) rfl ⟨.inr ⟨by rw [H1.out, HG.out]; rfl, _, rfl, by rw [HU.out]; exact HND.out⟩, SP.out⟩
end Go.Proofs.YtoobelcphcndoaaGreat
namespace Go.Proofs.YtoobelcphcndoaaGreat
open Go.RowKit Go.Sort
set_option linter.unusedVariables false
set_option linter.unusedSimpArgs false
set_option maxRecDepth 20000

end Go.Proofs.YtoobelcphcndoaaGreat
namespace Go.Proofs.YtoobelcphcndoaaGreat
open Go.RowKit Go.Sort
set_option linter.unusedVariables false
set_option linter.unusedSimpArgs false
set_option maxRecDepth 20000

theorem sameN_not {a b : Nd} (h : a ≠ b) : sameN a b = false := by
  cases e : sameN a b
  · rfl
  · exact absurd ((sameN_iff a b).1 e) h
theorem take_same {α : Type} {xs ys : List α} {j : Nat} (h : xs.take j = ys.take j) (h1 : j < xs.length) (h2 : j < ys.length) (he : xs[j] = ys[j]) : xs.take (j + 1) = ys.take (j + 1) := by
  rw [List.take_succ_eq_append_getElem h1, List.take_succ_eq_append_getElem h2, h, he]

set_option maxHeartbeats 4000000 in
theorem refSameN_any (d1 d2 : Nd) (hl : d1.ms.length ≤ 1000000 ∧ d2.ms.length ≤ 1000000) (hl2 : d1.kids.length ≤ 1000000 ∧ d1.pivs.length ≤ 1000000) (v1 v2 : Value) (w : World) (h1 : NdV w d1 v1) (h2 : NdV w d2 v2) :
    Calls Tryz.prog 52 #[v1, v2] w fun e w' => e = .returned (.bool (sameN d1 d2)) ∧ Step noF w w' := by
  obtain ⟨ka, pa, a, kc, pc, c, rfl, ⟨hk, _, _⟩, ⟨hp, _, _⟩, hm, _⟩ := h1
  obtain ⟨ka2, pa2, a2, kc2, pc2, c2, rfl, ⟨hk2, _, _⟩, ⟨hp2, _, _⟩, hm2, _⟩ := h2
  have hE := same_str
  have HK := hid hk
  have HP := hid hp
  have HK2 := hid hk2
  have HP2 := hid hp2
  have cM := fun w' (hs : Step noF w w') => refSameB_any d1.ms d2.ms hl a a2 c c2 w' (hm.stepB hs) (hm2.stepB hs)
  have B1 := (box_new w (.slice ka d1.kids.length kc) (.slice pa d1.pivs.length pc) (.slice a d1.ms.length c)).alloc (.cells #[.slice ka2 d2.kids.length kc2, .slice pa2 d2.pivs.length pc2, .slice a2 d2.ms.length c2] 27)
  have B2 := box_new (w.alloc (.cells #[.slice ka d1.kids.length kc, .slice pa d1.pivs.length pc, .slice a d1.ms.length c] 27)) (.slice ka2 d2.kids.length kc2) (.slice pa2 d2.pivs.length pc2) (.slice a2 d2.ms.length c2)
  rw [World.size_alloc] at B2
  have S0 := hid (((Step.refl noF w).alloc (.cells #[.slice ka d1.kids.length kc, .slice pa d1.pivs.length pc, .slice a d1.ms.length c] 27)).alloc (.cells #[.slice ka2 d2.kids.length kc2, .slice pa2 d2.pivs.length pc2, .slice a2 d2.ms.length c2] 27))
  obtain ⟨x0, x1, x2, _, _, _⟩ := BoxAt.all B1
  obtain ⟨y0, y1, y2, _, _, _⟩ := BoxAt.all B2
  have cM0 := cM _ S0.out
  obtain ⟨D, hD⟩ : ∃ D, sameN d1 d2 = D := ⟨_, rfl⟩
  have HN : Hid (d1 ≠ d2 → D = false) := fun h => by rw [← hD]; exact sameN_not h
  have HY : Hid (d1 = d2 → D = true) := fun h => by rw [← hD]; exact (sameN_iff _ _).2 h
  rw [hD]
  clear hk hp hk2 hp2 hm hm2 cM B1 B2 hD hl
  by_cases ek : d1.kids.length = d2.kids.length
  rotate_left
  · have hd : D = false := HN.out (fun e => ek (by rw [e]))
    subst hd
    have ez : ¬ (d1.kids.length : Int) = (d2.kids.length : Int) := by omega
    have eb : ((d1.kids.length : Int) == (d2.kids.length : Int)) = false := by rw [beq_eq_false_iff_ne]; exact ez
    go_enter Tryz.func52, Tryz.ntmps52
    go_wp2_with fail
    go_ret
    exact ⟨rfl, S0.out⟩
  have EK := hid ek
  rw [← ek] at S0 x0 x1 x2 y0 y1 y2 cM0 ⊢
  clear ek
  by_cases ep : d1.pivs.length = d2.pivs.length
  rotate_left
  · have hd : D = false := HN.out (fun e => ep (by rw [e]))
    subst hd
    have ez2 : ¬ (d1.pivs.length : Int) = (d2.pivs.length : Int) := by omega
    have eb : ((d1.pivs.length : Int) == (d2.pivs.length : Int)) = false := by rw [beq_eq_false_iff_ne]; exact ez2
    go_enter Tryz.func52, Tryz.ntmps52
    go_wp2_with fail
    go_ret
    exact ⟨rfl, S0.out⟩
  have EP := hid ep
  rw [← ep] at S0 x0 x1 x2 y0 y1 y2 cM0 ⊢
  clear ep
  go_enter Tryz.func52, Tryz.ntmps52
  cases hsm : sameM d1.ms d2.ms
  · rw [hsm] at cM0
    have hd : D = false := HN.out (fun e => by rw [e, (sameM_iff _ _).2 rfl] at hsm; cases hsm)
    subst hd
    clear hsm
    go_wp2_with fail
    refine cM0.mono ?_
    rintro e w1 ⟨rfl, s1⟩
    have S1 := hid (S0.out.trans s1)
    clear s1
    go_wp2_with fail
    go_ret
    exact ⟨rfl, S1.out⟩
  rw [hsm] at cM0
  have EM := hid ((sameM_iff _ _).1 hsm)
  clear hsm
  go_wp2_with fail
  refine cM0.mono ?_
  rintro e w1 ⟨rfl, s1⟩
  have S1 := hid (S0.out.trans s1)
  have x0' := s1.after x0
  have x1' := s1.after x1
  have y0' := s1.after y0
  have y1' := s1.after y1
  clear s1 cM0 x0 x1 x2 y0 y1 y2
  go_wp2_with fail
  go_loopg [5] d1.kids.length (fun kx s5 wr => ∃ j : Nat, s5 = .int .i64 j ∧ j ≤ d1.kids.length ∧ d1.kids.length - j ≤ kx ∧ Hid (d1.kids.take j = d2.kids.take j) ∧ Hid (Step noF w1 wr))
  case atStart => exact ⟨0, rfl, Nat.zero_le _, by omega, (by show _ = _; rfl), Step.refl _ _⟩
  case round =>
    obtain ⟨j, rfl, hjn, hkx, HA, ST⟩ := hrel
    have u0 := ST.out.after x0'
    have u1 := ST.out.after x1'
    have t0 := ST.out.after y0'
    have t1 := ST.out.after y1'
    by_cases hjl : j < d1.kids.length
    · have hjz : (j : Int) < (d1.kids.length : Int) := by omega
      have hj2 : j < d2.kids.length := by rw [← EK.out]; exact hjl
      have wj : IntKind.i64.wrap ((j : Int) + 1) = (j : Int) + 1 := by rw [IntKind.wrap_i64]; omega
      obtain ⟨g, off, rfl, c0⟩ := ints_get (rowAt_step HK.out (S1.out.trans ST.out) (fun _ _ h => h)) j hjl
      obtain ⟨g2, off2, rfl, c1⟩ := ints_get (rowAt_step HK2.out (S1.out.trans ST.out) (fun _ _ h => h)) j hj2
      have HTS := hid (take_same HA.out hjl hj2)
      have HNE : Hid (d1.kids[j] ≠ d2.kids[j] → D = false) := fun h => HN.out (fun e => by subst e; exact h rfl)
      obtain ⟨z, hz⟩ : ∃ z, d1.kids[j] = z := ⟨_, rfl⟩
      obtain ⟨z2, hz2⟩ : ∃ z, d2.kids[j] = z := ⟨_, rfl⟩
      rw [hz] at c0 HTS HNE
      rw [hz2] at c1 HTS HNE
      clear hz hz2
      by_cases hi : z = z2
      · subst hi
        have HT2 := hid (HTS.out rfl)
        clear HTS HNE HA
        go_wp2_with fail
        go_quiet (fail)
        go_wp2_with fail
        go_roundg (d1.kids.length - (j + 1))
        case measure => omega
        case rel => exact ⟨j + 1, by simp, by omega, Nat.le_refl _, HT2.out, ST.out.drewN _⟩
      · have hd : D = false := HNE.out hi
        subst hd
        have hb : (z == z2) = false := by rw [beq_eq_false_iff_ne]; exact hi
        go_wp2_with fail
        go_quiet (fail)
        go_wp2_with fail
        go_ret
        exact ⟨rfl, S1.out.trans (ST.out.drewN _)⟩
    · obtain rfl : j = d1.kids.length := by omega
      have EKK : Hid (d1.kids = d2.kids) := by
        show _ = _
        have := HA.out
        rw [List.take_of_length_le (Nat.le_refl _), EK.out, List.take_of_length_le (Nat.le_refl _)] at this
        exact this
      clear HA
      have x1'' := u1
      have y1'' := t1
      have SW := hid (S1.out.trans ST.out)
      go_wp2_with fail
      go_loopg [6] d1.pivs.length (fun kx s6 wr => ∃ j : Nat, s6 = .int .i64 j ∧ j ≤ d1.pivs.length ∧ d1.pivs.length - j ≤ kx ∧ Hid (d1.pivs.take j = d2.pivs.take j) ∧ Hid (Step noF w1 wr))
      case atStart => exact ⟨0, rfl, Nat.zero_le _, by omega, (by show _ = _; rfl), ST.out⟩
      case round =>
        obtain ⟨t, rfl, htn, hkx2, HA, SX⟩ := hrel
        have u1 := SX.out.after x1'
        have t1 := SX.out.after y1'
        by_cases htl : t < d1.pivs.length
        · have htz : (t : Int) < (d1.pivs.length : Int) := by omega
          have ht2 : t < d2.pivs.length := by rw [← EP.out]; exact htl
          have wt : IntKind.i64.wrap ((t : Int) + 1) = (t : Int) + 1 := by rw [IntKind.wrap_i64]; omega
          obtain ⟨g, off, rfl, c0⟩ := texts_get (rowAt_step HP.out (S1.out.trans SX.out) (fun _ _ h => h)) t htl
          obtain ⟨g2, off2, rfl, c1⟩ := texts_get (rowAt_step HP2.out (S1.out.trans SX.out) (fun _ _ h => h)) t ht2
          have HTS := hid (take_same HA.out htl ht2)
          have HNE : Hid (d1.pivs[t] ≠ d2.pivs[t] → D = false) := fun h => HN.out (fun e => by subst e; exact h rfl)
          obtain ⟨z, hz⟩ : ∃ z, d1.pivs[t] = z := ⟨_, rfl⟩
          obtain ⟨z2, hz2⟩ : ∃ z, d2.pivs[t] = z := ⟨_, rfl⟩
          rw [hz] at c0 HTS HNE
          rw [hz2] at c1 HTS HNE
          clear hz hz2
          by_cases hi : z = z2
          · subst hi
            have HT2 := hid (HTS.out rfl)
            clear HTS HNE HA
            go_wp2_with fail
            go_quiet (fail)
            go_wp2_with fail
            go_roundg (d1.pivs.length - (t + 1))
            case measure => omega
            case rel => exact ⟨t + 1, by simp, by omega, Nat.le_refl _, HT2.out, SX.out.drewN _⟩
          · have hd : D = false := HNE.out hi
            subst hd
            have hb : decide (z = z2) = false := decide_eq_false hi
            go_wp2_with fail
            go_quiet (fail)
            go_wp2_with fail
            go_ret
            exact ⟨rfl, S1.out.trans (SX.out.drewN _)⟩
        · obtain rfl : t = d1.pivs.length := by omega
          have EPP : Hid (d1.pivs = d2.pivs) := by
            show _ = _
            have := HA.out
            rw [List.take_of_length_le (Nat.le_refl _), EP.out, List.take_of_length_le (Nat.le_refl _)] at this
            exact this
          have hd : D = true := HY.out (by
            obtain ⟨k1, p1, m1⟩ := d1
            obtain ⟨k2, p2, m2⟩ := d2
            have e1 := EKK.out
            have e2 := EPP.out
            have e3 := EM.out
            simp only at e1 e2 e3
            rw [e1, e2, e3])
          subst hd
          go_wp2_with fail
          go_ret
          exact ⟨rfl, S1.out.trans SX.out⟩
end Go.Proofs.YtoobelcphcndoaaGreat
namespace Go.Proofs.YtoobelcphcndoaaGreat
open Go.RowKit Go.Sort
set_option linter.unusedVariables false
set_option linter.unusedSimpArgs false
set_option maxRecDepth 20000

theorem sameM_self (xs : List Mg) : sameM xs xs = true := (sameM_iff _ _).2 rfl
theorem sameN_self (d : Nd) : sameN d d = true := (sameN_iff _ _).2 rfl
theorem sameV_any (d : Nd) (hl : d.kids.length ≤ 1000000 ∧ d.pivs.length ≤ 1000000 ∧ d.ms.length ≤ 1000000) (v1 v2 : Value) (w : World) (h1 : NdV w d v1) (h2 : NdV w d v2) :
    Calls Tryz.prog 52 #[v1, v2] w fun e w' => e = .returned (.bool true) ∧ Step noF w w' := by
  have h := refSameN_any d d ⟨hl.2.2, hl.2.2⟩ ⟨hl.1, hl.2.1⟩ v1 v2 w h1 h2
  rw [sameN_self] at h
  exact h
theorem hasZ_true {n : Nat} {z : Int} (h : hasZ n z = true) : ∃ i : Nat, z = (i : Int) ∧ i < n := by
  unfold hasZ at h
  simp only [Bool.and_eq_true, decide_eq_true_eq] at h
  exact ⟨z.toNat, by omega, by omega⟩
/-- What a Swap answers. -/
def SwapZ (w : World) (good : Bool) (d : Nd) (x : Option Addr) (f : Int) : Prop := (good = false → x = none ∧ f = 1) ∧ (good = true → f = 0 ∧ ∃ q, x = some ⟨q, 0, none⟩ ∧ InnerAt w q d)
theorem made_swap {w : World} {d : Nd} {e : Ending} (h : MadeN w d e) : ∃ x f, e = .returned (.tuple #[.pointer x, .int .i64 f]) ∧ SwapZ w (goodN d.kids d.pivs) d x f := by
  rcases h with ⟨h1, rfl⟩ | ⟨h1, p, rfl, hi⟩
  · exact ⟨_, _, rfl, (fun _ => ⟨rfl, rfl⟩), (fun h => by rw [h1] at h; cases h)⟩
  · exact ⟨_, _, rfl, (fun h => by rw [h1] at h; cases h), (fun _ => ⟨rfl, p, rfl, hi⟩)⟩
theorem refMade_open {w : World} {good : Bool} {d : Nd} {e : Ending} (h : RefMade w good d e) : ∃ (a1 a2 a3 : Option Addr) (n1 n2 n3 c1 c2 c3 : Nat), e = .returned (.tuple #[.agg #[.slice a1 n1 c1, .slice a2 n2 c2, .slice a3 n3 c3], .bool good]) ∧ (good = true → NdV w d (.agg #[.slice a1 n1 c1, .slice a2 n2 c2, .slice a3 n3 c3])) := by
  rcases h with ⟨rfl, rfl⟩ | ⟨rfl, v, rfl, hv⟩
  · exact ⟨none, none, none, 0, 0, 0, 0, 0, 0, rfl, fun h => by cases h⟩
  · have hv2 := hv
    obtain ⟨ka, pa, a, kc, pc, c, rfl, _⟩ := hv
    exact ⟨_, _, _, _, _, _, _, _, _, rfl, fun _ => hv2⟩

theorem pure_calls {P : Program} {f : FuncId} {args : Array Value} {w : World} {v : Value} (h : Calls P f args w fun e w' => e = .returned v ∧ w = w') : Calls P f args w fun e w' => e = .returned v ∧ Step noF w w' := by
  refine h.mono ?_
  rintro e w' ⟨rfl, rfl⟩
  exact ⟨rfl, Step.refl _ _⟩
end Go.Proofs.YtoobelcphcndoaaGreat
