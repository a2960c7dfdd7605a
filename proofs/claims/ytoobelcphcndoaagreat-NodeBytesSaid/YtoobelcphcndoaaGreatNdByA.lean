/-
  The region that draws in grangerlaw12.NodeBytes (number 9), operation by operation. Written by draw6.py.
-/
import Derived.Test.YtoobelcphcndoaaGreatDraw
import Derived.Test.YtoobelcphcndoaaGreatNdRC
namespace Go.Proofs.YtoobelcphcndoaaGreat
open Go.RowKit
set_option linter.unusedVariables false
set_option linter.unusedSimpArgs false


def nbyaDs : List Nat := [35, 36, 37, 38, 39, 40, 41, 42, 43, 44, 45, 46, 47, 48, 49, 50, 51, 52, 53, 54, 55, 56, 57, 58, 59, 60]
def nbyaDl : List (Option Nat) := [some 35, some 36, some 37, some 38, some 39, some 40, some 41, some 42, some 43, some 44, some 45, some 46, some 47, some 48, some 49, some 50, some 51, some 52, some 53, some 54, some 55, some 56, some 57, some 58, some 59, some 60]
theorem nbya_dl : ((Tryz.f3.body.bind (regionOps 9)).getD #[]).toList.map (·.dst) = nbyaDl := by kernel_rfl
theorem nbya_back : backB ((Tryz.f3.body.bind (regionOps 9)).getD #[]) = true := by kernel_rfl
theorem nbya_size : ((Tryz.f3.body.bind (regionOps 9)).getD #[]).size = 26 := by kernel_rfl
theorem nbya_nd : nbyaDl.Pairwise (fun x y => x = none ∨ x ≠ y) := by decide
theorem nbya_lt (d : Nat) (h : some d ∈ nbyaDl) : d < 145 := by
  have hh : nbyaDl.all (fun o => o.all (fun d => decide (d < 145))) = true := by decide
  simpa using List.all_eq_true.1 hh _ h
theorem nbyaOp0 : opIs ((Tryz.f3.body.bind (regionOps 9)).getD #[]) 0 (some 35) (Op.move (Operand.tmp 5)) (none) := opIs_of (by kernel_rfl)
theorem nbyaOp1 : opIs ((Tryz.f3.body.bind (regionOps 9)).getD #[]) 1 (some 36) (Op.binOp BinOp.eql 32 (Operand.tmp 35) (Operand.const (Value.pointer none)) 32) (none) := opIs_of (by kernel_rfl)
theorem nbyaOp2 : opIs ((Tryz.f3.body.bind (regionOps 9)).getD #[]) 2 (some 37) (Op.move (Operand.tmp 36)) (none) := opIs_of (by kernel_rfl)
theorem nbyaOp3 : opIs ((Tryz.f3.body.bind (regionOps 9)).getD #[]) 3 (some 38) (Op.move (Operand.tmp 5)) (some (2, false)) := opIs_of (by kernel_rfl)
theorem nbyaOp4 : opIs ((Tryz.f3.body.bind (regionOps 9)).getD #[]) 4 (some 39) (Op.call { callee := Callee.value (Operand.func 11), args := #[Operand.tmp 38], argTypes := #[32] }) (some (2, false)) := opIs_of (by kernel_rfl)
theorem nbyaOp5 : opIs ((Tryz.f3.body.bind (regionOps 9)).getD #[]) 5 (some 40) (Op.fieldAddr 29 (Operand.tmp 2) 0) (some (2, false)) := opIs_of (by kernel_rfl)
theorem nbyaOp6 : opIs ((Tryz.f3.body.bind (regionOps 9)).getD #[]) 6 (some 41) (Op.load 4 (Operand.tmp 40)) (some (2, false)) := opIs_of (by kernel_rfl)
theorem nbyaOp7 : opIs ((Tryz.f3.body.bind (regionOps 9)).getD #[]) 7 (some 42) (Op.binOp BinOp.neq 4 (Operand.tmp 39) (Operand.tmp 41) 4) (some (2, false)) := opIs_of (by kernel_rfl)
theorem nbyaOp8 : opIs ((Tryz.f3.body.bind (regionOps 9)).getD #[]) 8 (some 43) (Op.pick (Operand.tmp 37) (Operand.const (Value.bool true)) (Operand.tmp 42)) (none) := opIs_of (by kernel_rfl)
theorem nbyaOp9 : opIs ((Tryz.f3.body.bind (regionOps 9)).getD #[]) 9 (some 44) (Op.move (Operand.tmp 43)) (none) := opIs_of (by kernel_rfl)
theorem nbyaOp10 : opIs ((Tryz.f3.body.bind (regionOps 9)).getD #[]) 10 (some 45) (Op.move (Operand.tmp 5)) (some (9, false)) := opIs_of (by kernel_rfl)
theorem nbyaOp11 : opIs ((Tryz.f3.body.bind (regionOps 9)).getD #[]) 11 (some 46) (Op.call { callee := Callee.value (Operand.func 12), args := #[Operand.tmp 45], argTypes := #[32] }) (some (9, false)) := opIs_of (by kernel_rfl)
theorem nbyaOp12 : opIs ((Tryz.f3.body.bind (regionOps 9)).getD #[]) 12 (some 47) (Op.load 29 (Operand.tmp 6)) (some (9, false)) := opIs_of (by kernel_rfl)
theorem nbyaOp13 : opIs ((Tryz.f3.body.bind (regionOps 9)).getD #[]) 13 (some 48) (Op.call { callee := Callee.value (Operand.func 13), args := #[Operand.tmp 47], argTypes := #[29] }) (some (9, false)) := opIs_of (by kernel_rfl)
theorem nbyaOp14 : opIs ((Tryz.f3.body.bind (regionOps 9)).getD #[]) 14 (some 49) (Op.binOp BinOp.neq 4 (Operand.tmp 46) (Operand.tmp 48) 4) (some (9, false)) := opIs_of (by kernel_rfl)
theorem nbyaOp15 : opIs ((Tryz.f3.body.bind (regionOps 9)).getD #[]) 15 (some 50) (Op.pick (Operand.tmp 44) (Operand.const (Value.bool true)) (Operand.tmp 49)) (none) := opIs_of (by kernel_rfl)
theorem nbyaOp16 : opIs ((Tryz.f3.body.bind (regionOps 9)).getD #[]) 16 (some 51) (Op.move (Operand.tmp 50)) (none) := opIs_of (by kernel_rfl)
theorem nbyaOp17 : opIs ((Tryz.f3.body.bind (regionOps 9)).getD #[]) 17 (some 52) (Op.move (Operand.tmp 5)) (some (16, false)) := opIs_of (by kernel_rfl)
theorem nbyaOp18 : opIs ((Tryz.f3.body.bind (regionOps 9)).getD #[]) 18 (some 53) (Op.call { callee := Callee.value (Operand.func 14), args := #[Operand.tmp 52], argTypes := #[32] }) (some (16, false)) := opIs_of (by kernel_rfl)
theorem nbyaOp19 : opIs ((Tryz.f3.body.bind (regionOps 9)).getD #[]) 19 (some 54) (Op.call { callee := Callee.builtin Builtin.len, args := #[Operand.tmp 53], argTypes := #[23] }) (some (16, false)) := opIs_of (by kernel_rfl)
theorem nbyaOp20 : opIs ((Tryz.f3.body.bind (regionOps 9)).getD #[]) 20 (some 55) (Op.fieldAddr 29 (Operand.tmp 6) 2) (some (16, false)) := opIs_of (by kernel_rfl)
theorem nbyaOp21 : opIs ((Tryz.f3.body.bind (regionOps 9)).getD #[]) 21 (some 56) (Op.fieldAddr 27 (Operand.tmp 55) 0) (some (16, false)) := opIs_of (by kernel_rfl)
theorem nbyaOp22 : opIs ((Tryz.f3.body.bind (regionOps 9)).getD #[]) 22 (some 57) (Op.load 23 (Operand.tmp 56)) (some (16, false)) := opIs_of (by kernel_rfl)
theorem nbyaOp23 : opIs ((Tryz.f3.body.bind (regionOps 9)).getD #[]) 23 (some 58) (Op.call { callee := Callee.builtin Builtin.len, args := #[Operand.tmp 57], argTypes := #[23] }) (some (16, false)) := opIs_of (by kernel_rfl)
theorem nbyaOp24 : opIs ((Tryz.f3.body.bind (regionOps 9)).getD #[]) 24 (some 59) (Op.binOp BinOp.neq 3 (Operand.tmp 54) (Operand.tmp 58) 3) (some (16, false)) := opIs_of (by kernel_rfl)
theorem nbyaOp25 : opIs ((Tryz.f3.body.bind (regionOps 9)).getD #[]) 25 (some 60) (Op.pick (Operand.tmp 51) (Operand.const (Value.bool true)) (Operand.tmp 59)) (none) := opIs_of (by kernel_rfl)
/-- What is said of each slot. -/
def nbyaSp (r g2 g6 K kc : Nat) (ka : Option Addr) (bl F : Bool) (U0 U1 U3 U4 : Value) (i : Nat) (w : World) (v : Value) : Prop := match i with
  | 0 => v = .pointer (some ⟨r, 0, none⟩)
  | 1 => v = .bool false
  | 2 => v = .bool false
  | 3 => v = .pointer (some ⟨r, 0, none⟩)
  | 4 => v = .bool bl
  | 5 => v = .pointer (some ⟨g2, 0, none⟩)
  | 6 => v = .bool bl
  | 7 => v = .bool false
  | 8 => v = .bool false
  | 9 => v = .bool false
  | 10 => v = .pointer (some ⟨r, 0, none⟩)
  | 11 => v = .bool F
  | 12 => v = .agg #[U0, U1, .slice ka K kc, U3, U4]
  | 13 => v = .bool F
  | 14 => v = .bool false
  | 15 => v = .bool false
  | 16 => v = .bool false
  | 17 => v = .pointer (some ⟨r, 0, none⟩)
  | 18 => ∃ a c, v = .slice a K c
  | 19 => v = .int .i64 K
  | 20 => v = .pointer (some ⟨g6, 2, none⟩)
  | 21 => v = .pointer (some ⟨g6, 2, none⟩)
  | 22 => v = .slice ka K kc
  | 23 => v = .int .i64 K
  | 24 => v = .bool false
  | 25 => v = .bool false
  | _ => True
theorem nbyaKeep53 (r g2 g6 K kc : Nat) (ka : Option Addr) (bl F : Bool) (U0 U1 U3 U4 : Value) {w w' : World} {v : Value} (hs : Step noF w w') (h : ∃ a c, v = .slice a K c) : ∃ a c, v = .slice a K c := by
  exact h
theorem nbyaSp_mono (r g2 g6 K kc : Nat) (ka : Option Addr) (bl F : Bool) (U0 U1 U3 U4 : Value) : ∀ i w w' v, Step noF w w' → nbyaSp r g2 g6 K kc ka bl F U0 U1 U3 U4 i w v → nbyaSp r g2 g6 K kc ka bl F U0 U1 U3 U4 i w' v := by
  intro i w w' v hs h
  match i with
  | 0 => exact h
  | 1 => exact h
  | 2 => exact h
  | 3 => exact h
  | 4 => exact h
  | 5 => exact h
  | 6 => exact h
  | 7 => exact h
  | 8 => exact h
  | 9 => exact h
  | 10 => exact h
  | 11 => exact h
  | 12 => exact h
  | 13 => exact h
  | 14 => exact h
  | 15 => exact h
  | 16 => exact h
  | 17 => exact h
  | 18 => exact nbyaKeep53 r g2 g6 K kc ka bl F U0 U1 U3 U4 hs h
  | 19 => exact h
  | 20 => exact h
  | 21 => exact h
  | 22 => exact h
  | 23 => exact h
  | 24 => exact h
  | 25 => exact h
  | k + 26 => exact h

set_option maxHeartbeats 4000000 in
set_option maxRecDepth 100000 in
theorem nbya_go (r g2 g6 K kc : Nat) (ka : Option Addr) (bl F : Bool) (U0 U1 U3 U4 : Value) (w0 : World) (k00 : w0.cell? ⟨g2, 0, none⟩ = some (.bool bl)) (u00 : w0.cell? ⟨g6, 0, none⟩ = some U0) (u10 : w0.cell? ⟨g6, 1, none⟩ = some U1) (u20 : w0.cell? ⟨g6, 2, none⟩ = some (.slice ka K kc)) (u30 : w0.cell? ⟨g6, 3, none⟩ = some U3) (u40 : w0.cell? ⟨g6, 4, none⟩ = some U4) (c390 : ∀ w0', Step noF w0 w0' → Calls Tryz.prog 11 #[.pointer (some ⟨r, 0, none⟩)] w0' fun e w0'' => e = .returned (.bool bl) ∧ Step noF w0' w0'') (c460 : ∀ w0', Step noF w0 w0' → Calls Tryz.prog 12 #[.pointer (some ⟨r, 0, none⟩)] w0' fun e w0'' => e = .returned (.bool F) ∧ Step noF w0' w0'') (c480 : ∀ w0', Step noF w0 w0' → Calls Tryz.prog 13 #[.agg #[U0, U1, .slice ka K kc, U3, U4]] w0' fun e w0'' => e = .returned (.bool F) ∧ Step noF w0' w0'') (c530 : ∀ w0', Step noF w0 w0' → Calls Tryz.prog 14 #[.pointer (some ⟨r, 0, none⟩)] w0' fun e w0'' => ∃ v, e = .returned v ∧ Step noF w0' w0'' ∧ ∃ a c, v = .slice a K c)
    {Q : Exit → Act → World → Prop} (a0 : Act) (hsz : a0.tmps.size = 145) (h5 : a0.tmps.getD 5 undef = .pointer (some ⟨r, 0, none⟩)) (h2 : a0.tmps.getD 2 undef = .pointer (some ⟨g2, 0, none⟩)) (h6 : a0.tmps.getD 6 undef = .pointer (some ⟨g6, 0, none⟩))
    (hend : ∀ (f : Nat → Value) (w : World), Step noF w0 w → nbyaSp r g2 g6 K kc ka bl F U0 U1 U3 U4 25 w (f 60) → Q .normal (putAll a0 (nbyaDs.map some) (nbyaDs.map f)) w) :
    (Code.region 9 ((Tryz.f3.body.bind (regionOps 9)).getD #[]) true).wp Tryz.prog Q a0 w0 := by
  refine wp_region_preds (nbyaSp r g2 g6 K kc ka bl F U0 U1 U3 U4) (nbyaSp_mono r g2 g6 K kc ka bl F U0 U1 U3 U4) nbyaDl (by kernel_rfl) nbya_back nbya_dl nbya_nd (fun d h => by rw [hsz]; exact nbya_lt d h) ?_ ?_
  · intro i hi a w hs hfr hat
    rw [nbya_size] at hi
    have n5 := (hfr 5 (by decide)).trans h5
    have n2 := (hfr 2 (by decide)).trans h2
    have n6 := (hfr 6 (by decide)).trans h6
    have k0 : w.cell? ⟨g2, 0, none⟩ = some (.bool bl) := hs.after k00
    have u0 : w.cell? ⟨g6, 0, none⟩ = some U0 := hs.after u00
    have u1 : w.cell? ⟨g6, 1, none⟩ = some U1 := hs.after u10
    have u2 : w.cell? ⟨g6, 2, none⟩ = some (.slice ka K kc) := hs.after u20
    have u3 : w.cell? ⟨g6, 3, none⟩ = some U3 := hs.after u30
    have u4 : w.cell? ⟨g6, 4, none⟩ = some U4 := hs.after u40
    have c39 : ∀ w', Step noF w w' → Calls Tryz.prog 11 #[.pointer (some ⟨r, 0, none⟩)] w' fun e w'' => e = .returned (.bool bl) ∧ Step noF w' w'' := fun w' s' => c390 w' (hs.trans s')
    have c46 : ∀ w', Step noF w w' → Calls Tryz.prog 12 #[.pointer (some ⟨r, 0, none⟩)] w' fun e w'' => e = .returned (.bool F) ∧ Step noF w' w'' := fun w' s' => c460 w' (hs.trans s')
    have c48 : ∀ w', Step noF w w' → Calls Tryz.prog 13 #[.agg #[U0, U1, .slice ka K kc, U3, U4]] w' fun e w'' => e = .returned (.bool F) ∧ Step noF w' w'' := fun w' s' => c480 w' (hs.trans s')
    have c53 : ∀ w', Step noF w w' → Calls Tryz.prog 14 #[.pointer (some ⟨r, 0, none⟩)] w' fun e w'' => ∃ v, e = .returned v ∧ Step noF w' w'' ∧ ∃ a c, v = .slice a K c := fun w' s' => c530 w' (hs.trans s')
    match i, hi with
    | 0, _ =>
      refine op_runs (d := some 35) nbyaOp0 (wants_none a) (v := .pointer (some ⟨r, 0, none⟩)) (w' := w) ?_ ⟨35, _, rfl, rfl, Step.refl _ _, rfl⟩
      intro oo hoo
      simp only [execOp, hoo, Act.eval, n5]
      go_simp
    | 1, _ =>
      have n35 : a.tmps.getD 35 undef = _ := hat 0 (lc (by kernel_rfl)) 35 rfl
      refine op_runs (d := some 36) nbyaOp1 (wants_none a) (v := .bool false) (w' := w) ?_ ⟨36, _, rfl, rfl, Step.refl _ _, rfl⟩
      intro oo hoo
      simp only [execOp, hoo, Act.eval, n35]
      go_simp
    | 2, _ =>
      have n36 : a.tmps.getD 36 undef = _ := hat 1 (lc (by kernel_rfl)) 36 rfl
      refine op_runs (d := some 37) nbyaOp2 (wants_none a) (v := .bool false) (w' := w) ?_ ⟨37, _, rfl, rfl, Step.refl _ _, rfl⟩
      intro oo hoo
      simp only [execOp, hoo, Act.eval, n36]
      go_simp
    | 3, _ =>
      have n37 : a.tmps.getD 37 undef = _ := hat 2 (lc (by kernel_rfl)) 37 rfl
      refine op_runs (d := some 38) nbyaOp3 (wants_some (d := 37) (b := false) (by kernel_rfl) n37) (v := .pointer (some ⟨r, 0, none⟩)) (w' := w) ?_ ⟨38, _, rfl, rfl, Step.refl _ _, rfl⟩
      intro oo hoo
      simp only [execOp, hoo, Act.eval, n5]
      go_simp
    | 4, _ =>
      have n38 : a.tmps.getD 38 undef = _ := hat 3 (lc (by kernel_rfl)) 38 rfl
      have n37 : a.tmps.getD 37 undef = _ := hat 2 (lc (by kernel_rfl)) 37 rfl
      refine op_calls nbyaOp4 (wants_some (d := 37) (b := false) (by kernel_rfl) n37) Tryz.func11 (by kernel_rfl) (by kernel_rfl) (args := #[.pointer (some ⟨r, 0, none⟩)]) (by simp [Act.eval, n38]) ((c39 w (Step.refl _ _)).mono ?_)
      rintro e w' ⟨rfl, s'⟩
      exact ⟨_, rfl, 39, _, rfl, rfl, s', rfl⟩
    | 5, _ =>
      have n37 : a.tmps.getD 37 undef = _ := hat 2 (lc (by kernel_rfl)) 37 rfl
      refine op_runs (d := some 40) nbyaOp5 (wants_some (d := 37) (b := false) (by kernel_rfl) n37) (v := .pointer (some ⟨g2, 0, none⟩)) (w' := w) ?_ ⟨40, _, rfl, rfl, Step.refl _ _, rfl⟩
      intro oo hoo
      simp only [execOp, hoo, Act.eval, n2]
      go_simp
    | 6, _ =>
      have n40 : a.tmps.getD 40 undef = _ := hat 5 (lc (by kernel_rfl)) 40 rfl
      have n37 : a.tmps.getD 37 undef = _ := hat 2 (lc (by kernel_rfl)) 37 rfl
      refine op_runs (d := some 41) nbyaOp6 (wants_some (d := 37) (b := false) (by kernel_rfl) n37) (v := .bool bl) (w' := w) ?_ ⟨41, _, rfl, rfl, Step.refl _ _, rfl⟩
      intro oo hoo
      simp only [execOp, hoo, Act.eval, n40]
      go_simp
    | 7, _ =>
      have n39 : a.tmps.getD 39 undef = _ := hat 4 (lc (by kernel_rfl)) 39 rfl
      have n41 : a.tmps.getD 41 undef = _ := hat 6 (lc (by kernel_rfl)) 41 rfl
      have n37 : a.tmps.getD 37 undef = _ := hat 2 (lc (by kernel_rfl)) 37 rfl
      refine op_runs (d := some 42) nbyaOp7 (wants_some (d := 37) (b := false) (by kernel_rfl) n37) (v := .bool false) (w' := w) ?_ ⟨42, _, rfl, rfl, Step.refl _ _, rfl⟩
      intro oo hoo
      simp only [execOp, hoo, Act.eval, n39, n41]
      go_simp
    | 8, _ =>
      have n37 : a.tmps.getD 37 undef = _ := hat 2 (lc (by kernel_rfl)) 37 rfl
      have n42 : a.tmps.getD 42 undef = _ := hat 7 (lc (by kernel_rfl)) 42 rfl
      refine op_runs (d := some 43) nbyaOp8 (wants_none a) (v := .bool false) (w' := w) ?_ ⟨43, _, rfl, rfl, Step.refl _ _, rfl⟩
      intro oo hoo
      simp only [execOp, hoo, Act.eval, n37, n42]
      go_simp
    | 9, _ =>
      have n43 : a.tmps.getD 43 undef = _ := hat 8 (lc (by kernel_rfl)) 43 rfl
      refine op_runs (d := some 44) nbyaOp9 (wants_none a) (v := .bool false) (w' := w) ?_ ⟨44, _, rfl, rfl, Step.refl _ _, rfl⟩
      intro oo hoo
      simp only [execOp, hoo, Act.eval, n43]
      go_simp
    | 10, _ =>
      have n44 : a.tmps.getD 44 undef = _ := hat 9 (lc (by kernel_rfl)) 44 rfl
      refine op_runs (d := some 45) nbyaOp10 (wants_some (d := 44) (b := false) (by kernel_rfl) n44) (v := .pointer (some ⟨r, 0, none⟩)) (w' := w) ?_ ⟨45, _, rfl, rfl, Step.refl _ _, rfl⟩
      intro oo hoo
      simp only [execOp, hoo, Act.eval, n5]
      go_simp
    | 11, _ =>
      have n45 : a.tmps.getD 45 undef = _ := hat 10 (lc (by kernel_rfl)) 45 rfl
      have n44 : a.tmps.getD 44 undef = _ := hat 9 (lc (by kernel_rfl)) 44 rfl
      refine op_calls nbyaOp11 (wants_some (d := 44) (b := false) (by kernel_rfl) n44) Tryz.func12 (by kernel_rfl) (by kernel_rfl) (args := #[.pointer (some ⟨r, 0, none⟩)]) (by simp [Act.eval, n45]) ((c46 w (Step.refl _ _)).mono ?_)
      rintro e w' ⟨rfl, s'⟩
      exact ⟨_, rfl, 46, _, rfl, rfl, s', rfl⟩
    | 12, _ =>
      have n44 : a.tmps.getD 44 undef = _ := hat 9 (lc (by kernel_rfl)) 44 rfl
      refine op_runs (d := some 47) nbyaOp12 (wants_some (d := 44) (b := false) (by kernel_rfl) n44) (v := .agg #[U0, U1, .slice ka K kc, U3, U4]) (w' := w) ?_ ⟨47, _, rfl, rfl, Step.refl _ _, rfl⟩
      intro oo hoo
      simp only [execOp, hoo, Act.eval, n6]
      go_simp
    | 13, _ =>
      have n47 : a.tmps.getD 47 undef = _ := hat 12 (lc (by kernel_rfl)) 47 rfl
      have n44 : a.tmps.getD 44 undef = _ := hat 9 (lc (by kernel_rfl)) 44 rfl
      refine op_calls nbyaOp13 (wants_some (d := 44) (b := false) (by kernel_rfl) n44) Tryz.func13 (by kernel_rfl) (by kernel_rfl) (args := #[.agg #[U0, U1, .slice ka K kc, U3, U4]]) (by simp [Act.eval, n47]) ((c48 w (Step.refl _ _)).mono ?_)
      rintro e w' ⟨rfl, s'⟩
      exact ⟨_, rfl, 48, _, rfl, rfl, s', rfl⟩
    | 14, _ =>
      have n46 : a.tmps.getD 46 undef = _ := hat 11 (lc (by kernel_rfl)) 46 rfl
      have n48 : a.tmps.getD 48 undef = _ := hat 13 (lc (by kernel_rfl)) 48 rfl
      have n44 : a.tmps.getD 44 undef = _ := hat 9 (lc (by kernel_rfl)) 44 rfl
      refine op_runs (d := some 49) nbyaOp14 (wants_some (d := 44) (b := false) (by kernel_rfl) n44) (v := .bool false) (w' := w) ?_ ⟨49, _, rfl, rfl, Step.refl _ _, rfl⟩
      intro oo hoo
      simp only [execOp, hoo, Act.eval, n46, n48]
      go_simp
    | 15, _ =>
      have n44 : a.tmps.getD 44 undef = _ := hat 9 (lc (by kernel_rfl)) 44 rfl
      have n49 : a.tmps.getD 49 undef = _ := hat 14 (lc (by kernel_rfl)) 49 rfl
      refine op_runs (d := some 50) nbyaOp15 (wants_none a) (v := .bool false) (w' := w) ?_ ⟨50, _, rfl, rfl, Step.refl _ _, rfl⟩
      intro oo hoo
      simp only [execOp, hoo, Act.eval, n44, n49]
      go_simp
    | 16, _ =>
      have n50 : a.tmps.getD 50 undef = _ := hat 15 (lc (by kernel_rfl)) 50 rfl
      refine op_runs (d := some 51) nbyaOp16 (wants_none a) (v := .bool false) (w' := w) ?_ ⟨51, _, rfl, rfl, Step.refl _ _, rfl⟩
      intro oo hoo
      simp only [execOp, hoo, Act.eval, n50]
      go_simp
    | 17, _ =>
      have n51 : a.tmps.getD 51 undef = _ := hat 16 (lc (by kernel_rfl)) 51 rfl
      refine op_runs (d := some 52) nbyaOp17 (wants_some (d := 51) (b := false) (by kernel_rfl) n51) (v := .pointer (some ⟨r, 0, none⟩)) (w' := w) ?_ ⟨52, _, rfl, rfl, Step.refl _ _, rfl⟩
      intro oo hoo
      simp only [execOp, hoo, Act.eval, n5]
      go_simp
    | 18, _ =>
      have n52 : a.tmps.getD 52 undef = _ := hat 17 (lc (by kernel_rfl)) 52 rfl
      have n51 : a.tmps.getD 51 undef = _ := hat 16 (lc (by kernel_rfl)) 51 rfl
      refine op_calls nbyaOp18 (wants_some (d := 51) (b := false) (by kernel_rfl) n51) Tryz.func14 (by kernel_rfl) (by kernel_rfl) (args := #[.pointer (some ⟨r, 0, none⟩)]) (by simp [Act.eval, n52]) ((c53 w (Step.refl _ _)).mono ?_)
      rintro e w' ⟨v, rfl, s', hv⟩
      exact ⟨_, rfl, 53, _, rfl, rfl, s', hv⟩
    | 19, _ =>
      have hp53 : nbyaSp r g2 g6 K kc ka bl F U0 U1 U3 U4 18 w (a.tmps.getD 53 undef) := hat 18 (lc (by kernel_rfl)) 53 rfl
      have hq53 := hp53
      obtain ⟨a53, c53, n53⟩ := hq53
      have n51 : a.tmps.getD 51 undef = _ := hat 16 (lc (by kernel_rfl)) 51 rfl
      refine op_runs (d := some 54) nbyaOp19 (wants_some (d := 51) (b := false) (by kernel_rfl) n51) (v := .int .i64 K) (w' := w) ?_ ⟨54, _, rfl, rfl, Step.refl _ _, rfl⟩
      intro oo hoo
      simp only [execOp, hoo, Act.eval, n53]
      go_simp
    | 20, _ =>
      have n51 : a.tmps.getD 51 undef = _ := hat 16 (lc (by kernel_rfl)) 51 rfl
      refine op_runs (d := some 55) nbyaOp20 (wants_some (d := 51) (b := false) (by kernel_rfl) n51) (v := .pointer (some ⟨g6, 2, none⟩)) (w' := w) ?_ ⟨55, _, rfl, rfl, Step.refl _ _, rfl⟩
      intro oo hoo
      simp only [execOp, hoo, Act.eval, n6]
      go_simp
    | 21, _ =>
      have n55 : a.tmps.getD 55 undef = _ := hat 20 (lc (by kernel_rfl)) 55 rfl
      have n51 : a.tmps.getD 51 undef = _ := hat 16 (lc (by kernel_rfl)) 51 rfl
      refine op_runs (d := some 56) nbyaOp21 (wants_some (d := 51) (b := false) (by kernel_rfl) n51) (v := .pointer (some ⟨g6, 2, none⟩)) (w' := w) ?_ ⟨56, _, rfl, rfl, Step.refl _ _, rfl⟩
      intro oo hoo
      simp only [execOp, hoo, Act.eval, n55]
      go_simp
    | 22, _ =>
      have n56 : a.tmps.getD 56 undef = _ := hat 21 (lc (by kernel_rfl)) 56 rfl
      have n51 : a.tmps.getD 51 undef = _ := hat 16 (lc (by kernel_rfl)) 51 rfl
      refine op_runs (d := some 57) nbyaOp22 (wants_some (d := 51) (b := false) (by kernel_rfl) n51) (v := .slice ka K kc) (w' := w) ?_ ⟨57, _, rfl, rfl, Step.refl _ _, rfl⟩
      intro oo hoo
      simp only [execOp, hoo, Act.eval, n56]
      go_simp
    | 23, _ =>
      have n57 : a.tmps.getD 57 undef = _ := hat 22 (lc (by kernel_rfl)) 57 rfl
      have n51 : a.tmps.getD 51 undef = _ := hat 16 (lc (by kernel_rfl)) 51 rfl
      refine op_runs (d := some 58) nbyaOp23 (wants_some (d := 51) (b := false) (by kernel_rfl) n51) (v := .int .i64 K) (w' := w) ?_ ⟨58, _, rfl, rfl, Step.refl _ _, rfl⟩
      intro oo hoo
      simp only [execOp, hoo, Act.eval, n57]
      go_simp
    | 24, _ =>
      have n54 : a.tmps.getD 54 undef = _ := hat 19 (lc (by kernel_rfl)) 54 rfl
      have n58 : a.tmps.getD 58 undef = _ := hat 23 (lc (by kernel_rfl)) 58 rfl
      have n51 : a.tmps.getD 51 undef = _ := hat 16 (lc (by kernel_rfl)) 51 rfl
      refine op_runs (d := some 59) nbyaOp24 (wants_some (d := 51) (b := false) (by kernel_rfl) n51) (v := .bool false) (w' := w) ?_ ⟨59, _, rfl, rfl, Step.refl _ _, rfl⟩
      intro oo hoo
      simp only [execOp, hoo, Act.eval, n54, n58]
      go_simp
    | 25, _ =>
      have n51 : a.tmps.getD 51 undef = _ := hat 16 (lc (by kernel_rfl)) 51 rfl
      have n59 : a.tmps.getD 59 undef = _ := hat 24 (lc (by kernel_rfl)) 59 rfl
      refine op_runs (d := some 60) nbyaOp25 (wants_none a) (v := .bool false) (w' := w) ?_ ⟨60, _, rfl, rfl, Step.refl _ _, rfl⟩
      intro oo hoo
      simp only [execOp, hoo, Act.eval, n51, n59]
      go_simp
    | k + 26, h => exact absurd h (by omega)
  · intro a w hs hdf hs2 hfr hat
    rw [nbya_size] at hat
    have e := act_vals (a := a) (a0 := a0) nbyaDs (by decide) (fun d hd => by rw [hsz]; exact nbya_lt d (by revert hd; revert d; decide)) hdf hs2 (fun k hk => hfr k (fun hk2 => hk (by revert hk2; simp [nbyaDl, nbyaDs])))
    rw [e]
    exact hend (fun d => a.tmps.getD d undef) w hs (hat 25 (by omega) 60 rfl)
set_option maxRecDepth 100000 in
theorem nbya_lit (f : Nat → Value) (D : List Deferred) (x0 x1 x2 x3 x4 x5 x6 x7 x8 x9 x10 x11 x12 x13 x14 x15 x16 x17 x18 x19 x20 x21 x22 x23 x24 x25 x26 x27 x28 x29 x30 x31 x32 x33 x34 x35 x36 x37 x38 x39 x40 x41 x42 x43 x44 x45 x46 x47 x48 x49 x50 x51 x52 x53 x54 x55 x56 x57 x58 x59 x60 x61 x62 x63 x64 x65 x66 x67 x68 x69 x70 x71 x72 x73 x74 x75 x76 x77 x78 x79 x80 x81 x82 x83 x84 x85 x86 x87 x88 x89 x90 x91 x92 x93 x94 x95 x96 x97 x98 x99 x100 x101 x102 x103 x104 x105 x106 x107 x108 x109 x110 x111 x112 x113 x114 x115 x116 x117 x118 x119 x120 x121 x122 x123 x124 x125 x126 x127 x128 x129 x130 x131 x132 x133 x134 x135 x136 x137 x138 x139 x140 x141 x142 x143 x144 : Value) : putAll { tmps := #[x0, x1, x2, x3, x4, x5, x6, x7, x8, x9, x10, x11, x12, x13, x14, x15, x16, x17, x18, x19, x20, x21, x22, x23, x24, x25, x26, x27, x28, x29, x30, x31, x32, x33, x34, x35, x36, x37, x38, x39, x40, x41, x42, x43, x44, x45, x46, x47, x48, x49, x50, x51, x52, x53, x54, x55, x56, x57, x58, x59, x60, x61, x62, x63, x64, x65, x66, x67, x68, x69, x70, x71, x72, x73, x74, x75, x76, x77, x78, x79, x80, x81, x82, x83, x84, x85, x86, x87, x88, x89, x90, x91, x92, x93, x94, x95, x96, x97, x98, x99, x100, x101, x102, x103, x104, x105, x106, x107, x108, x109, x110, x111, x112, x113, x114, x115, x116, x117, x118, x119, x120, x121, x122, x123, x124, x125, x126, x127, x128, x129, x130, x131, x132, x133, x134, x135, x136, x137, x138, x139, x140, x141, x142, x143, x144], defers := D } (nbyaDs.map some) (nbyaDs.map f) = { tmps := #[x0, x1, x2, x3, x4, x5, x6, x7, x8, x9, x10, x11, x12, x13, x14, x15, x16, x17, x18, x19, x20, x21, x22, x23, x24, x25, x26, x27, x28, x29, x30, x31, x32, x33, x34, f 35, f 36, f 37, f 38, f 39, f 40, f 41, f 42, f 43, f 44, f 45, f 46, f 47, f 48, f 49, f 50, f 51, f 52, f 53, f 54, f 55, f 56, f 57, f 58, f 59, f 60, x61, x62, x63, x64, x65, x66, x67, x68, x69, x70, x71, x72, x73, x74, x75, x76, x77, x78, x79, x80, x81, x82, x83, x84, x85, x86, x87, x88, x89, x90, x91, x92, x93, x94, x95, x96, x97, x98, x99, x100, x101, x102, x103, x104, x105, x106, x107, x108, x109, x110, x111, x112, x113, x114, x115, x116, x117, x118, x119, x120, x121, x122, x123, x124, x125, x126, x127, x128, x129, x130, x131, x132, x133, x134, x135, x136, x137, x138, x139, x140, x141, x142, x143, x144], defers := D } := by kernel_rfl
end Go.Proofs.YtoobelcphcndoaaGreat
