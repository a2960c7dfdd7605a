/-
  The region that draws in grangerlaw12.NodeParts (number 35), operation by operation. Written by draw6.py.
  The region that draws in grangerlaw12.NodeParts (number 38), operation by operation. Written by draw6.py.
  The walk of NodeParts.
-/
import Derived.Test.YtoobelcphcndoaaGreatDraw
import Derived.Test.YtoobelcphcndoaaGreatNdA
import Derived.Test.YtoobelcphcndoaaGreatNdG
import Derived.Test.YtoobelcphcndoaaGreatInBkM
import Derived.Test.YtoobelcphcndoaaGreatInJ
import Derived.Test.YtoobelcphcndoaaGreatLfH
import Derived.Deep.CutRange
import Derived.Deep.LoopGhost
namespace Go.Proofs.YtoobelcphcndoaaGreat
open Go.RowKit
set_option linter.unusedVariables false
set_option linter.unusedSimpArgs false


def nptaDs : List Nat := [106, 107, 108, 109, 110, 111, 112, 113, 114, 115, 116, 117, 118, 119]
def nptaDl : List (Option Nat) := [some 106, some 107, some 108, some 109, some 110, some 111, some 112, some 113, some 114, some 115, some 116, some 117, some 118, some 119]
theorem npta_dl : ((Tryz.f6.body.bind (regionOps 35)).getD #[]).toList.map (·.dst) = nptaDl := by kernel_rfl
theorem npta_back : backB ((Tryz.f6.body.bind (regionOps 35)).getD #[]) = true := by kernel_rfl
theorem npta_size : ((Tryz.f6.body.bind (regionOps 35)).getD #[]).size = 14 := by kernel_rfl
theorem npta_nd : nptaDl.Pairwise (fun x y => x = none ∨ x ≠ y) := by decide
theorem npta_lt (d : Nat) (h : some d ∈ nptaDl) : d < 143 := by
  have hh : nptaDl.all (fun o => o.all (fun d => decide (d < 143))) = true := by decide
  simpa using List.all_eq_true.1 hh _ h
theorem nptaOp0 : opIs ((Tryz.f6.body.bind (regionOps 35)).getD #[]) 0 (some 106) (Op.move (Operand.tmp 14)) (none) := opIs_of (by kernel_rfl)
theorem nptaOp1 : opIs ((Tryz.f6.body.bind (regionOps 35)).getD #[]) 1 (some 107) (Op.move (Operand.tmp 17)) (none) := opIs_of (by kernel_rfl)
theorem nptaOp2 : opIs ((Tryz.f6.body.bind (regionOps 35)).getD #[]) 2 (some 108) (Op.indexAddr 61 (Operand.tmp 106) (Operand.tmp 107)) (none) := opIs_of (by kernel_rfl)
theorem nptaOp3 : opIs ((Tryz.f6.body.bind (regionOps 35)).getD #[]) 3 (some 109) (Op.load 45 (Operand.tmp 108)) (none) := opIs_of (by kernel_rfl)
theorem nptaOp4 : opIs ((Tryz.f6.body.bind (regionOps 35)).getD #[]) 4 (some 110) (Op.call { callee := Callee.value (Operand.func 21), args := #[Operand.tmp 109], argTypes := #[45] }) (none) := opIs_of (by kernel_rfl)
theorem nptaOp5 : opIs ((Tryz.f6.body.bind (regionOps 35)).getD #[]) 5 (some 111) (Op.call { callee := Callee.value (Operand.func 12), args := #[Operand.tmp 110], argTypes := #[32] }) (none) := opIs_of (by kernel_rfl)
theorem nptaOp6 : opIs ((Tryz.f6.body.bind (regionOps 35)).getD #[]) 6 (some 112) (Op.move (Operand.tmp 14)) (none) := opIs_of (by kernel_rfl)
theorem nptaOp7 : opIs ((Tryz.f6.body.bind (regionOps 35)).getD #[]) 7 (some 113) (Op.move (Operand.tmp 17)) (none) := opIs_of (by kernel_rfl)
theorem nptaOp8 : opIs ((Tryz.f6.body.bind (regionOps 35)).getD #[]) 8 (some 114) (Op.indexAddr 61 (Operand.tmp 112) (Operand.tmp 113)) (none) := opIs_of (by kernel_rfl)
theorem nptaOp9 : opIs ((Tryz.f6.body.bind (regionOps 35)).getD #[]) 9 (some 115) (Op.load 45 (Operand.tmp 114)) (none) := opIs_of (by kernel_rfl)
theorem nptaOp10 : opIs ((Tryz.f6.body.bind (regionOps 35)).getD #[]) 10 (some 116) (Op.call { callee := Callee.value (Operand.func 31), args := #[Operand.tmp 115], argTypes := #[45] }) (none) := opIs_of (by kernel_rfl)
theorem nptaOp11 : opIs ((Tryz.f6.body.bind (regionOps 35)).getD #[]) 11 (some 117) (Op.call { callee := Callee.value (Operand.func 32), args := #[Operand.tmp 116], argTypes := #[64] }) (none) := opIs_of (by kernel_rfl)
theorem nptaOp12 : opIs ((Tryz.f6.body.bind (regionOps 35)).getD #[]) 12 (some 118) (Op.binOp BinOp.leq 3 (Operand.tmp 117) (Operand.const (Value.int IntKind.i64 180)) 3) (none) := opIs_of (by kernel_rfl)
theorem nptaOp13 : opIs ((Tryz.f6.body.bind (regionOps 35)).getD #[]) 13 (some 119) (Op.binOp BinOp.neq 4 (Operand.tmp 111) (Operand.tmp 118) 4) (none) := opIs_of (by kernel_rfl)
/-- What is said of each slot. -/
def nptaSp (g c j qj W : Nat) (B : Bool) (D : Nd) (i : Nat) (w : World) (v : Value) : Prop := match i with
  | 0 => v = .slice (some ⟨g, 0, none⟩) c c
  | 1 => v = .int .i64 j
  | 2 => v = .pointer (some ⟨g, j, none⟩)
  | 3 => v = .pointer (some ⟨qj, 0, none⟩)
  | 4 => ∃ x, v = .pointer (some ⟨x, 0, none⟩) ∧ NodeAt w x (.inn D)
  | 5 => v = .bool B
  | 6 => v = .slice (some ⟨g, 0, none⟩) c c
  | 7 => v = .int .i64 j
  | 8 => v = .pointer (some ⟨g, j, none⟩)
  | 9 => v = .pointer (some ⟨qj, 0, none⟩)
  | 10 => ∃ x, v = .pointer (some ⟨x, 0, none⟩) ∧ BuffAt w x D.ms
  | 11 => v = .int .i64 W
  | 12 => v = .bool B
  | 13 => v = .bool false
  | _ => True
theorem nptaKeep110 (g c j qj W : Nat) (B : Bool) (D : Nd) {w w' : World} {v : Value} (hs : Step noF w w') (h : ∃ x, v = .pointer (some ⟨x, 0, none⟩) ∧ NodeAt w x (.inn D)) : ∃ x, v = .pointer (some ⟨x, 0, none⟩) ∧ NodeAt w' x (.inn D) := by
  obtain ⟨x, h1, h2⟩ := h; exact ⟨x, h1, h2.step hs⟩
theorem nptaKeep116 (g c j qj W : Nat) (B : Bool) (D : Nd) {w w' : World} {v : Value} (hs : Step noF w w') (h : ∃ x, v = .pointer (some ⟨x, 0, none⟩) ∧ BuffAt w x D.ms) : ∃ x, v = .pointer (some ⟨x, 0, none⟩) ∧ BuffAt w' x D.ms := by
  obtain ⟨x, h1, h2⟩ := h; exact ⟨x, h1, h2.step hs⟩
theorem nptaSp_mono (g c j qj W : Nat) (B : Bool) (D : Nd) : ∀ i w w' v, Step noF w w' → nptaSp g c j qj W B D i w v → nptaSp g c j qj W B D i w' v := by
  intro i w w' v hs h
  match i with
  | 0 => exact h
  | 1 => exact h
  | 2 => exact h
  | 3 => exact h
  | 4 => exact nptaKeep110 g c j qj W B D hs h
  | 5 => exact h
  | 6 => exact h
  | 7 => exact h
  | 8 => exact h
  | 9 => exact h
  | 10 => exact nptaKeep116 g c j qj W B D hs h
  | 11 => exact h
  | 12 => exact h
  | 13 => exact h
  | k + 14 => exact h

set_option maxHeartbeats 4000000 in
set_option maxRecDepth 100000 in
theorem npta_go (g c j qj W : Nat) (B : Bool) (D : Nd) (w0 : World) (k20 : w0.cell? ⟨g, j, none⟩ = some (.pointer (some ⟨qj, 0, none⟩))) (l20 : (j : Int) < (c : Int)) (lw0 : decide ((W : Int) ≤ 180) = B) (c1100 : ∀ w0', Step noF w0 w0' → Calls Tryz.prog 21 #[.pointer (some ⟨qj, 0, none⟩)] w0' fun e w0'' => ∃ v, e = .returned v ∧ Step noF w0' w0'' ∧ ∃ x, v = .pointer (some ⟨x, 0, none⟩) ∧ NodeAt w0'' x (.inn D)) (c1110 : ∀ x w0', Step noF w0 w0' → NodeAt w0' x (.inn D) → Calls Tryz.prog 12 #[.pointer (some ⟨x, 0, none⟩)] w0' fun e w0'' => e = .returned (.bool B) ∧ Step noF w0' w0'') (c1160 : ∀ w0', Step noF w0 w0' → Calls Tryz.prog 31 #[.pointer (some ⟨qj, 0, none⟩)] w0' fun e w0'' => ∃ v, e = .returned v ∧ Step noF w0' w0'' ∧ ∃ x, v = .pointer (some ⟨x, 0, none⟩) ∧ BuffAt w0'' x D.ms) (c1170 : ∀ x w0', Step noF w0 w0' → BuffAt w0' x D.ms → Calls Tryz.prog 32 #[.pointer (some ⟨x, 0, none⟩)] w0' fun e w0'' => e = .returned (.int .i64 W) ∧ Step noF w0' w0'')
    {Q : Exit → Act → World → Prop} (a0 : Act) (hsz : a0.tmps.size = 143) (h14 : a0.tmps.getD 14 undef = .slice (some ⟨g, 0, none⟩) c c) (h17 : a0.tmps.getD 17 undef = .int .i64 j)
    (hend : ∀ (f : Nat → Value) (w : World), Step noF w0 w → nptaSp g c j qj W B D 13 w (f 119) → Q .normal (putAll a0 (nptaDs.map some) (nptaDs.map f)) w) :
    (Code.region 35 ((Tryz.f6.body.bind (regionOps 35)).getD #[]) true).wp Tryz.prog Q a0 w0 := by
  refine wp_region_preds (nptaSp g c j qj W B D) (nptaSp_mono g c j qj W B D) nptaDl (by kernel_rfl) npta_back npta_dl npta_nd (fun d h => by rw [hsz]; exact npta_lt d h) ?_ ?_
  · intro i hi a w hs hfr hat
    rw [npta_size] at hi
    have n14 := (hfr 14 (by decide)).trans h14
    have n17 := (hfr 17 (by decide)).trans h17
    have k2 : w.cell? ⟨g, j, none⟩ = some (.pointer (some ⟨qj, 0, none⟩)) := hs.after k20
    have l2 : (j : Int) < (c : Int) := l20
    have lw : decide ((W : Int) ≤ 180) = B := lw0
    have c110 : ∀ w', Step noF w w' → Calls Tryz.prog 21 #[.pointer (some ⟨qj, 0, none⟩)] w' fun e w'' => ∃ v, e = .returned v ∧ Step noF w' w'' ∧ ∃ x, v = .pointer (some ⟨x, 0, none⟩) ∧ NodeAt w'' x (.inn D) := fun w' s' => c1100 w' (hs.trans s')
    have c111 : ∀ x w', Step noF w w' → NodeAt w' x (.inn D) → Calls Tryz.prog 12 #[.pointer (some ⟨x, 0, none⟩)] w' fun e w'' => e = .returned (.bool B) ∧ Step noF w' w'' := fun x w' s' => c1110 x w' (hs.trans s')
    have c116 : ∀ w', Step noF w w' → Calls Tryz.prog 31 #[.pointer (some ⟨qj, 0, none⟩)] w' fun e w'' => ∃ v, e = .returned v ∧ Step noF w' w'' ∧ ∃ x, v = .pointer (some ⟨x, 0, none⟩) ∧ BuffAt w'' x D.ms := fun w' s' => c1160 w' (hs.trans s')
    have c117 : ∀ x w', Step noF w w' → BuffAt w' x D.ms → Calls Tryz.prog 32 #[.pointer (some ⟨x, 0, none⟩)] w' fun e w'' => e = .returned (.int .i64 W) ∧ Step noF w' w'' := fun x w' s' => c1170 x w' (hs.trans s')
    match i, hi with
    | 0, _ =>
      refine op_runs (d := some 106) nptaOp0 (wants_none a) (v := .slice (some ⟨g, 0, none⟩) c c) (w' := w) ?_ ⟨106, _, rfl, rfl, Step.refl _ _, rfl⟩
      intro oo hoo
      simp only [execOp, hoo, Act.eval, n14]
      go_simp
    | 1, _ =>
      refine op_runs (d := some 107) nptaOp1 (wants_none a) (v := .int .i64 j) (w' := w) ?_ ⟨107, _, rfl, rfl, Step.refl _ _, rfl⟩
      intro oo hoo
      simp only [execOp, hoo, Act.eval, n17]
      go_simp
    | 2, _ =>
      have n106 : a.tmps.getD 106 undef = _ := hat 0 (lc (by kernel_rfl)) 106 rfl
      have n107 : a.tmps.getD 107 undef = _ := hat 1 (lc (by kernel_rfl)) 107 rfl
      refine op_runs (d := some 108) nptaOp2 (wants_none a) (v := .pointer (some ⟨g, j, none⟩)) (w' := w) ?_ ⟨108, _, rfl, rfl, Step.refl _ _, rfl⟩
      intro oo hoo
      simp only [execOp, hoo, Act.eval, n106, n107]
      go_simp
    | 3, _ =>
      have n108 : a.tmps.getD 108 undef = _ := hat 2 (lc (by kernel_rfl)) 108 rfl
      refine op_runs (d := some 109) nptaOp3 (wants_none a) (v := .pointer (some ⟨qj, 0, none⟩)) (w' := w) ?_ ⟨109, _, rfl, rfl, Step.refl _ _, rfl⟩
      intro oo hoo
      simp only [execOp, hoo, Act.eval, n108]
      go_simp
    | 4, _ =>
      have n109 : a.tmps.getD 109 undef = _ := hat 3 (lc (by kernel_rfl)) 109 rfl
      refine op_calls nptaOp4 (wants_none a) Tryz.func21 (by kernel_rfl) (by kernel_rfl) (args := #[.pointer (some ⟨qj, 0, none⟩)]) (by simp [Act.eval, n109]) ((c110 w (Step.refl _ _)).mono ?_)
      rintro e w' ⟨v, rfl, s', hv⟩
      exact ⟨_, rfl, 110, _, rfl, rfl, s', hv⟩
    | 5, _ =>
      have hp110 : nptaSp g c j qj W B D 4 w (a.tmps.getD 110 undef) := hat 4 (lc (by kernel_rfl)) 110 rfl
      have hq110 := hp110
      obtain ⟨x110, n110, r110⟩ := hq110
      refine op_calls nptaOp5 (wants_none a) Tryz.func12 (by kernel_rfl) (by kernel_rfl) (args := #[.pointer (some ⟨x110, 0, none⟩)]) (by simp [Act.eval, n110]) ((c111 _ w (Step.refl _ _) r110).mono ?_)
      rintro e w' ⟨rfl, s'⟩
      exact ⟨_, rfl, 111, _, rfl, rfl, s', rfl⟩
    | 6, _ =>
      refine op_runs (d := some 112) nptaOp6 (wants_none a) (v := .slice (some ⟨g, 0, none⟩) c c) (w' := w) ?_ ⟨112, _, rfl, rfl, Step.refl _ _, rfl⟩
      intro oo hoo
      simp only [execOp, hoo, Act.eval, n14]
      go_simp
    | 7, _ =>
      refine op_runs (d := some 113) nptaOp7 (wants_none a) (v := .int .i64 j) (w' := w) ?_ ⟨113, _, rfl, rfl, Step.refl _ _, rfl⟩
      intro oo hoo
      simp only [execOp, hoo, Act.eval, n17]
      go_simp
    | 8, _ =>
      have n112 : a.tmps.getD 112 undef = _ := hat 6 (lc (by kernel_rfl)) 112 rfl
      have n113 : a.tmps.getD 113 undef = _ := hat 7 (lc (by kernel_rfl)) 113 rfl
      refine op_runs (d := some 114) nptaOp8 (wants_none a) (v := .pointer (some ⟨g, j, none⟩)) (w' := w) ?_ ⟨114, _, rfl, rfl, Step.refl _ _, rfl⟩
      intro oo hoo
      simp only [execOp, hoo, Act.eval, n112, n113]
      go_simp
    | 9, _ =>
      have n114 : a.tmps.getD 114 undef = _ := hat 8 (lc (by kernel_rfl)) 114 rfl
      refine op_runs (d := some 115) nptaOp9 (wants_none a) (v := .pointer (some ⟨qj, 0, none⟩)) (w' := w) ?_ ⟨115, _, rfl, rfl, Step.refl _ _, rfl⟩
      intro oo hoo
      simp only [execOp, hoo, Act.eval, n114]
      go_simp
    | 10, _ =>
      have n115 : a.tmps.getD 115 undef = _ := hat 9 (lc (by kernel_rfl)) 115 rfl
      refine op_calls nptaOp10 (wants_none a) Tryz.func31 (by kernel_rfl) (by kernel_rfl) (args := #[.pointer (some ⟨qj, 0, none⟩)]) (by simp [Act.eval, n115]) ((c116 w (Step.refl _ _)).mono ?_)
      rintro e w' ⟨v, rfl, s', hv⟩
      exact ⟨_, rfl, 116, _, rfl, rfl, s', hv⟩
    | 11, _ =>
      have hp116 : nptaSp g c j qj W B D 10 w (a.tmps.getD 116 undef) := hat 10 (lc (by kernel_rfl)) 116 rfl
      have hq116 := hp116
      obtain ⟨x116, n116, r116⟩ := hq116
      refine op_calls nptaOp11 (wants_none a) Tryz.func32 (by kernel_rfl) (by kernel_rfl) (args := #[.pointer (some ⟨x116, 0, none⟩)]) (by simp [Act.eval, n116]) ((c117 _ w (Step.refl _ _) r116).mono ?_)
      rintro e w' ⟨rfl, s'⟩
      exact ⟨_, rfl, 117, _, rfl, rfl, s', rfl⟩
    | 12, _ =>
      have n117 : a.tmps.getD 117 undef = _ := hat 11 (lc (by kernel_rfl)) 117 rfl
      refine op_runs (d := some 118) nptaOp12 (wants_none a) (v := .bool B) (w' := w) ?_ ⟨118, _, rfl, rfl, Step.refl _ _, rfl⟩
      intro oo hoo
      simp only [execOp, hoo, Act.eval, n117]
      go_simp
    | 13, _ =>
      have n111 : a.tmps.getD 111 undef = _ := hat 5 (lc (by kernel_rfl)) 111 rfl
      have n118 : a.tmps.getD 118 undef = _ := hat 12 (lc (by kernel_rfl)) 118 rfl
      refine op_runs (d := some 119) nptaOp13 (wants_none a) (v := .bool false) (w' := w) ?_ ⟨119, _, rfl, rfl, Step.refl _ _, rfl⟩
      intro oo hoo
      simp only [execOp, hoo, Act.eval, n111, n118]
      go_simp
    | k + 14, h => exact absurd h (by omega)
  · intro a w hs hdf hs2 hfr hat
    rw [npta_size] at hat
    have e := act_vals (a := a) (a0 := a0) nptaDs (by decide) (fun d hd => by rw [hsz]; exact npta_lt d (by revert hd; revert d; decide)) hdf hs2 (fun k hk => hfr k (fun hk2 => hk (by revert hk2; simp [nptaDl, nptaDs])))
    rw [e]
    exact hend (fun d => a.tmps.getD d undef) w hs (hat 13 (by omega) 119 rfl)
set_option maxRecDepth 100000 in
theorem npta_lit (f : Nat → Value) (D : List Deferred) (x0 x1 x2 x3 x4 x5 x6 x7 x8 x9 x10 x11 x12 x13 x14 x15 x16 x17 x18 x19 x20 x21 x22 x23 x24 x25 x26 x27 x28 x29 x30 x31 x32 x33 x34 x35 x36 x37 x38 x39 x40 x41 x42 x43 x44 x45 x46 x47 x48 x49 x50 x51 x52 x53 x54 x55 x56 x57 x58 x59 x60 x61 x62 x63 x64 x65 x66 x67 x68 x69 x70 x71 x72 x73 x74 x75 x76 x77 x78 x79 x80 x81 x82 x83 x84 x85 x86 x87 x88 x89 x90 x91 x92 x93 x94 x95 x96 x97 x98 x99 x100 x101 x102 x103 x104 x105 x106 x107 x108 x109 x110 x111 x112 x113 x114 x115 x116 x117 x118 x119 x120 x121 x122 x123 x124 x125 x126 x127 x128 x129 x130 x131 x132 x133 x134 x135 x136 x137 x138 x139 x140 x141 x142 : Value) : putAll { tmps := #[x0, x1, x2, x3, x4, x5, x6, x7, x8, x9, x10, x11, x12, x13, x14, x15, x16, x17, x18, x19, x20, x21, x22, x23, x24, x25, x26, x27, x28, x29, x30, x31, x32, x33, x34, x35, x36, x37, x38, x39, x40, x41, x42, x43, x44, x45, x46, x47, x48, x49, x50, x51, x52, x53, x54, x55, x56, x57, x58, x59, x60, x61, x62, x63, x64, x65, x66, x67, x68, x69, x70, x71, x72, x73, x74, x75, x76, x77, x78, x79, x80, x81, x82, x83, x84, x85, x86, x87, x88, x89, x90, x91, x92, x93, x94, x95, x96, x97, x98, x99, x100, x101, x102, x103, x104, x105, x106, x107, x108, x109, x110, x111, x112, x113, x114, x115, x116, x117, x118, x119, x120, x121, x122, x123, x124, x125, x126, x127, x128, x129, x130, x131, x132, x133, x134, x135, x136, x137, x138, x139, x140, x141, x142], defers := D } (nptaDs.map some) (nptaDs.map f) = { tmps := #[x0, x1, x2, x3, x4, x5, x6, x7, x8, x9, x10, x11, x12, x13, x14, x15, x16, x17, x18, x19, x20, x21, x22, x23, x24, x25, x26, x27, x28, x29, x30, x31, x32, x33, x34, x35, x36, x37, x38, x39, x40, x41, x42, x43, x44, x45, x46, x47, x48, x49, x50, x51, x52, x53, x54, x55, x56, x57, x58, x59, x60, x61, x62, x63, x64, x65, x66, x67, x68, x69, x70, x71, x72, x73, x74, x75, x76, x77, x78, x79, x80, x81, x82, x83, x84, x85, x86, x87, x88, x89, x90, x91, x92, x93, x94, x95, x96, x97, x98, x99, x100, x101, x102, x103, x104, x105, f 106, f 107, f 108, f 109, f 110, f 111, f 112, f 113, f 114, f 115, f 116, f 117, f 118, f 119, x120, x121, x122, x123, x124, x125, x126, x127, x128, x129, x130, x131, x132, x133, x134, x135, x136, x137, x138, x139, x140, x141, x142], defers := D } := by kernel_rfl
end Go.Proofs.YtoobelcphcndoaaGreat
namespace Go.Proofs.YtoobelcphcndoaaGreat
open Go.RowKit
set_option linter.unusedVariables false
set_option linter.unusedSimpArgs false


def nptbDs : List Nat := [123, 124, 125, 126, 127, 128, 129, 130, 131, 132, 133, 122, 134, 135, 18, 19]
def nptbDl : List (Option Nat) := [some 123, some 124, some 125, some 126, some 127, some 128, some 129, some 130, some 131, some 132, some 133, some 122, some 134, some 135, some 18, some 19]
theorem nptb_dl : ((Tryz.f6.body.bind (regionOps 38)).getD #[]).toList.map (·.dst) = nptbDl := by kernel_rfl
theorem nptb_back : backB ((Tryz.f6.body.bind (regionOps 38)).getD #[]) = true := by kernel_rfl
theorem nptb_size : ((Tryz.f6.body.bind (regionOps 38)).getD #[]).size = 16 := by kernel_rfl
theorem nptb_nd : nptbDl.Pairwise (fun x y => x = none ∨ x ≠ y) := by decide
theorem nptb_lt (d : Nat) (h : some d ∈ nptbDl) : d < 143 := by
  have hh : nptbDl.all (fun o => o.all (fun d => decide (d < 143))) = true := by decide
  simpa using List.all_eq_true.1 hh _ h
theorem nptbOp0 : opIs ((Tryz.f6.body.bind (regionOps 38)).getD #[]) 0 (some 123) (Op.move (Operand.tmp 16)) (none) := opIs_of (by kernel_rfl)
theorem nptbOp1 : opIs ((Tryz.f6.body.bind (regionOps 38)).getD #[]) 1 (some 124) (Op.move (Operand.tmp 15)) (none) := opIs_of (by kernel_rfl)
theorem nptbOp2 : opIs ((Tryz.f6.body.bind (regionOps 38)).getD #[]) 2 (some 125) (Op.move (Operand.tmp 17)) (none) := opIs_of (by kernel_rfl)
theorem nptbOp3 : opIs ((Tryz.f6.body.bind (regionOps 38)).getD #[]) 3 (some 126) (Op.binOp BinOp.sub 3 (Operand.tmp 125) (Operand.const (Value.int IntKind.i64 1)) 3) (none) := opIs_of (by kernel_rfl)
theorem nptbOp4 : opIs ((Tryz.f6.body.bind (regionOps 38)).getD #[]) 4 (some 127) (Op.indexAddr 24 (Operand.tmp 124) (Operand.tmp 126)) (none) := opIs_of (by kernel_rfl)
theorem nptbOp5 : opIs ((Tryz.f6.body.bind (regionOps 38)).getD #[]) 5 (some 128) (Op.load 9 (Operand.tmp 127)) (none) := opIs_of (by kernel_rfl)
theorem nptbOp6 : opIs ((Tryz.f6.body.bind (regionOps 38)).getD #[]) 6 (some 129) (Op.move (Operand.tmp 14)) (none) := opIs_of (by kernel_rfl)
theorem nptbOp7 : opIs ((Tryz.f6.body.bind (regionOps 38)).getD #[]) 7 (some 130) (Op.move (Operand.tmp 17)) (none) := opIs_of (by kernel_rfl)
theorem nptbOp8 : opIs ((Tryz.f6.body.bind (regionOps 38)).getD #[]) 8 (some 131) (Op.indexAddr 61 (Operand.tmp 129) (Operand.tmp 130)) (none) := opIs_of (by kernel_rfl)
theorem nptbOp9 : opIs ((Tryz.f6.body.bind (regionOps 38)).getD #[]) 9 (some 132) (Op.load 45 (Operand.tmp 131)) (none) := opIs_of (by kernel_rfl)
theorem nptbOp10 : opIs ((Tryz.f6.body.bind (regionOps 38)).getD #[]) 10 (some 133) (Op.call { callee := Callee.value (Operand.func 33), args := #[Operand.tmp 123, Operand.tmp 128, Operand.tmp 132], argTypes := #[45, 9, 45] }) (none) := opIs_of (by kernel_rfl)
theorem nptbOp11 : opIs ((Tryz.f6.body.bind (regionOps 38)).getD #[]) 11 (some 122) (Op.move (Operand.tmp 133)) (none) := opIs_of (by kernel_rfl)
theorem nptbOp12 : opIs ((Tryz.f6.body.bind (regionOps 38)).getD #[]) 12 (some 134) (Op.extract (Operand.tmp 122) 0) (none) := opIs_of (by kernel_rfl)
theorem nptbOp13 : opIs ((Tryz.f6.body.bind (regionOps 38)).getD #[]) 13 (some 135) (Op.extract (Operand.tmp 122) 1) (none) := opIs_of (by kernel_rfl)
theorem nptbOp14 : opIs ((Tryz.f6.body.bind (regionOps 38)).getD #[]) 14 (some 18) (Op.assign (Operand.tmp 134)) (none) := opIs_of (by kernel_rfl)
theorem nptbOp15 : opIs ((Tryz.f6.body.bind (regionOps 38)).getD #[]) 15 (some 19) (Op.assign (Operand.tmp 135)) (none) := opIs_of (by kernel_rfl)
/-- What is said of each slot. -/
def nptbSp (q b off bn bc j jm g c q2 : Nat) (PV : List UInt8) (D : Nd) (i : Nat) (w : World) (v : Value) : Prop := match i with
  | 0 => v = .pointer (some ⟨q, 0, none⟩)
  | 1 => v = .slice (some ⟨b, off, none⟩) bn bc
  | 2 => v = .int .i64 j
  | 3 => v = .int .i64 jm
  | 4 => v = .pointer (some ⟨b, off + jm, none⟩)
  | 5 => v = .string (str PV)
  | 6 => v = .slice (some ⟨g, 0, none⟩) c c
  | 7 => v = .int .i64 j
  | 8 => v = .pointer (some ⟨g, j, none⟩)
  | 9 => v = .pointer (some ⟨q2, 0, none⟩)
  | 10 => ∃ x, v = .tuple #[.pointer (some ⟨x, 0, none⟩), .int .i64 0] ∧ InnerAt w x D
  | 11 => ∃ x, v = .tuple #[.pointer (some ⟨x, 0, none⟩), .int .i64 0] ∧ InnerAt w x D
  | 12 => ∃ x, v = .pointer (some ⟨x, 0, none⟩) ∧ InnerAt w x D
  | 13 => v = .int .i64 0
  | 14 => ∃ x, v = .pointer (some ⟨x, 0, none⟩) ∧ InnerAt w x D
  | 15 => v = .int .i64 0
  | _ => True
theorem nptbKeep133 (q b off bn bc j jm g c q2 : Nat) (PV : List UInt8) (D : Nd) {w w' : World} {v : Value} (hs : Step noF w w') (h : ∃ x, v = .tuple #[.pointer (some ⟨x, 0, none⟩), .int .i64 0] ∧ InnerAt w x D) : ∃ x, v = .tuple #[.pointer (some ⟨x, 0, none⟩), .int .i64 0] ∧ InnerAt w' x D := by
  obtain ⟨x, h1, h2⟩ := h; exact ⟨x, h1, h2.step hs⟩
theorem nptbKeep122 (q b off bn bc j jm g c q2 : Nat) (PV : List UInt8) (D : Nd) {w w' : World} {v : Value} (hs : Step noF w w') (h : ∃ x, v = .tuple #[.pointer (some ⟨x, 0, none⟩), .int .i64 0] ∧ InnerAt w x D) : ∃ x, v = .tuple #[.pointer (some ⟨x, 0, none⟩), .int .i64 0] ∧ InnerAt w' x D := by
  obtain ⟨x, h1, h2⟩ := h; exact ⟨x, h1, h2.step hs⟩
theorem nptbKeep134 (q b off bn bc j jm g c q2 : Nat) (PV : List UInt8) (D : Nd) {w w' : World} {v : Value} (hs : Step noF w w') (h : ∃ x, v = .pointer (some ⟨x, 0, none⟩) ∧ InnerAt w x D) : ∃ x, v = .pointer (some ⟨x, 0, none⟩) ∧ InnerAt w' x D := by
  obtain ⟨x, h1, h2⟩ := h; exact ⟨x, h1, h2.step hs⟩
theorem nptbKeep18 (q b off bn bc j jm g c q2 : Nat) (PV : List UInt8) (D : Nd) {w w' : World} {v : Value} (hs : Step noF w w') (h : ∃ x, v = .pointer (some ⟨x, 0, none⟩) ∧ InnerAt w x D) : ∃ x, v = .pointer (some ⟨x, 0, none⟩) ∧ InnerAt w' x D := by
  obtain ⟨x, h1, h2⟩ := h; exact ⟨x, h1, h2.step hs⟩
theorem nptbSp_mono (q b off bn bc j jm g c q2 : Nat) (PV : List UInt8) (D : Nd) : ∀ i w w' v, Step noF w w' → nptbSp q b off bn bc j jm g c q2 PV D i w v → nptbSp q b off bn bc j jm g c q2 PV D i w' v := by
  intro i w w' v hs h
  match i with
  | 0 => exact h
  | 1 => exact h
  | 2 => exact h
  | 3 => exact h
  | 4 => exact h
  | 5 => exact h
  | 6 => exact h
  | 7 => exact h
  | 8 => exact h
  | 9 => exact h
  | 10 => exact nptbKeep133 q b off bn bc j jm g c q2 PV D hs h
  | 11 => exact nptbKeep122 q b off bn bc j jm g c q2 PV D hs h
  | 12 => exact nptbKeep134 q b off bn bc j jm g c q2 PV D hs h
  | 13 => exact h
  | 14 => exact nptbKeep18 q b off bn bc j jm g c q2 PV D hs h
  | 15 => exact h
  | k + 16 => exact h

set_option maxHeartbeats 4000000 in
set_option maxRecDepth 100000 in
theorem nptb_go (q b off bn bc j jm g c q2 : Nat) (PV : List UInt8) (D : Nd) (w0 : World) (k10 : w0.cell? ⟨b, off + jm, none⟩ = some (.string (str PV))) (k20 : w0.cell? ⟨g, j, none⟩ = some (.pointer (some ⟨q2, 0, none⟩))) (e10 : (j : Int) - 1 = (jm : Int)) (w10 : IntKind.i64.wrap (jm : Int) = (jm : Int)) (l10 : (jm : Int) < (bn : Int)) (l20 : (j : Int) < (c : Int)) (c1330 : ∀ w0', Step noF w0 w0' → Calls Tryz.prog 33 #[.pointer (some ⟨q, 0, none⟩), .string (str PV), .pointer (some ⟨q2, 0, none⟩)] w0' fun e w0'' => ∃ v, e = .returned v ∧ Step noF w0' w0'' ∧ ∃ x, v = .tuple #[.pointer (some ⟨x, 0, none⟩), .int .i64 0] ∧ InnerAt w0'' x D)
    {Q : Exit → Act → World → Prop} (a0 : Act) (hsz : a0.tmps.size = 143) (h14 : a0.tmps.getD 14 undef = .slice (some ⟨g, 0, none⟩) c c) (h15 : a0.tmps.getD 15 undef = .slice (some ⟨b, off, none⟩) bn bc) (h16 : a0.tmps.getD 16 undef = .pointer (some ⟨q, 0, none⟩)) (h17 : a0.tmps.getD 17 undef = .int .i64 j)
    (hend : ∀ (f : Nat → Value) (w : World), Step noF w0 w → nptbSp q b off bn bc j jm g c q2 PV D 14 w (f 18) → nptbSp q b off bn bc j jm g c q2 PV D 15 w (f 19) → Q .normal (putAll a0 (nptbDs.map some) (nptbDs.map f)) w) :
    (Code.region 38 ((Tryz.f6.body.bind (regionOps 38)).getD #[]) true).wp Tryz.prog Q a0 w0 := by
  refine wp_region_preds (nptbSp q b off bn bc j jm g c q2 PV D) (nptbSp_mono q b off bn bc j jm g c q2 PV D) nptbDl (by kernel_rfl) nptb_back nptb_dl nptb_nd (fun d h => by rw [hsz]; exact nptb_lt d h) ?_ ?_
  · intro i hi a w hs hfr hat
    rw [nptb_size] at hi
    have n14 := (hfr 14 (by decide)).trans h14
    have n15 := (hfr 15 (by decide)).trans h15
    have n16 := (hfr 16 (by decide)).trans h16
    have n17 := (hfr 17 (by decide)).trans h17
    have k1 : w.cell? ⟨b, off + jm, none⟩ = some (.string (str PV)) := hs.after k10
    have k2 : w.cell? ⟨g, j, none⟩ = some (.pointer (some ⟨q2, 0, none⟩)) := hs.after k20
    have e1 : (j : Int) - 1 = (jm : Int) := e10
    have w1 : IntKind.i64.wrap (jm : Int) = (jm : Int) := w10
    have l1 : (jm : Int) < (bn : Int) := l10
    have l2 : (j : Int) < (c : Int) := l20
    have c133 : ∀ w', Step noF w w' → Calls Tryz.prog 33 #[.pointer (some ⟨q, 0, none⟩), .string (str PV), .pointer (some ⟨q2, 0, none⟩)] w' fun e w'' => ∃ v, e = .returned v ∧ Step noF w' w'' ∧ ∃ x, v = .tuple #[.pointer (some ⟨x, 0, none⟩), .int .i64 0] ∧ InnerAt w'' x D := fun w' s' => c1330 w' (hs.trans s')
    match i, hi with
    | 0, _ =>
      refine op_runs (d := some 123) nptbOp0 (wants_none a) (v := .pointer (some ⟨q, 0, none⟩)) (w' := w) ?_ ⟨123, _, rfl, rfl, Step.refl _ _, rfl⟩
      intro oo hoo
      simp only [execOp, hoo, Act.eval, n16]
      go_simp
    | 1, _ =>
      refine op_runs (d := some 124) nptbOp1 (wants_none a) (v := .slice (some ⟨b, off, none⟩) bn bc) (w' := w) ?_ ⟨124, _, rfl, rfl, Step.refl _ _, rfl⟩
      intro oo hoo
      simp only [execOp, hoo, Act.eval, n15]
      go_simp
    | 2, _ =>
      refine op_runs (d := some 125) nptbOp2 (wants_none a) (v := .int .i64 j) (w' := w) ?_ ⟨125, _, rfl, rfl, Step.refl _ _, rfl⟩
      intro oo hoo
      simp only [execOp, hoo, Act.eval, n17]
      go_simp
    | 3, _ =>
      have n125 : a.tmps.getD 125 undef = _ := hat 2 (lc (by kernel_rfl)) 125 rfl
      refine op_runs (d := some 126) nptbOp3 (wants_none a) (v := .int .i64 jm) (w' := w) ?_ ⟨126, _, rfl, rfl, Step.refl _ _, rfl⟩
      intro oo hoo
      simp only [execOp, hoo, Act.eval, n125]
      go_simp
    | 4, _ =>
      have n124 : a.tmps.getD 124 undef = _ := hat 1 (lc (by kernel_rfl)) 124 rfl
      have n126 : a.tmps.getD 126 undef = _ := hat 3 (lc (by kernel_rfl)) 126 rfl
      refine op_runs (d := some 127) nptbOp4 (wants_none a) (v := .pointer (some ⟨b, off + jm, none⟩)) (w' := w) ?_ ⟨127, _, rfl, rfl, Step.refl _ _, rfl⟩
      intro oo hoo
      simp only [execOp, hoo, Act.eval, n124, n126]
      go_simp
    | 5, _ =>
      have n127 : a.tmps.getD 127 undef = _ := hat 4 (lc (by kernel_rfl)) 127 rfl
      refine op_runs (d := some 128) nptbOp5 (wants_none a) (v := .string (str PV)) (w' := w) ?_ ⟨128, _, rfl, rfl, Step.refl _ _, rfl⟩
      intro oo hoo
      simp only [execOp, hoo, Act.eval, n127]
      go_simp
    | 6, _ =>
      refine op_runs (d := some 129) nptbOp6 (wants_none a) (v := .slice (some ⟨g, 0, none⟩) c c) (w' := w) ?_ ⟨129, _, rfl, rfl, Step.refl _ _, rfl⟩
      intro oo hoo
      simp only [execOp, hoo, Act.eval, n14]
      go_simp
    | 7, _ =>
      refine op_runs (d := some 130) nptbOp7 (wants_none a) (v := .int .i64 j) (w' := w) ?_ ⟨130, _, rfl, rfl, Step.refl _ _, rfl⟩
      intro oo hoo
      simp only [execOp, hoo, Act.eval, n17]
      go_simp
    | 8, _ =>
      have n129 : a.tmps.getD 129 undef = _ := hat 6 (lc (by kernel_rfl)) 129 rfl
      have n130 : a.tmps.getD 130 undef = _ := hat 7 (lc (by kernel_rfl)) 130 rfl
      refine op_runs (d := some 131) nptbOp8 (wants_none a) (v := .pointer (some ⟨g, j, none⟩)) (w' := w) ?_ ⟨131, _, rfl, rfl, Step.refl _ _, rfl⟩
      intro oo hoo
      simp only [execOp, hoo, Act.eval, n129, n130]
      go_simp
    | 9, _ =>
      have n131 : a.tmps.getD 131 undef = _ := hat 8 (lc (by kernel_rfl)) 131 rfl
      refine op_runs (d := some 132) nptbOp9 (wants_none a) (v := .pointer (some ⟨q2, 0, none⟩)) (w' := w) ?_ ⟨132, _, rfl, rfl, Step.refl _ _, rfl⟩
      intro oo hoo
      simp only [execOp, hoo, Act.eval, n131]
      go_simp
    | 10, _ =>
      have n123 : a.tmps.getD 123 undef = _ := hat 0 (lc (by kernel_rfl)) 123 rfl
      have n128 : a.tmps.getD 128 undef = _ := hat 5 (lc (by kernel_rfl)) 128 rfl
      have n132 : a.tmps.getD 132 undef = _ := hat 9 (lc (by kernel_rfl)) 132 rfl
      refine op_calls nptbOp10 (wants_none a) Tryz.func33 (by kernel_rfl) (by kernel_rfl) (args := #[.pointer (some ⟨q, 0, none⟩), .string (str PV), .pointer (some ⟨q2, 0, none⟩)]) (by simp [Act.eval, n123, n128, n132]) ((c133 w (Step.refl _ _)).mono ?_)
      rintro e w' ⟨v, rfl, s', hv⟩
      exact ⟨_, rfl, 133, _, rfl, rfl, s', hv⟩
    | 11, _ =>
      have hp133 : nptbSp q b off bn bc j jm g c q2 PV D 10 w (a.tmps.getD 133 undef) := hat 10 (lc (by kernel_rfl)) 133 rfl
      have hq133 := hp133
      obtain ⟨x133, n133, r133⟩ := hq133
      refine op_runs (d := some 122) nptbOp11 (wants_none a) (v := a.tmps.getD 133 undef) (w' := w) ?_ ⟨122, _, rfl, rfl, Step.refl _ _, hp133⟩
      intro oo hoo
      simp only [execOp, hoo, Act.eval]
      go_simp
    | 12, _ =>
      have hp122 : nptbSp q b off bn bc j jm g c q2 PV D 11 w (a.tmps.getD 122 undef) := hat 11 (lc (by kernel_rfl)) 122 rfl
      have hq122 := hp122
      obtain ⟨x122, n122, r122⟩ := hq122
      refine op_runs (d := some 134) nptbOp12 (wants_none a) (v := .pointer (some ⟨x122, 0, none⟩)) (w' := w) ?_ ⟨134, _, rfl, rfl, (by first | exact (Step.refl _ _).alloc _ | exact Step.refl _ _), ⟨_, rfl, r122⟩⟩
      intro oo hoo
      simp only [execOp, hoo, Act.eval, List.map_toArray, List.map_cons, List.map_nil, n122]
      go_simp
    | 13, _ =>
      have hp122 : nptbSp q b off bn bc j jm g c q2 PV D 11 w (a.tmps.getD 122 undef) := hat 11 (lc (by kernel_rfl)) 122 rfl
      have hq122 := hp122
      obtain ⟨x122, n122, r122⟩ := hq122
      refine op_runs (d := some 135) nptbOp13 (wants_none a) (v := .int .i64 0) (w' := w) ?_ ⟨135, _, rfl, rfl, Step.refl _ _, rfl⟩
      intro oo hoo
      simp only [execOp, hoo, Act.eval, n122]
      go_simp
    | 14, _ =>
      have hp134 : nptbSp q b off bn bc j jm g c q2 PV D 12 w (a.tmps.getD 134 undef) := hat 12 (lc (by kernel_rfl)) 134 rfl
      have hq134 := hp134
      obtain ⟨x134, n134, r134⟩ := hq134
      refine op_runs (d := some 18) nptbOp14 (wants_none a) (v := a.tmps.getD 134 undef) (w' := w) ?_ ⟨18, _, rfl, rfl, Step.refl _ _, hp134⟩
      intro oo hoo
      simp only [execOp, hoo, Act.eval]
      go_simp
    | 15, _ =>
      have n135 : a.tmps.getD 135 undef = _ := hat 13 (lc (by kernel_rfl)) 135 rfl
      refine op_runs (d := some 19) nptbOp15 (wants_none a) (v := .int .i64 0) (w' := w) ?_ ⟨19, _, rfl, rfl, Step.refl _ _, rfl⟩
      intro oo hoo
      simp only [execOp, hoo, Act.eval, n135]
      go_simp
    | k + 16, h => exact absurd h (by omega)
  · intro a w hs hdf hs2 hfr hat
    rw [nptb_size] at hat
    have e := act_vals (a := a) (a0 := a0) nptbDs (by decide) (fun d hd => by rw [hsz]; exact nptb_lt d (by revert hd; revert d; decide)) hdf hs2 (fun k hk => hfr k (fun hk2 => hk (by revert hk2; simp [nptbDl, nptbDs])))
    rw [e]
    exact hend (fun d => a.tmps.getD d undef) w hs (hat 14 (by omega) 18 rfl) (hat 15 (by omega) 19 rfl)
set_option maxRecDepth 100000 in
theorem nptb_lit (f : Nat → Value) (D : List Deferred) (x0 x1 x2 x3 x4 x5 x6 x7 x8 x9 x10 x11 x12 x13 x14 x15 x16 x17 x18 x19 x20 x21 x22 x23 x24 x25 x26 x27 x28 x29 x30 x31 x32 x33 x34 x35 x36 x37 x38 x39 x40 x41 x42 x43 x44 x45 x46 x47 x48 x49 x50 x51 x52 x53 x54 x55 x56 x57 x58 x59 x60 x61 x62 x63 x64 x65 x66 x67 x68 x69 x70 x71 x72 x73 x74 x75 x76 x77 x78 x79 x80 x81 x82 x83 x84 x85 x86 x87 x88 x89 x90 x91 x92 x93 x94 x95 x96 x97 x98 x99 x100 x101 x102 x103 x104 x105 x106 x107 x108 x109 x110 x111 x112 x113 x114 x115 x116 x117 x118 x119 x120 x121 x122 x123 x124 x125 x126 x127 x128 x129 x130 x131 x132 x133 x134 x135 x136 x137 x138 x139 x140 x141 x142 : Value) : putAll { tmps := #[x0, x1, x2, x3, x4, x5, x6, x7, x8, x9, x10, x11, x12, x13, x14, x15, x16, x17, x18, x19, x20, x21, x22, x23, x24, x25, x26, x27, x28, x29, x30, x31, x32, x33, x34, x35, x36, x37, x38, x39, x40, x41, x42, x43, x44, x45, x46, x47, x48, x49, x50, x51, x52, x53, x54, x55, x56, x57, x58, x59, x60, x61, x62, x63, x64, x65, x66, x67, x68, x69, x70, x71, x72, x73, x74, x75, x76, x77, x78, x79, x80, x81, x82, x83, x84, x85, x86, x87, x88, x89, x90, x91, x92, x93, x94, x95, x96, x97, x98, x99, x100, x101, x102, x103, x104, x105, x106, x107, x108, x109, x110, x111, x112, x113, x114, x115, x116, x117, x118, x119, x120, x121, x122, x123, x124, x125, x126, x127, x128, x129, x130, x131, x132, x133, x134, x135, x136, x137, x138, x139, x140, x141, x142], defers := D } (nptbDs.map some) (nptbDs.map f) = { tmps := #[x0, x1, x2, x3, x4, x5, x6, x7, x8, x9, x10, x11, x12, x13, x14, x15, x16, x17, f 18, f 19, x20, x21, x22, x23, x24, x25, x26, x27, x28, x29, x30, x31, x32, x33, x34, x35, x36, x37, x38, x39, x40, x41, x42, x43, x44, x45, x46, x47, x48, x49, x50, x51, x52, x53, x54, x55, x56, x57, x58, x59, x60, x61, x62, x63, x64, x65, x66, x67, x68, x69, x70, x71, x72, x73, x74, x75, x76, x77, x78, x79, x80, x81, x82, x83, x84, x85, x86, x87, x88, x89, x90, x91, x92, x93, x94, x95, x96, x97, x98, x99, x100, x101, x102, x103, x104, x105, x106, x107, x108, x109, x110, x111, x112, x113, x114, x115, x116, x117, x118, x119, x120, x121, f 122, f 123, f 124, f 125, f 126, f 127, f 128, f 129, f 130, f 131, f 132, f 133, f 134, f 135, x136, x137, x138, x139, x140, x141, x142], defers := D } := by kernel_rfl
end Go.Proofs.YtoobelcphcndoaaGreat
namespace Go.Proofs.YtoobelcphcndoaaGreat
open Go.RowKit Go.Sort
set_option linter.unusedVariables false
set_option linter.unusedSimpArgs false
set_option maxRecDepth 20000

/-- The parts of a leaf that can be. -/
theorem part_leaf {xs : List Rg} (h : (Nv.leaf xs).good) (hl : xs.length ≤ 1000) : (partsIt xs).flatten = xs ∧ ∀ t (ht : t < (partsIt xs).length), (Nv.leaf (partsIt xs)[t]).good ∧ (Nv.leaf (partsIt xs)[t]).fits = true ∧ (Nv.leaf (partsIt xs)[t]).small ∧ aheadB ((partsIt xs).take t).flatten (partsIt xs)[t] = true ∧ ((partsIt xs).take (t + 1)).flatten = ((partsIt xs).take t).flatten ++ (partsIt xs)[t] ∧ (((partsIt xs).take t).flatten.length + (partsIt xs)[t].length ≤ 1000) := by
  obtain ⟨h1, h2⟩ := ofE_ok h.1
  obtain ⟨a1, a2, a3, a4⟩ := parts_good xs.length xs (Nat.le_refl _) (List.all_eq_true.1 h1)
  refine ⟨a1, fun t ht => ?_⟩
  have hstep : ((partsIt xs).take (t + 1)).flatten = ((partsIt xs).take t).flatten ++ (partsIt xs)[t] := by
    rw [List.take_succ_eq_append_getElem ht, List.flatten_append]
    simp
  have hall : ((partsIt xs).take (t + 1)).flatten ++ ((partsIt xs).drop (t + 1)).flatten = xs := by
    rw [← List.flatten_append, List.take_append_drop, a1]
  have hris : Rising ((((partsIt xs).take t).flatten ++ (partsIt xs)[t]) ++ ((partsIt xs).drop (t + 1)).flatten) := by
    rw [← hstep, hall]
    exact h.2
  obtain ⟨r1, _, _⟩ := rising_join hris
  obtain ⟨r2, r3, r4⟩ := rising_join r1
  have hmem : ∀ x ∈ (partsIt xs)[t], x ∈ xs := fun x hx => by
    rw [← a1]
    exact List.mem_flatten.2 ⟨_, List.getElem_mem ht, hx⟩
  have hok : (partsIt xs)[t].all itOk = true := by
    rw [List.all_eq_true] at h1 ⊢
    exact fun x hx => h1 x (hmem x hx)
  have hlen : ((partsIt xs).take t).flatten.length + (partsIt xs)[t].length ≤ xs.length := by
    have := congrArg List.length hall
    rw [hstep, List.length_append, List.length_append] at this
    omega
  refine ⟨⟨ofE_of hok (rising_nodup _ r3), r3⟩, ?_, itOk_small hok (by omega), (aheadB_iff _ _ r2 r3).2 r4, hstep, by omega⟩
  show decide (wtL _ ≤ 240) = true
  exact decide_eq_true ((a2 _ (List.getElem_mem ht)).1)
theorem flat_many {α : Type} : ∀ L : List (List α), (∀ p ∈ L, p ≠ []) → L.length ≤ L.flatten.length
  | [], _ => Nat.le_refl _
  | p :: L, h => by
    have h1 := flat_many L (fun q hq => h q (List.mem_cons_of_mem _ hq))
    have h2 := List.length_pos_iff.2 (h p (List.mem_cons_self ..))
    rw [List.flatten_cons, List.length_append, List.length_cons]
    omega
theorem part_many {xs : List Rg} (h : (Nv.leaf xs).good) (hl : xs.length ≤ 1000) : (partsIt xs).length ≤ 1001 := by
  obtain ⟨h1, h2⟩ := ofE_ok h.1
  obtain ⟨a1, a2, a3, a4⟩ := parts_good xs.length xs (Nat.le_refl _) (List.all_eq_true.1 h1)
  by_cases hx : xs = []
  · have : wtL xs ≤ 240 := by subst hx; simp [wtL]
    rw [a4.2 this]
    omega
  · have := flat_many (partsIt xs) (fun p hp => (a2 p hp).2 hx)
    rw [a1] at this
    omega
/-- A part of an inner node whose kids are blocks. -/
theorem part_fits {d : Nd} (hd : NdOk d) (hk : kidsIn d.kids = true) (t : Nat) (ht : t < (partsN d).length) : (Nv.inn (partsN d)[t]).fits = decide (wtM (partsN d)[t].ms ≤ 180) ∧ (Nv.inn (partsN d)[t]).small := by
  have hp := parts_at d hd.1 t ht
  have hne : d.kids ≠ [] := ((goodN_iff _ _).1 hd.1).1
  have hpos : 0 < d.kids.length := List.length_pos_iff.2 hne
  have hm := lenP_most d.kids.length hpos
  have hle : lenP d.kids.length t ≤ lenP d.kids.length 0 := by
    rw [lenP_eq, lenP_eq]
    split <;> split <;> omega
  have hl : (partsN d)[t].kids.length ≤ 6 := by rw [hp.1]; omega
  have hin : kidsIn (partsN d)[t].kids = true := by
    unfold kidsIn at hk ⊢
    rw [List.all_eq_true] at hk ⊢
    intro k hkm
    refine hk k ?_
    have : ∀ x, (hx : x ∈ partsN d) → ∀ k ∈ x.kids, k ∈ d.kids := by
      intro x hx k hk3
      unfold partsN at hx
      split at hx
      · rw [List.mem_singleton] at hx
        subst hx
        exact hk3
      · obtain ⟨i, _, rfl⟩ := List.mem_map.1 hx
        unfold partN partKids at hk3
        exact List.mem_of_mem_take (List.mem_of_mem_drop hk3)
    exact this _ (List.getElem_mem ht) k hkm
  have hok := parts_ok d hd t ht
  refine ⟨?_, ⟨by omega, by have := hok.len; omega, good_small hok.2.1 (by have := hok.2.2.2.2; omega)⟩⟩
  show fitsN _ = _
  rw [fitsN_eq, hin, decide_eq_true hl]
  rfl

set_option maxHeartbeats 8000000 in
theorem nodeParts_any (b : Bool) (xs : List Rg) (hil : xs.length ≤ maxLen) (hiq : ∀ x ∈ xs, x.lo.length ≤ maxLen ∧ x.hi.length ≤ maxLen) (ks : List Int) (hkl : ks.length ≤ maxLen) (ps : List (List UInt8)) (hpl : ps.length ≤ maxLen) (hpq : ∀ x ∈ ps, x.length ≤ maxLen) (ms : List Mg) (hml : ms.length ≤ maxLen) (hmq : ∀ x ∈ ms, x.key.length ≤ maxLen ∧ x.val.length ≤ maxLen)
    (ia ka pa a : Option Addr) (ic kc pc c : Nat) (w : World) (hi : RgsAt w ia xs) (hic : ia = none → ic = 0) (hk : RowAt w noF ka (intsOf ks)) (hkc : ka = none → kc = 0) (hp : RowAt w noF pa (texts ps)) (hpc : pa = none → pc = 0) (hm : MsgsAt w noF a ms) (hc : a = none → c = 0) :
    Calls Tryz.prog 6 #[.agg #[.bool b, .slice ia xs.length ic, .slice ka ks.length kc, .slice pa ps.length pc, .slice a ms.length c]] w fun e w' => e = .returned (.bool true) ∧ Step noF w w' := by
  obtain ⟨W, hW⟩ : ∃ W, w.alloc (.cells #[.bool b, .slice ia xs.length ic, .slice ka ks.length kc, .slice pa ps.length pc, .slice a ms.length c] 29) = W := ⟨_, rfl⟩
  have S0 : Hid (Step noF w W) := by show Step _ _ _; rw [← hW]; exact (Step.refl _ _).alloc _
  have bx := ndBox_new w (.bool b) (.slice ia xs.length ic) (.slice ka ks.length kc) (.slice pa ps.length pc) (.slice a ms.length c)
  rw [hW] at bx
  obtain ⟨g0, hg0⟩ : ∃ g, w.heap.size = g := ⟨_, rfl⟩
  rw [hg0] at bx
  have BX := hid bx
  have HW := hid hW
  have HG := hid hg0
  have cGr := fun (u : World) (hu : Hid (Step noF w u)) => great12_any b xs hil hiq ks hkl ps hpl hpq ms hml hmq ia ka pa a ic kc pc c u (hi.step hu.out) (hp.step hu.out) (hm.stepB hu.out)
  have cMk := fun (hM : Modest xs ks ps ms) (u : World) (hu : Hid (Step noF w u)) => made12_any b xs ks ps ms hM ia ka pa a ic kc pc c u (hi.step hu.out) hic (hk.step hu.out) hkc (hp.step hu.out) hpc (hm.stepB hu.out) hc
  clear hi hk hp hm hic hkc hpc hc hil hiq hkl hpl hpq hml hmq hW bx hg0
  go_enter Tryz.func6, Tryz.ntmps6
  go_upto_region 1 with fail
  rw [HW.out, HG.out]
  clear HW HG
  go_wp2_with fail
  refine (awake12_any _).mono ?_
  rintro e w1 ⟨rfl, s1⟩
  have S1 := hid (S0.out.trans s1)
  have BX1 := hid (BX.out.step s1)
  obtain ⟨b0, b1, b2, b3, b4⟩ := BX1.out.all
  clear s1
  go_wp2_with fail
  refine (cGr _ S1).mono ?_
  rintro e w2 ⟨rfl | ⟨rfl, hM⟩, s2⟩
  · have S2 := hid (S1.out.trans s2)
    clear s2
    go_wp2_with fail
    go_ret
    exact ⟨rfl, S2.out⟩
  have S2 := hid (S1.out.trans s2)
  have BX2 := hid (BX1.out.step s2)
  have HM := hid hM
  clear s2 b0 b1 b2 b3 b4 hM
  obtain ⟨b0, b1, b2, b3, b4⟩ := BX2.out.all
  go_wp2_with fail
  refine (cMk HM.out _ S2).mono ?_
  rintro e w3 ⟨y, rfl, Z, SD⟩
  have S3 := hid (S2.out.trans SD.out)
  clear SD b0 b1 b2 b3 b4
  cases y with
  | none =>
    go_wp2_with fail
    go_ret
    exact ⟨rfl, S3.out⟩
  | some ad =>
  cases ho : mkR b xs ks ps ms with
  | none => rw [ho] at Z; exact absurd Z.out (fun h => h)
  | some v =>
  rw [ho] at Z
  obtain ⟨r, rfl, n3⟩ := Z.out
  obtain ⟨hg, hs⟩ := mkR_good ho HM.out
  have hmod := HM.out
  have cO := fun (u : World) => leafOf_any [] (by decide) none 0 u (.inl rfl) (fun _ => rfl)
  have HE : Hid (ofE [] = 0 ∧ sortL ([] : List Rg) = []) := ⟨by decide, sortL_of_rising _ (by simp [Rising])⟩
  rw [HE.out.1, HE.out.2] at cO
  cases v using Nv.two with
  | leaf ys =>
    have hyl : ys.length ≤ 1000 := by
      have := hmod.il
      unfold mkR at ho
      cases b with
      | true =>
        rw [if_pos rfl] at ho
        have h2 := (mkL_good ho (by omega)).2.2
        rw [Nv.leaf_one h2, sortL_length]
        omega
      | false =>
        rw [if_neg (by simp)] at ho
        have h2 := (mkI_good ho (by have := hmod.kl; omega) (by have := hmod.pl; omega) (by have := hmod.ml; omega)).2.2
        exact (Nv.not_inn h2).elim
    obtain ⟨q, c0, c1, hL⟩ := n3.cellL
    have NL := hid hL
    have KC := hid c0
    have HP := hid (part_leaf hg hyl)
    have HPM := hid (part_many hg hyl)
    have hok : ∀ x ∈ ys, itOk x = true := List.all_eq_true.1 (ofE_ok hg.1).1
    have cPt := fun (u : World) (hu : Hid (Step noF w3 u)) => parts_any q ys hs hok u (NL.out.step hu.out)
    have cSm := fun (z : Nat) (u : World) (hu : Hid (Step noF w3 u)) (h1 : Hid (LeafAt u z ys)) => same_any z q ys ys ⟨by omega, by omega⟩ u h1.out (NL.out.step hu.out)
    have hself : sameB ys ys = true := (sameB_iff _ _).2 rfl
    rw [hself] at cSm
    obtain ⟨P, hP⟩ : ∃ P, partsIt ys = P := ⟨_, rfl⟩
    rw [hP] at HP HPM
    simp only [hP] at cPt
    clear n3 hL ho Z hg hs hmod hok hself hP HE hyl
    go_wp2_with fail
    refine (cO _).mono ?_
    rintro e w4 ⟨s4, ⟨he, rfl⟩ | ⟨_, qa, rfl, hqa, LA⟩⟩
    · exact absurd rfl he
    have T4 := hid s4
    have A4 := hid LA
    have d0 := s4.after c0
    clear s4 LA hqa c0 cO
    go_wp2_with fail
    refine (ndLeaf_cell r _ _ d0).mono ?_
    rintro e w5 ⟨rfl, rfl⟩
    go_wp2_with fail
    refine (cPt _ T4).mono ?_
    rintro e w5 ⟨v, qs, rfl, hown, hLs, s5⟩
    obtain ⟨ap, cp, rfl, o1, o2, o3⟩ := owns_row1 hown
    have T5 := hid (T4.out.trans s5)
    have A5 := hid (A4.out.step s5)
    have R5 := hid o3
    have L5 := hid hLs
    have hlq : Hid (qs.length = P.length) := hLs.1
    obtain ⟨n, hn⟩ : ∃ n, qs.length = n := ⟨_, rfl⟩
    rw [hn]
    have HN := hid hn
    have hn1 : n ≤ 1001 := by have a1 := HPM.out; have a2 := hlq.out; omega
    clear hown o1 o2 o3 hLs s5 d0 T4 A4 cPt hn
    go_wp2_with fail
    go_loopw [4, 7] (fun s4 s7 wr => ∃ (j z : Nat), j ≤ n ∧ s4 = .pointer (some ⟨z, 0, none⟩) ∧ s7 = .int .i64 j ∧ Hid (LeafAt wr z (P.take j).flatten) ∧ Hid (Step noF w5 wr)) (fun _ i _ => n - (intOf i).toNat)
    case atStart => exact ⟨0, qa, Nat.zero_le _, rfl, rfl, A5.out, Step.refl _ _⟩
    case round =>
      obtain ⟨j, z, hj, rfl, rfl, HA, HS⟩ := hrel
      by_cases hjl : j < n
      · have hjz : (j : Int) < (n : Int) := by omega
        have hjq : j < qs.length := by have := HN.out; omega
        have hjp : j < P.length := by have := HN.out; have := hlq.out; omega
        obtain ⟨bb, off, rfl, xb⟩ := RowAt.at (f := fun q : Nat => Value.pointer (some ⟨q, 0, none⟩)) (rowAt_step R5.out HS.out (fun _ _ h => h)) j hjq
        obtain ⟨p1, p2, p3, p4, p5, p6⟩ := HP.out.2 j hjp
        have LJ := hid ((L5.out.2 j hjq hjp).step HS.out)
        have HE5 := hid p5
        obtain ⟨qj, hqj⟩ : ∃ x, qs[j] = x := ⟨_, rfl⟩
        obtain ⟨pj, hpj⟩ : ∃ x, P[j] = x := ⟨_, rfl⟩
        rw [hqj] at xb LJ
        rw [hpj] at p1 p2 p3 p4 p6 HE5 LJ
        have cB := fun (x : Nat) (u : World) (hu : Hid (NodeAt u x (.leaf pj))) => ndBytes_any x (.leaf pj) p3 p1 u hu.out
        simp only [(wr_of p2).1, (wr_of p2).2] at cB
        have hle := bytes_le _ p1 p2
        have hself := hid (isOf_self p1 p2)
        have cJ := fun (x : Nat) (u : World) (h1 : Hid (LeafAt u z (P.take j).flatten)) (h2 : Hid (LeafAt u x pj)) => join_any z x (P.take j).flatten pj (by omega) u h1.out h2.out
        have HAh := hid p4
        obtain ⟨BY, hBY⟩ : ∃ x, (Nv.leaf pj).bytes = x := ⟨_, rfl⟩
        rw [hBY] at hle hself
        simp only [hBY] at cB
        have cP := fun u => ndParse_any BY (by omega) u
        clear p1 p2 p3 p4 p5 p6 hqj hpj hBY hle
        go_wp2_with fail
        refine (ndOfLeaf_any qj pj _ LJ.out).mono ?_
        rintro e wa ⟨rfl, s, na⟩
        obtain ⟨x, hx⟩ : ∃ x, wr.heap.size = x := ⟨_, rfl⟩
        rw [hx] at na ⊢
        have NA := hid na
        have SA := hid s
        have HA1 := hid (HA.out.step s)
        clear s na hx
        go_wp2_with fail
        refine (cB x _ NA).mono ?_
        rintro e wb ⟨rfl, s⟩
        have SB := hid (SA.out.trans s)
        have HA2 := hid (HA1.out.step s)
        clear s cB NA HA1 SA
        go_wp2_with fail
        refine (cP _).mono ?_
        rintro e wc ⟨s, ⟨v2, r2, hv2, rfl, n2⟩ | ⟨hno, rfl⟩⟩
        rotate_left
        · exact absurd hself.out (hno _)
        have e1 := isOf_one hv2 hself.out
        subst e1
        obtain ⟨q2, k0, k1, hL2⟩ := n2.cellL
        have L2 := hid hL2
        have SC := hid (SB.out.trans s)
        have HA3 := hid (HA2.out.step s)
        clear s n2 hL2 hv2 cP HA2 SB k1
        go_wp2_with fail
        refine (ndLeaf_cell r2 _ _ k0).mono ?_
        rintro e wd ⟨rfl, rfl⟩
        go_wp2_with fail
        refine (cJ q2 _ HA3 L2).mono ?_
        rintro e we ⟨⟨h1, _⟩ | ⟨_, z2, rfl, _, hz2⟩, s⟩
        · rw [HAh.out] at h1; cases h1
        have SE := hid (SC.out.trans s)
        have HZ : Hid (LeafAt we z2 (P.take (j + 1)).flatten) := by rw [HE5.out]; exact hid hz2
        clear s hz2 cJ HA3 L2 k0
        go_wp2_with fail
        go_roundw
        case rel => exact ⟨j + 1, z2, by omega, rfl, int_eq (by omega), HZ.out, HS.out.trans SE.out⟩
        case measure => simp [intOf]; omega
      · obtain rfl : j = n := by omega
        have HF : Hid (LeafAt wr z ys) := by
          have h1 := HA.out
          have h2 := HN.out
          have h3 := hlq.out
          rw [List.take_of_length_le (by omega), HP.out.1] at h1
          exact h1
        have T9 := hid (T5.out.trans HS.out)
        have d0 := T9.out.after KC.out
        have S9 := hid (S3.out.trans T9.out)
        go_wp2_with fail
        refine (ndIsLeaf_some r q _ d0).mono ?_
        rintro e wa ⟨rfl, rfl⟩
        go_wp2_with fail
        refine (ndLeaf_cell r _ _ d0).mono ?_
        rintro e wa ⟨rfl, rfl⟩
        go_wp2_with fail
        refine (cSm z _ T9 HF).mono ?_
        rintro e wa ⟨rfl, s⟩
        have SZ := hid (S9.out.trans s)
        clear s
        go_wp2_with fail
        go_ret
        exact ⟨rfl, SZ.out⟩
  | inn d =>
    have hdl : d.kids.length ≤ 30 ∧ d.pivs.length ≤ 30 ∧ d.ms.length ≤ 40 := by
      have m1 := hmod.il
      have m2 := hmod.kl
      have m3 := hmod.pl
      have m4 := hmod.ml
      unfold mkR at ho
      cases b with
      | true =>
        rw [if_pos rfl] at ho
        have h2 := (mkL_good ho (by omega)).2.2
        exact (Nv.not_leaf h2).elim
      | false =>
        rw [if_neg (by simp)] at ho
        have h2 := (mkI_good ho (by omega) (by omega) (by omega)).2.2
        have := putsM_len ms []
        rw [Nv.inn_one h2]
        simp at this
        exact ⟨m2, m3, by show (putsM ms []).length ≤ 40; omega⟩
    have OK : Hid (NdOk d) := ⟨hg.1, hg.2.1, hg.2.2, by omega, by omega⟩
    obtain ⟨q, c0, c1, hI⟩ := n3.cellI
    have NI := hid hI
    have KC := hid c0
    have KD := hid c1
    have cKd := fun (u : World) (hu : Hid (Step noF w3 u)) => ndKids_inn r q d (by omega) u (hu.out.after KD.out) (NI.out.step hu.out)
    have cPt := fun (u : World) (hu : Hid (Step noF w3 u)) => partsNd_any q d OK.out u (NI.out.step hu.out)
    have cSm := fun (z : Nat) (u : World) (hu : Hid (Step noF w3 u)) (h1 : Hid (InnerAt u z d)) => sameNd_any z q d d ⟨⟨by omega, by omega, by omega⟩, by omega, by omega, by omega⟩ u h1.out (NI.out.step hu.out)
    rw [(sameN_iff d d).2 rfl] at cSm
    have hkpos : 0 < d.kids.length := List.length_pos_iff.2 ((goodN_iff _ _).1 hg.1).1
    have hcdef : countN d.kids.length = (d.kids.length + 5) / 6 := rfl
    have hpl2 := partsN_len d ((goodN_iff _ _).1 hg.1).1
    have hbl2 := betweenN_len d ((goodN_iff _ _).1 hg.1).1
    clear n3 hI ho Z hg hs hmod HE
    go_wp2_with fail
    refine (cO _).mono ?_
    rintro e w4 ⟨s4, ⟨he, rfl⟩ | ⟨_, qa, rfl, hqa, LA⟩⟩
    · exact absurd rfl he
    have T4 := hid s4
    have d0 := s4.after c0
    have d1 := s4.after c1
    clear s4 LA hqa c0 c1 cO
    go_wp2_with fail
    refine (ndLeaf_cell r _ _ d0).mono ?_
    rintro e w5 ⟨rfl, rfl⟩
    go_wp2_with fail
    refine (parts_nil _).mono ?_
    rintro e w5 ⟨rfl, rfl⟩
    go_wp2_with fail
    go_loopw [4, 7] (fun s4 s7 wr => s4 = .pointer (some ⟨qa, 0, none⟩) ∧ s7 = .int .i64 0 ∧ wr = w4) (fun _ _ _ => 0)
    case atStart => exact ⟨rfl, rfl, rfl⟩
    case round =>
      obtain ⟨rfl, rfl, hwr⟩ := hrel
      rw [hwr]
      clear hwr
      go_wp2_with fail
      refine (ndIsLeaf_none r _ d0).mono ?_
      rintro e w5 ⟨rfl, rfl⟩
      go_wp2_with fail
      refine (cKd _ T4).mono ?_
      rintro e w5 ⟨ka2, kc2, rfl, A5, S5⟩
      have T5 := hid (T4.out.trans S5.out)
      have R5 : Hid (RowAt w5 noF ka2 (intsOf d.kids)) := A5.out.2.2
      clear A5 S5 T4 cKd d0 d1
      obtain ⟨n, hn⟩ : ∃ n, d.kids.length = n := ⟨_, rfl⟩
      obtain ⟨cc, hcc⟩ : ∃ x, countN n = x := ⟨_, rfl⟩
      have HN := hid hn
      have HCC := hid hcc
      rw [hn]
      rw [hn, hcc] at hpl2 hbl2 hcdef
      simp only [hn, hcc] at cPt
      rw [hn] at hkpos hdl
      have hc0 : 0 < cc := by omega
      have hcn : cc ≤ n := by omega
      have hc6 : cc ≤ 6 := by omega
      clear hcc hn hcdef
      go_wp2_with fail
      go_loopw [13] (fun i wr => ∃ (j : Nat), j ≤ n ∧ i = .int .i64 j ∧ Hid (kidsIn (d.kids.take j) = true) ∧ Hid (Step noF w5 wr)) (fun i _ => n - (intOf i).toNat)
      case atStart => exact ⟨0, Nat.zero_le _, rfl, (by show _ = _; rfl), Step.refl _ _⟩
      case round =>
        obtain ⟨j, hj, rfl, HA, HS⟩ := hrel
        by_cases hjl : j < n
        · have hjz : (j : Int) < (n : Int) := by omega
          have hjk : j < d.kids.length := by have := HN.out; omega
          obtain ⟨g, off, rfl, c0⟩ := ints_get (rowAt_step R5.out HS.out (fun _ _ h => h)) j hjk
          have HT := hid (kidsIn_take d.kids j hjk)
          obtain ⟨z, hz⟩ : ∃ m, d.kids[j] = m := ⟨_, rfl⟩
          rw [hz] at c0 HT
          clear hz
          by_cases hi : 512 ≤ z
          · have SZ := hid (S3.out.trans (T5.out.trans HS.out))
            go_wp2_with fail
            go_ret
            exact ⟨rfl, SZ.out⟩
          · have HT2 : Hid (kidsIn (d.kids.take (j + 1)) = true) := by
              show _ = _
              rw [HT.out, HA.out]
              simp; omega
            go_wp2_with fail
            go_roundw
            case rel => exact ⟨j + 1, by omega, int_eq (by omega), HT2, HS⟩
            case measure => simp [intOf]; omega
        · obtain rfl : j = n := by omega
          have KIN : Hid (kidsIn d.kids = true) := by
            have h1 := HA.out
            rw [List.take_of_length_le (by have := HN.out; omega)] at h1
            exact h1
          have T6 := hid (T5.out.trans HS.out)
          have d1 := T6.out.after KD.out
          clear HA HS T5 R5 hjl
          go_wp2_with fail
          refine (ndInner_cell r _ _ d1).mono ?_
          rintro e w6 ⟨rfl, rfl⟩
          go_wp2_with fail
          refine (cPt _ T6).mono ?_
          rintro e w7 ⟨v1, v2, rfl, ⟨g, qs, rfl, hql, hqr, hqi⟩, ⟨ba, bc, rfl, hbr⟩, s7⟩
          have T7 := hid (T6.out.trans s7.out)
          have HQR := hid hqr
          have HQI := hid hqi
          have HBR := hid hbr
          clear s7 hqr hqi hbr cPt d1 T6
          have rowq : ∀ w', Step noF w7 w' → ∀ t (h : t < cc), ∃ q, w'.cell? ⟨g, t, none⟩ = some (.pointer (some ⟨q, 0, none⟩)) ∧ ∃ h1 : t < (partsN d).length, InnerAt w' q (partsN d)[t] := fun w' hs t ht => by
            have ht2 : t < qs.length := by omega
            have h1 : t < (partsN d).length := by omega
            refine ⟨qs[t], ?_, h1, (HQI.out t ht2 h1).step hs⟩
            obtain ⟨b, off, e, h⟩ := RowAt.at (f := fun q : Nat => Value.pointer (some ⟨q, 0, none⟩)) (rowAt_step HQR.out hs (fun _ _ h => h)) t ht2
            injection e with e
            injection e with e1 e2 _
            rw [← e1, ← e2, Nat.zero_add] at h
            exact h
          obtain ⟨q0, y0, hx0, i0⟩ := rowq w7 (Step.refl _ _) 0 hc0
          have HF : Hid (InnerAt w7 q0 (headN d cc 1)) := by
            have := head_first d OK.out hx0
            rw [HN.out, HCC.out] at this
            show InnerAt _ _ _
            rw [← this]
            exact i0
          have ROWQ := hid rowq
          have z8 : (0 : Int) < (cc : Int) := by omega
          clear i0 rowq
          go_wp2_with fail
          go_loopg [16, 17] cc (fun kx s16 s17 wr => ∃ (j z : Nat), s17 = .int .i64 j ∧ s16 = .pointer (some ⟨z, 0, none⟩) ∧ j ≤ cc ∧ cc - j ≤ kx ∧ Hid (InnerAt wr z (headN d cc (max j 1))) ∧ Hid (Step noF w7 wr))
          case atStart => exact ⟨0, q0, rfl, rfl, Nat.zero_le _, by omega, HF.out, Step.refl _ _⟩
          case round =>
            obtain ⟨j, z, rfl, rfl, hj, hkx, HA, HS⟩ := hrel
            by_cases hjl : j < cc
            · have hjz : (j : Int) < (cc : Int) := by omega
              obtain ⟨qj, yj, hxj, ij⟩ := ROWQ.out wr HS.out j hjl
              have hpf := part_fits OK.out KIN.out j hxj
              have hokp := parts_ok d OK.out j hxj
              have IJ := hid ij
              obtain ⟨PJ, hPJ⟩ : ∃ x, (partsN d)[j] = x := ⟨_, rfl⟩
              rw [hPJ] at hpf IJ hokp
              have HPJ := hid hPJ
              obtain ⟨WJ, hWJ⟩ : ∃ x, wtM PJ.ms = x := ⟨_, rfl⟩
              obtain ⟨BJ, hBJ⟩ : ∃ x, decide (WJ ≤ 180) = x := ⟨_, rfl⟩
              have lwj : decide ((WJ : Int) ≤ 180) = BJ := by rw [← hBJ, decide_eq_decide]; omega
              rw [hWJ, hBJ] at hpf
              have c110 : ∀ w', Step noF wr w' → Calls Tryz.prog 21 #[.pointer (some ⟨qj, 0, none⟩)] w' fun e w'' => ∃ v, e = .returned v ∧ Step noF w' w'' ∧ ∃ x, v = .pointer (some ⟨x, 0, none⟩) ∧ NodeAt w'' x (.inn PJ) := fun w' hs => by
                refine (ndOfInner_any qj PJ w' (IJ.out.step hs)).mono ?_
                rintro e w'' ⟨rfl, s, hN⟩
                exact ⟨_, rfl, s, _, rfl, hN⟩
              have c111 : ∀ x w', Step noF wr w' → NodeAt w' x (.inn PJ) → Calls Tryz.prog 12 #[.pointer (some ⟨x, 0, none⟩)] w' fun e w'' => e = .returned (.bool BJ) ∧ Step noF w' w'' := fun x w' hs hN => by
                refine (ndFits_any x _ hpf.2 w' hN).mono ?_
                rintro e w'' ⟨rfl, s⟩
                exact ⟨by rw [hpf.1], s⟩
              have c116 : ∀ w', Step noF wr w' → Calls Tryz.prog 31 #[.pointer (some ⟨qj, 0, none⟩)] w' fun e w'' => ∃ v, e = .returned v ∧ Step noF w' w'' ∧ ∃ x, v = .pointer (some ⟨x, 0, none⟩) ∧ BuffAt w'' x PJ.ms := fun w' hs => by
                refine (buffN_any qj PJ w' (IJ.out.step hs)).mono ?_
                rintro e w'' ⟨x, rfl, hN, rfl⟩
                exact ⟨_, rfl, Step.refl _ _, _, rfl, hN.out⟩
              have c117 : ∀ x w', Step noF wr w' → BuffAt w' x PJ.ms → Calls Tryz.prog 32 #[.pointer (some ⟨x, 0, none⟩)] w' fun e w'' => e = .returned (.int .i64 WJ) ∧ Step noF w' w'' := fun x w' hs hN => by
                refine (weightB_any x PJ.ms hpf.2.2.2 w' hN).mono ?_
                rintro e w'' ⟨rfl, s⟩
                exact ⟨by rw [hWJ], s⟩
              have BAD := hid ij
              clear hpf hokp hWJ hBJ hPJ ij
              have ejm : 0 < j → (j : Int) - 1 = ((j - 1 : Nat) : Int) := fun h => by omega
              obtain ⟨jm, hjm⟩ : ∃ x, j - 1 = x := ⟨_, rfl⟩
              have hjm2 := hid hjm
              rw [hjm] at ejm
              have EJM := hid ejm
              clear ejm hjm
              go_upto_region 35 with fail
              go_cut [119] from 106 to 138 (fun s119 wx => s119 = .bool false ∧ Hid (Step noF wr wx))
              case first =>
                change Code.wp _ (Code.region 35 ((Tryz.f6.body.bind (regionOps 35)).getD #[]) true) _ _ _
                refine npta_go g cc j qj WJ BJ PJ wr yj hjz lwj c110 c111 c116 c117 _ rfl rfl rfl ?_
                intro ff wz sz e119
                have e119' : ff 119 = .bool false := e119
                have SZ := hid sz
                clear sz e119 c110 c111 c116 c117
                rw [npta_lit, e119']
                go_wp2_with fail
                go_meet
                exact ⟨rfl, SZ.out⟩
              case rest =>
                obtain ⟨rfl, SX⟩ := hcut
                have yj' := SX.out.after yj
                have HA1 := hid (HA.out.step SX.out)
                have HS1 := hid (HS.out.trans SX.out)
                clear c110 c111 c116 c117 yj lwj HA HS
                by_cases hj0 : 0 < j
                · have hj0z : (0 : Int) < (j : Int) := by omega
                  have e1 := EJM.out hj0
                  have ejn : jm + 1 = j := by have := hjm2.out; omega
                  have wjm : IntKind.i64.wrap (jm : Int) = (jm : Int) := by rw [IntKind.wrap_i64]; omega
                  have ljm : (jm : Int) < ((cc - 1 : Nat) : Int) := by omega
                  have hbj : jm < (betweenN d).length := by omega
                  obtain ⟨b, off, hba, xb⟩ := texts_get (rowAt_step HBR.out HS1.out (fun _ _ h => h)) jm hbj
                  have hnext := head_next d OK.out j (by omega) (by rw [HN.out, HCC.out]; exact hjl) hxj (by have := hjm2.out; omega)
                  simp only [hjm2.out] at hnext
                  rw [HN.out, HCC.out] at hnext
                  have hokh := head_ok d OK.out cc j hc0 (by rw [HN.out]; omega) hj0 (by omega)
                  have hokp := parts_ok d OK.out j hxj
                  have hmx : max j 1 = j := by omega
                  rw [hmx] at HA1
                  have hm1 : joinN (headN d cc j) (betweenN d)[jm] (partsN d)[j] = headN d cc (j + 1) := hnext.1
                  have hm2 : goodN (joinN (headN d cc j) (betweenN d)[jm] (partsN d)[j]).kids (joinN (headN d cc j) (betweenN d)[jm] (partsN d)[j]).pivs = true := hnext.2
                  rw [HPJ.out] at hm1 hm2 hokp
                  clear hnext
                  have c133 : ∀ w', Step noF wc w' → Calls Tryz.prog 33 #[.pointer (some ⟨z, 0, none⟩), .string (str (betweenN d)[jm]), .pointer (some ⟨qj, 0, none⟩)] w' fun e w'' => ∃ v, e = .returned v ∧ Step noF w' w'' ∧ ∃ x, v = .tuple #[.pointer (some ⟨x, 0, none⟩), .int .i64 0] ∧ InnerAt w'' x (headN d cc (j + 1)) := fun w' hs => by
                    refine (joinN_any z qj (headN d cc j) PJ hokh hokp (betweenN d)[jm] w' (HA1.out.step hs) (IJ.out.step (SX.out.trans hs))).mono ?_
                    rintro e w'' ⟨hm, s⟩
                    rcases hm with ⟨h1, _⟩ | ⟨_, x, rfl, hi⟩
                    · rw [hm2] at h1; cases h1
                    · rw [hm1] at hi
                      exact ⟨_, rfl, s, x, rfl, hi⟩
                  obtain ⟨PV, hPV⟩ : ∃ P, (betweenN d)[jm] = P := ⟨_, rfl⟩
                  rw [hPV] at xb c133
                  subst hba
                  clear hm1 hm2 hokh hokp hPV
                  go_upto_region 38 with fail
                  go_cut [18, 19] from 122 to 138 (fun s18 s19 wx => ∃ x, s18 = .pointer (some ⟨x, 0, none⟩) ∧ s19 = .int .i64 0 ∧ Hid (InnerAt wx x (headN d cc (j + 1))) ∧ Hid (Step noF wc wx))
                  case first =>
                    change Code.wp _ (Code.region 38 ((Tryz.f6.body.bind (regionOps 38)).getD #[]) true) _ _ _
                    refine nptb_go z b off (cc - 1) bc j jm g cc qj PV (headN d cc (j + 1)) wc xb yj' e1 wjm ljm hjz c133 _ rfl rfl rfl rfl rfl ?_
                    intro ff wz sz e18 e19
                    obtain ⟨x, e18', hx⟩ := e18
                    have e19' : ff 19 = .int .i64 0 := e19
                    have HX := hid hx
                    have SZ := hid sz
                    clear sz hx e19 c133
                    rw [nptb_lit, e18', e19']
                    go_wp2_with fail
                    go_meet
                    exact ⟨x, rfl, rfl, HX.out, SZ.out⟩
                  case rest =>
                    obtain ⟨x, rfl, rfl, HX, SY⟩ := hcut
                    have S9 := hid (HS1.out.trans SY.out)
                    have hmy : max (j + 1) 1 = j + 1 := by omega
                    clear c133 xb yj' e1 wjm ljm
                    go_wp2_with fail
                    go_roundg (cc - (j + 1))
                    case measure => omega
                    case rel => exact ⟨j + 1, x, by simp, rfl, by omega, Nat.le_refl _, by rw [hmy]; exact HX, S9.out⟩
                · obtain rfl : j = 0 := by omega
                  go_wp2_with fail
                  go_roundg (cc - (0 + 1))
                  case measure => omega
                  case rel => exact ⟨0 + 1, z, by simp, rfl, by omega, Nat.le_refl _, HA1.out, HS1.out⟩
            · obtain rfl : j = cc := by omega
              have hmx : max j 1 = j := by omega
              have hall : headN d j j = d := head_all d OK.out.1 j hc0
              have HA2 : Hid (InnerAt wr z d) := by
                show InnerAt _ _ _
                have h1 := HA.out
                rw [hmx, hall] at h1
                exact h1
              have T9 := hid (T7.out.trans HS.out)
              have d1 := T9.out.after KD.out
              have S9 := hid (S3.out.trans T9.out)
              clear hall hmx HA
              go_wp2_with fail
              refine (ndInner_cell r _ _ d1).mono ?_
              rintro e wa ⟨rfl, rfl⟩
              go_wp2_with fail
              refine (cSm z _ T9 HA2).mono ?_
              rintro e wa ⟨rfl, s⟩
              have SZ := hid (S9.out.trans s)
              clear s
              go_wp2_with fail
              go_ret
              exact ⟨rfl, SZ.out⟩
end Go.Proofs.YtoobelcphcndoaaGreat
