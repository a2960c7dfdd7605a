/-
  Of every node the parts, and of every two what both are, are the document's; of nil there is nothing: for every input, with no condition.
  The region that draws in grangerlaw11.InnerParts (number 18), operation by operation. Written by draw6.py.
  The region that draws in grangerlaw11.InnerParts (number 18), operation by operation. Written by draw6.py.
  The region that draws in grangerlaw11.InnerParts (number 22), operation by operation. Written by draw6.py.
  The region that draws in grangerlaw11.InnerParts (number 22), operation by operation. Written by draw6.py.
  The region that draws in grangerlaw11.InnerParts (number 34), operation by operation. Written by draw6.py.
  What the law InnerParts asks, walked.
-/
import Derived.Test.YtgmgoaencaldmaaGreatDraw
import Derived.Test.YtgmgoaencaldmaaGreatInRA
import Derived.Test.YtgmgoaencaldmaaGreatInRP
import Derived.Deep.LoopGhost
import Derived.Test.YtgmgoaencaldmaaGreatInOpen
namespace Go.Proofs.YtgmgoaencaldmaaGreat
open Go.RowKit
set_option linter.unusedVariables false
set_option linter.unusedSimpArgs false


def iptaDs : List Nat := [143, 144, 145, 146, 147, 148, 149, 150, 151, 152, 153, 154, 155, 156, 157, 158, 159, 160, 161, 162, 163, 164, 165, 166, 167, 168, 169, 170, 171, 172, 173, 174, 175, 176, 177]
def iptaDl : List (Option Nat) := [some 143, some 144, some 145, some 146, some 147, some 148, some 149, some 150, some 151, some 152, some 153, some 154, some 155, some 156, some 157, some 158, some 159, some 160, some 161, some 162, some 163, some 164, some 165, some 166, some 167, some 168, some 169, some 170, some 171, some 172, some 173, some 174, some 175, some 176, some 177]
theorem ipta_dl : ((Tryz.f5.body.bind (regionOps 18)).getD #[]).toList.map (·.dst) = iptaDl := by kernel_rfl
theorem ipta_back : backB ((Tryz.f5.body.bind (regionOps 18)).getD #[]) = true := by kernel_rfl
theorem ipta_size : ((Tryz.f5.body.bind (regionOps 18)).getD #[]).size = 35 := by kernel_rfl
theorem ipta_nd : iptaDl.Pairwise (fun x y => x = none ∨ x ≠ y) := by decide
theorem ipta_lt (d : Nat) (h : some d ∈ iptaDl) : d < 331 := by
  have hh : iptaDl.all (fun o => o.all (fun d => decide (d < 331))) = true := by decide
  simpa using List.all_eq_true.1 hh _ h
theorem iptaOp0 : opIs ((Tryz.f5.body.bind (regionOps 18)).getD #[]) 0 (some 143) (Op.move (Operand.tmp 15)) (none) := opIs_of (by kernel_rfl)
theorem iptaOp1 : opIs ((Tryz.f5.body.bind (regionOps 18)).getD #[]) 1 (some 144) (Op.move (Operand.tmp 19)) (none) := opIs_of (by kernel_rfl)
theorem iptaOp2 : opIs ((Tryz.f5.body.bind (regionOps 18)).getD #[]) 2 (some 145) (Op.indexAddr 61 (Operand.tmp 143) (Operand.tmp 144)) (none) := opIs_of (by kernel_rfl)
theorem iptaOp3 : opIs ((Tryz.f5.body.bind (regionOps 18)).getD #[]) 3 (some 146) (Op.load 29 (Operand.tmp 145)) (none) := opIs_of (by kernel_rfl)
theorem iptaOp4 : opIs ((Tryz.f5.body.bind (regionOps 18)).getD #[]) 4 (some 147) (Op.binOp BinOp.eql 29 (Operand.tmp 146) (Operand.const (Value.pointer none)) 29) (none) := opIs_of (by kernel_rfl)
theorem iptaOp5 : opIs ((Tryz.f5.body.bind (regionOps 18)).getD #[]) 5 (some 148) (Op.move (Operand.tmp 147)) (none) := opIs_of (by kernel_rfl)
theorem iptaOp6 : opIs ((Tryz.f5.body.bind (regionOps 18)).getD #[]) 6 (some 149) (Op.move (Operand.tmp 15)) (some (5, false)) := opIs_of (by kernel_rfl)
theorem iptaOp7 : opIs ((Tryz.f5.body.bind (regionOps 18)).getD #[]) 7 (some 150) (Op.move (Operand.tmp 19)) (some (5, false)) := opIs_of (by kernel_rfl)
theorem iptaOp8 : opIs ((Tryz.f5.body.bind (regionOps 18)).getD #[]) 8 (some 151) (Op.indexAddr 61 (Operand.tmp 149) (Operand.tmp 150)) (some (5, false)) := opIs_of (by kernel_rfl)
theorem iptaOp9 : opIs ((Tryz.f5.body.bind (regionOps 18)).getD #[]) 9 (some 152) (Op.load 29 (Operand.tmp 151)) (some (5, false)) := opIs_of (by kernel_rfl)
theorem iptaOp10 : opIs ((Tryz.f5.body.bind (regionOps 18)).getD #[]) 10 (some 153) (Op.call { callee := Callee.value (Operand.func 11), args := #[Operand.tmp 152], argTypes := #[29] }) (some (5, false)) := opIs_of (by kernel_rfl)
theorem iptaOp11 : opIs ((Tryz.f5.body.bind (regionOps 18)).getD #[]) 11 (some 154) (Op.move (Operand.tmp 17)) (some (5, false)) := opIs_of (by kernel_rfl)
theorem iptaOp12 : opIs ((Tryz.f5.body.bind (regionOps 18)).getD #[]) 12 (some 155) (Op.move (Operand.tmp 19)) (some (5, false)) := opIs_of (by kernel_rfl)
theorem iptaOp13 : opIs ((Tryz.f5.body.bind (regionOps 18)).getD #[]) 13 (some 156) (Op.indexAddr 64 (Operand.tmp 154) (Operand.tmp 155)) (some (5, false)) := opIs_of (by kernel_rfl)
theorem iptaOp14 : opIs ((Tryz.f5.body.bind (regionOps 18)).getD #[]) 14 (some 157) (Op.load 34 (Operand.tmp 156)) (some (5, false)) := opIs_of (by kernel_rfl)
theorem iptaOp15 : opIs ((Tryz.f5.body.bind (regionOps 18)).getD #[]) 15 (some 158) (Op.call { callee := Callee.value (Operand.func 10), args := #[Operand.tmp 153, Operand.tmp 157], argTypes := #[34, 34] }) (some (5, false)) := opIs_of (by kernel_rfl)
theorem iptaOp16 : opIs ((Tryz.f5.body.bind (regionOps 18)).getD #[]) 16 (some 159) (Op.unOp UnOp.not 4 (Operand.tmp 158)) (some (5, false)) := opIs_of (by kernel_rfl)
theorem iptaOp17 : opIs ((Tryz.f5.body.bind (regionOps 18)).getD #[]) 17 (some 160) (Op.pick (Operand.tmp 148) (Operand.const (Value.bool true)) (Operand.tmp 159)) (none) := opIs_of (by kernel_rfl)
theorem iptaOp18 : opIs ((Tryz.f5.body.bind (regionOps 18)).getD #[]) 18 (some 161) (Op.move (Operand.tmp 160)) (none) := opIs_of (by kernel_rfl)
theorem iptaOp19 : opIs ((Tryz.f5.body.bind (regionOps 18)).getD #[]) 19 (some 162) (Op.move (Operand.tmp 19)) (some (18, false)) := opIs_of (by kernel_rfl)
theorem iptaOp20 : opIs ((Tryz.f5.body.bind (regionOps 18)).getD #[]) 20 (some 163) (Op.binOp BinOp.gtr 3 (Operand.tmp 162) (Operand.const (Value.int IntKind.i64 0)) 3) (some (18, false)) := opIs_of (by kernel_rfl)
theorem iptaOp21 : opIs ((Tryz.f5.body.bind (regionOps 18)).getD #[]) 21 (some 164) (Op.move (Operand.tmp 163)) (some (18, false)) := opIs_of (by kernel_rfl)
theorem iptaOp22 : opIs ((Tryz.f5.body.bind (regionOps 18)).getD #[]) 22 (some 165) (Op.move (Operand.tmp 16)) (some (21, true)) := opIs_of (by kernel_rfl)
theorem iptaOp23 : opIs ((Tryz.f5.body.bind (regionOps 18)).getD #[]) 23 (some 166) (Op.move (Operand.tmp 19)) (some (21, true)) := opIs_of (by kernel_rfl)
theorem iptaOp24 : opIs ((Tryz.f5.body.bind (regionOps 18)).getD #[]) 24 (some 167) (Op.binOp BinOp.sub 3 (Operand.tmp 166) (Operand.const (Value.int IntKind.i64 1)) 3) (some (21, true)) := opIs_of (by kernel_rfl)
theorem iptaOp25 : opIs ((Tryz.f5.body.bind (regionOps 18)).getD #[]) 25 (some 168) (Op.indexAddr 23 (Operand.tmp 165) (Operand.tmp 167)) (some (21, true)) := opIs_of (by kernel_rfl)
theorem iptaOp26 : opIs ((Tryz.f5.body.bind (regionOps 18)).getD #[]) 26 (some 169) (Op.load 9 (Operand.tmp 168)) (some (21, true)) := opIs_of (by kernel_rfl)
theorem iptaOp27 : opIs ((Tryz.f5.body.bind (regionOps 18)).getD #[]) 27 (some 170) (Op.move (Operand.tmp 18)) (some (21, true)) := opIs_of (by kernel_rfl)
theorem iptaOp28 : opIs ((Tryz.f5.body.bind (regionOps 18)).getD #[]) 28 (some 171) (Op.move (Operand.tmp 19)) (some (21, true)) := opIs_of (by kernel_rfl)
theorem iptaOp29 : opIs ((Tryz.f5.body.bind (regionOps 18)).getD #[]) 29 (some 172) (Op.binOp BinOp.sub 3 (Operand.tmp 171) (Operand.const (Value.int IntKind.i64 1)) 3) (some (21, true)) := opIs_of (by kernel_rfl)
theorem iptaOp30 : opIs ((Tryz.f5.body.bind (regionOps 18)).getD #[]) 30 (some 173) (Op.indexAddr 23 (Operand.tmp 170) (Operand.tmp 172)) (some (21, true)) := opIs_of (by kernel_rfl)
theorem iptaOp31 : opIs ((Tryz.f5.body.bind (regionOps 18)).getD #[]) 31 (some 174) (Op.load 9 (Operand.tmp 173)) (some (21, true)) := opIs_of (by kernel_rfl)
theorem iptaOp32 : opIs ((Tryz.f5.body.bind (regionOps 18)).getD #[]) 32 (some 175) (Op.binOp BinOp.neq 9 (Operand.tmp 169) (Operand.tmp 174) 9) (some (21, true)) := opIs_of (by kernel_rfl)
theorem iptaOp33 : opIs ((Tryz.f5.body.bind (regionOps 18)).getD #[]) 33 (some 176) (Op.pick (Operand.tmp 164) (Operand.tmp 175) (Operand.const (Value.bool false))) (some (18, false)) := opIs_of (by kernel_rfl)
theorem iptaOp34 : opIs ((Tryz.f5.body.bind (regionOps 18)).getD #[]) 34 (some 177) (Op.pick (Operand.tmp 161) (Operand.const (Value.bool true)) (Operand.tmp 176)) (none) := opIs_of (by kernel_rfl)
/-- What is said of each slot. -/
def iptaSp (b g q n gc jx : Nat) (P0 P1 P2 : Value) (D : Nd) (i : Nat) (w : World) (v : Value) : Prop := match i with
  | 0 => v = .slice (some ⟨b, 0, none⟩) n n
  | 1 => v = .int .i64 jx
  | 2 => v = .pointer (some ⟨b, jx, none⟩)
  | 3 => v = .pointer (some ⟨q, 0, none⟩)
  | 4 => v = .bool false
  | 5 => v = .bool false
  | 6 => v = .slice (some ⟨b, 0, none⟩) n n
  | 7 => v = .int .i64 jx
  | 8 => v = .pointer (some ⟨b, jx, none⟩)
  | 9 => v = .pointer (some ⟨q, 0, none⟩)
  | 10 => ∃ x, v = x ∧ NdV w D x
  | 11 => v = .slice (some ⟨g, 0, none⟩) n gc
  | 12 => v = .int .i64 jx
  | 13 => v = .pointer (some ⟨g, jx * 3, none⟩)
  | 14 => v = .agg #[P0, P1, P2]
  | 15 => v = .bool true
  | 16 => v = .bool false
  | 17 => v = .bool false
  | 18 => v = .bool false
  | 19 => v = .int .i64 jx
  | 20 => v = .bool false
  | 21 => v = .bool false
  | 22 => v = undef
  | 23 => v = undef
  | 24 => v = undef
  | 25 => v = undef
  | 26 => v = undef
  | 27 => v = undef
  | 28 => v = undef
  | 29 => v = undef
  | 30 => v = undef
  | 31 => v = undef
  | 32 => v = undef
  | 33 => v = .bool false
  | 34 => v = .bool false
  | _ => True
theorem iptaKeep153 (b g q n gc jx : Nat) (P0 P1 P2 : Value) (D : Nd) {w w' : World} {v : Value} (hs : Step noF w w') (h : ∃ x, v = x ∧ NdV w D x) : ∃ x, v = x ∧ NdV w' D x := by
  obtain ⟨x, h1, h2⟩ := h; exact ⟨x, h1, h2.step hs⟩
theorem iptaSp_mono (b g q n gc jx : Nat) (P0 P1 P2 : Value) (D : Nd) : ∀ i w w' v, Step noF w w' → iptaSp b g q n gc jx P0 P1 P2 D i w v → iptaSp b g q n gc jx P0 P1 P2 D i w' v := by
  intro i w w' v hs h
  match i with
  | 0 => exact h
  | 1 => exact h
  | 2 => exact h
  | 3 => exact h
  | 4 => exact h
  | 5 => exact h
  | 6 => exact h
  | 7 => exact h
  | 8 => exact h
  | 9 => exact h
  | 10 => exact iptaKeep153 b g q n gc jx P0 P1 P2 D hs h
  | 11 => exact h
  | 12 => exact h
  | 13 => exact h
  | 14 => exact h
  | 15 => exact h
  | 16 => exact h
  | 17 => exact h
  | 18 => exact h
  | 19 => exact h
  | 20 => exact h
  | 21 => exact h
  | 22 => exact h
  | 23 => exact h
  | 24 => exact h
  | 25 => exact h
  | 26 => exact h
  | 27 => exact h
  | 28 => exact h
  | 29 => exact h
  | 30 => exact h
  | 31 => exact h
  | 32 => exact h
  | 33 => exact h
  | 34 => exact h
  | k + 35 => exact h

set_option maxHeartbeats 4000000 in
set_option maxRecDepth 100000 in
theorem ipta_go (b g q n gc jx : Nat) (P0 P1 P2 : Value) (D : Nd) (w0 : World) (k10 : w0.cell? ⟨b, jx, none⟩ = some (.pointer (some ⟨q, 0, none⟩))) (g00 : w0.cell? ⟨g, jx * 3, none⟩ = some P0) (g10 : w0.cell? ⟨g, jx * 3 + 1, none⟩ = some P1) (g20 : w0.cell? ⟨g, jx * 3 + 2, none⟩ = some P2) (lj0 : (jx : Int) < (n : Int)) (c1530 : ∀ w0', Step noF w0 w0' → Calls Tryz.prog 11 #[.pointer (some ⟨q, 0, none⟩)] w0' fun e w0'' => ∃ v, e = .returned v ∧ Step noF w0' w0'' ∧ ∃ x, v = x ∧ NdV w0'' D x) (c1580 : ∀ x w0', Step noF w0 w0' → NdV w0' D x → Calls Tryz.prog 10 #[x, .agg #[P0, P1, P2]] w0' fun e w0'' => e = .returned (.bool true) ∧ Step noF w0' w0'') (gj0 : Hid (jx = 0))
    {Q : Exit → Act → World → Prop} (a0 : Act) (hsz : a0.tmps.size = 331) (h15 : a0.tmps.getD 15 undef = .slice (some ⟨b, 0, none⟩) n n) (h17 : a0.tmps.getD 17 undef = .slice (some ⟨g, 0, none⟩) n gc) (h19 : a0.tmps.getD 19 undef = .int .i64 jx)
    (hend : ∀ (f : Nat → Value) (w : World), Step noF w0 w → iptaSp b g q n gc jx P0 P1 P2 D 34 w (f 177) → Q .normal (putAll a0 (iptaDs.map some) (iptaDs.map f)) w) :
    (Code.region 18 ((Tryz.f5.body.bind (regionOps 18)).getD #[]) true).wp Tryz.prog Q a0 w0 := by
  refine wp_region_preds (iptaSp b g q n gc jx P0 P1 P2 D) (iptaSp_mono b g q n gc jx P0 P1 P2 D) iptaDl (by kernel_rfl) ipta_back ipta_dl ipta_nd (fun d h => by rw [hsz]; exact ipta_lt d h) ?_ ?_
  · intro i hi a w hs hfr hat
    rw [ipta_size] at hi
    have n15 := (hfr 15 (by decide)).trans h15
    have n17 := (hfr 17 (by decide)).trans h17
    have n19 := (hfr 19 (by decide)).trans h19
    have k1 : w.cell? ⟨b, jx, none⟩ = some (.pointer (some ⟨q, 0, none⟩)) := hs.after k10
    have g0 : w.cell? ⟨g, jx * 3, none⟩ = some P0 := hs.after g00
    have g1 : w.cell? ⟨g, jx * 3 + 1, none⟩ = some P1 := hs.after g10
    have g2 : w.cell? ⟨g, jx * 3 + 2, none⟩ = some P2 := hs.after g20
    have lj : (jx : Int) < (n : Int) := lj0
    have c153 : ∀ w', Step noF w w' → Calls Tryz.prog 11 #[.pointer (some ⟨q, 0, none⟩)] w' fun e w'' => ∃ v, e = .returned v ∧ Step noF w' w'' ∧ ∃ x, v = x ∧ NdV w'' D x := fun w' s' => c1530 w' (hs.trans s')
    have c158 : ∀ x w', Step noF w w' → NdV w' D x → Calls Tryz.prog 10 #[x, .agg #[P0, P1, P2]] w' fun e w'' => e = .returned (.bool true) ∧ Step noF w' w'' := fun x w' s' => c1580 x w' (hs.trans s')
    have gj : Hid (jx = 0) := gj0
    match i, hi with
    | 0, _ =>
      refine op_runs (d := some 143) iptaOp0 (wants_none a) (v := .slice (some ⟨b, 0, none⟩) n n) (w' := w) ?_ ⟨143, _, rfl, rfl, Step.refl _ _, rfl⟩
      intro oo hoo
      simp only [execOp, hoo, Act.eval, n15]
      go_simp
    | 1, _ =>
      refine op_runs (d := some 144) iptaOp1 (wants_none a) (v := .int .i64 jx) (w' := w) ?_ ⟨144, _, rfl, rfl, Step.refl _ _, rfl⟩
      intro oo hoo
      simp only [execOp, hoo, Act.eval, n19]
      go_simp
    | 2, _ =>
      have n143 : a.tmps.getD 143 undef = _ := hat 0 (lc (by kernel_rfl)) 143 rfl
      have n144 : a.tmps.getD 144 undef = _ := hat 1 (lc (by kernel_rfl)) 144 rfl
      refine op_runs (d := some 145) iptaOp2 (wants_none a) (v := .pointer (some ⟨b, jx, none⟩)) (w' := w) ?_ ⟨145, _, rfl, rfl, Step.refl _ _, rfl⟩
      intro oo hoo
      simp only [execOp, hoo, Act.eval, n143, n144]
      go_simp
    | 3, _ =>
      have n145 : a.tmps.getD 145 undef = _ := hat 2 (lc (by kernel_rfl)) 145 rfl
      refine op_runs (d := some 146) iptaOp3 (wants_none a) (v := .pointer (some ⟨q, 0, none⟩)) (w' := w) ?_ ⟨146, _, rfl, rfl, Step.refl _ _, rfl⟩
      intro oo hoo
      simp only [execOp, hoo, Act.eval, n145]
      go_simp
    | 4, _ =>
      have n146 : a.tmps.getD 146 undef = _ := hat 3 (lc (by kernel_rfl)) 146 rfl
      refine op_runs (d := some 147) iptaOp4 (wants_none a) (v := .bool false) (w' := w) ?_ ⟨147, _, rfl, rfl, Step.refl _ _, rfl⟩
      intro oo hoo
      simp only [execOp, hoo, Act.eval, n146]
      go_simp
    | 5, _ =>
      have n147 : a.tmps.getD 147 undef = _ := hat 4 (lc (by kernel_rfl)) 147 rfl
      refine op_runs (d := some 148) iptaOp5 (wants_none a) (v := .bool false) (w' := w) ?_ ⟨148, _, rfl, rfl, Step.refl _ _, rfl⟩
      intro oo hoo
      simp only [execOp, hoo, Act.eval, n147]
      go_simp
    | 6, _ =>
      have n148 : a.tmps.getD 148 undef = _ := hat 5 (lc (by kernel_rfl)) 148 rfl
      refine op_runs (d := some 149) iptaOp6 (wants_some (d := 148) (b := false) (by kernel_rfl) n148) (v := .slice (some ⟨b, 0, none⟩) n n) (w' := w) ?_ ⟨149, _, rfl, rfl, Step.refl _ _, rfl⟩
      intro oo hoo
      simp only [execOp, hoo, Act.eval, n15]
      go_simp
    | 7, _ =>
      have n148 : a.tmps.getD 148 undef = _ := hat 5 (lc (by kernel_rfl)) 148 rfl
      refine op_runs (d := some 150) iptaOp7 (wants_some (d := 148) (b := false) (by kernel_rfl) n148) (v := .int .i64 jx) (w' := w) ?_ ⟨150, _, rfl, rfl, Step.refl _ _, rfl⟩
      intro oo hoo
      simp only [execOp, hoo, Act.eval, n19]
      go_simp
    | 8, _ =>
      have n149 : a.tmps.getD 149 undef = _ := hat 6 (lc (by kernel_rfl)) 149 rfl
      have n150 : a.tmps.getD 150 undef = _ := hat 7 (lc (by kernel_rfl)) 150 rfl
      have n148 : a.tmps.getD 148 undef = _ := hat 5 (lc (by kernel_rfl)) 148 rfl
      refine op_runs (d := some 151) iptaOp8 (wants_some (d := 148) (b := false) (by kernel_rfl) n148) (v := .pointer (some ⟨b, jx, none⟩)) (w' := w) ?_ ⟨151, _, rfl, rfl, Step.refl _ _, rfl⟩
      intro oo hoo
      simp only [execOp, hoo, Act.eval, n149, n150]
      go_simp
    | 9, _ =>
      have n151 : a.tmps.getD 151 undef = _ := hat 8 (lc (by kernel_rfl)) 151 rfl
      have n148 : a.tmps.getD 148 undef = _ := hat 5 (lc (by kernel_rfl)) 148 rfl
      refine op_runs (d := some 152) iptaOp9 (wants_some (d := 148) (b := false) (by kernel_rfl) n148) (v := .pointer (some ⟨q, 0, none⟩)) (w' := w) ?_ ⟨152, _, rfl, rfl, Step.refl _ _, rfl⟩
      intro oo hoo
      simp only [execOp, hoo, Act.eval, n151]
      go_simp
    | 10, _ =>
      have n152 : a.tmps.getD 152 undef = _ := hat 9 (lc (by kernel_rfl)) 152 rfl
      have n148 : a.tmps.getD 148 undef = _ := hat 5 (lc (by kernel_rfl)) 148 rfl
      refine op_calls iptaOp10 (wants_some (d := 148) (b := false) (by kernel_rfl) n148) Tryz.func11 (by kernel_rfl) (by kernel_rfl) (args := #[.pointer (some ⟨q, 0, none⟩)]) (by simp [Act.eval, n152]) ((c153 w (Step.refl _ _)).mono ?_)
      rintro e w' ⟨v, rfl, s', hv⟩
      exact ⟨_, rfl, 153, _, rfl, rfl, s', hv⟩
    | 11, _ =>
      have n148 : a.tmps.getD 148 undef = _ := hat 5 (lc (by kernel_rfl)) 148 rfl
      refine op_runs (d := some 154) iptaOp11 (wants_some (d := 148) (b := false) (by kernel_rfl) n148) (v := .slice (some ⟨g, 0, none⟩) n gc) (w' := w) ?_ ⟨154, _, rfl, rfl, Step.refl _ _, rfl⟩
      intro oo hoo
      simp only [execOp, hoo, Act.eval, n17]
      go_simp
    | 12, _ =>
      have n148 : a.tmps.getD 148 undef = _ := hat 5 (lc (by kernel_rfl)) 148 rfl
      refine op_runs (d := some 155) iptaOp12 (wants_some (d := 148) (b := false) (by kernel_rfl) n148) (v := .int .i64 jx) (w' := w) ?_ ⟨155, _, rfl, rfl, Step.refl _ _, rfl⟩
      intro oo hoo
      simp only [execOp, hoo, Act.eval, n19]
      go_simp
    | 13, _ =>
      have n154 : a.tmps.getD 154 undef = _ := hat 11 (lc (by kernel_rfl)) 154 rfl
      have n155 : a.tmps.getD 155 undef = _ := hat 12 (lc (by kernel_rfl)) 155 rfl
      have n148 : a.tmps.getD 148 undef = _ := hat 5 (lc (by kernel_rfl)) 148 rfl
      refine op_runs (d := some 156) iptaOp13 (wants_some (d := 148) (b := false) (by kernel_rfl) n148) (v := .pointer (some ⟨g, jx * 3, none⟩)) (w' := w) ?_ ⟨156, _, rfl, rfl, Step.refl _ _, rfl⟩
      intro oo hoo
      simp only [execOp, hoo, Act.eval, n154, n155]
      go_simp
    | 14, _ =>
      have n156 : a.tmps.getD 156 undef = _ := hat 13 (lc (by kernel_rfl)) 156 rfl
      have n148 : a.tmps.getD 148 undef = _ := hat 5 (lc (by kernel_rfl)) 148 rfl
      refine op_runs (d := some 157) iptaOp14 (wants_some (d := 148) (b := false) (by kernel_rfl) n148) (v := .agg #[P0, P1, P2]) (w' := w) ?_ ⟨157, _, rfl, rfl, Step.refl _ _, rfl⟩
      intro oo hoo
      simp only [execOp, hoo, Act.eval, n156]
      go_simp
    | 15, _ =>
      have hp153 : iptaSp b g q n gc jx P0 P1 P2 D 10 w (a.tmps.getD 153 undef) := hat 10 (lc (by kernel_rfl)) 153 rfl
      have hq153 := hp153
      obtain ⟨x153, n153, r153⟩ := hq153
      have n157 : a.tmps.getD 157 undef = _ := hat 14 (lc (by kernel_rfl)) 157 rfl
      have n148 : a.tmps.getD 148 undef = _ := hat 5 (lc (by kernel_rfl)) 148 rfl
      refine op_calls iptaOp15 (wants_some (d := 148) (b := false) (by kernel_rfl) n148) Tryz.func10 (by kernel_rfl) (by kernel_rfl) (args := #[x153, .agg #[P0, P1, P2]]) (by simp [Act.eval, n153, n157]) ((c158 _ w (Step.refl _ _) r153).mono ?_)
      rintro e w' ⟨rfl, s'⟩
      exact ⟨_, rfl, 158, _, rfl, rfl, s', rfl⟩
    | 16, _ =>
      have n158 : a.tmps.getD 158 undef = _ := hat 15 (lc (by kernel_rfl)) 158 rfl
      have n148 : a.tmps.getD 148 undef = _ := hat 5 (lc (by kernel_rfl)) 148 rfl
      refine op_runs (d := some 159) iptaOp16 (wants_some (d := 148) (b := false) (by kernel_rfl) n148) (v := .bool false) (w' := w) ?_ ⟨159, _, rfl, rfl, Step.refl _ _, rfl⟩
      intro oo hoo
      simp only [execOp, hoo, Act.eval, n158]
      go_simp
    | 17, _ =>
      have n148 : a.tmps.getD 148 undef = _ := hat 5 (lc (by kernel_rfl)) 148 rfl
      have n159 : a.tmps.getD 159 undef = _ := hat 16 (lc (by kernel_rfl)) 159 rfl
      refine op_runs (d := some 160) iptaOp17 (wants_none a) (v := .bool false) (w' := w) ?_ ⟨160, _, rfl, rfl, Step.refl _ _, rfl⟩
      intro oo hoo
      simp only [execOp, hoo, Act.eval, n148, n159]
      go_simp
    | 18, _ =>
      have n160 : a.tmps.getD 160 undef = _ := hat 17 (lc (by kernel_rfl)) 160 rfl
      refine op_runs (d := some 161) iptaOp18 (wants_none a) (v := .bool false) (w' := w) ?_ ⟨161, _, rfl, rfl, Step.refl _ _, rfl⟩
      intro oo hoo
      simp only [execOp, hoo, Act.eval, n160]
      go_simp
    | 19, _ =>
      have n161 : a.tmps.getD 161 undef = _ := hat 18 (lc (by kernel_rfl)) 161 rfl
      refine op_runs (d := some 162) iptaOp19 (wants_some (d := 161) (b := false) (by kernel_rfl) n161) (v := .int .i64 jx) (w' := w) ?_ ⟨162, _, rfl, rfl, Step.refl _ _, rfl⟩
      intro oo hoo
      simp only [execOp, hoo, Act.eval, n19]
      go_simp
    | 20, _ =>
      have n162 : a.tmps.getD 162 undef = _ := hat 19 (lc (by kernel_rfl)) 162 rfl
      have n161 : a.tmps.getD 161 undef = _ := hat 18 (lc (by kernel_rfl)) 161 rfl
      refine op_runs (d := some 163) iptaOp20 (wants_some (d := 161) (b := false) (by kernel_rfl) n161) (v := .bool false) (w' := w) ?_ ⟨163, _, rfl, rfl, Step.refl _ _, rfl⟩
      intro oo hoo
      simp only [execOp, hoo, Act.eval, n162]
      rw [gj.out]
      go_simp
    | 21, _ =>
      have n163 : a.tmps.getD 163 undef = _ := hat 20 (lc (by kernel_rfl)) 163 rfl
      have n161 : a.tmps.getD 161 undef = _ := hat 18 (lc (by kernel_rfl)) 161 rfl
      refine op_runs (d := some 164) iptaOp21 (wants_some (d := 161) (b := false) (by kernel_rfl) n161) (v := .bool false) (w' := w) ?_ ⟨164, _, rfl, rfl, Step.refl _ _, rfl⟩
      intro oo hoo
      simp only [execOp, hoo, Act.eval, n163]
      go_simp
    | 22, _ =>
      have n164 : a.tmps.getD 164 undef = _ := hat 21 (lc (by kernel_rfl)) 164 rfl
      exact op_skip iptaOp22 (dj := 164) (by kernel_rfl) n164 (by decide) ⟨165, undef, rfl, rfl, Step.refl _ _, rfl⟩
    | 23, _ =>
      have n164 : a.tmps.getD 164 undef = _ := hat 21 (lc (by kernel_rfl)) 164 rfl
      exact op_skip iptaOp23 (dj := 164) (by kernel_rfl) n164 (by decide) ⟨166, undef, rfl, rfl, Step.refl _ _, rfl⟩
    | 24, _ =>
      have n164 : a.tmps.getD 164 undef = _ := hat 21 (lc (by kernel_rfl)) 164 rfl
      exact op_skip iptaOp24 (dj := 164) (by kernel_rfl) n164 (by decide) ⟨167, undef, rfl, rfl, Step.refl _ _, rfl⟩
    | 25, _ =>
      have n164 : a.tmps.getD 164 undef = _ := hat 21 (lc (by kernel_rfl)) 164 rfl
      exact op_skip iptaOp25 (dj := 164) (by kernel_rfl) n164 (by decide) ⟨168, undef, rfl, rfl, Step.refl _ _, rfl⟩
    | 26, _ =>
      have n164 : a.tmps.getD 164 undef = _ := hat 21 (lc (by kernel_rfl)) 164 rfl
      exact op_skip iptaOp26 (dj := 164) (by kernel_rfl) n164 (by decide) ⟨169, undef, rfl, rfl, Step.refl _ _, rfl⟩
    | 27, _ =>
      have n164 : a.tmps.getD 164 undef = _ := hat 21 (lc (by kernel_rfl)) 164 rfl
      exact op_skip iptaOp27 (dj := 164) (by kernel_rfl) n164 (by decide) ⟨170, undef, rfl, rfl, Step.refl _ _, rfl⟩
    | 28, _ =>
      have n164 : a.tmps.getD 164 undef = _ := hat 21 (lc (by kernel_rfl)) 164 rfl
      exact op_skip iptaOp28 (dj := 164) (by kernel_rfl) n164 (by decide) ⟨171, undef, rfl, rfl, Step.refl _ _, rfl⟩
    | 29, _ =>
      have n164 : a.tmps.getD 164 undef = _ := hat 21 (lc (by kernel_rfl)) 164 rfl
      exact op_skip iptaOp29 (dj := 164) (by kernel_rfl) n164 (by decide) ⟨172, undef, rfl, rfl, Step.refl _ _, rfl⟩
    | 30, _ =>
      have n164 : a.tmps.getD 164 undef = _ := hat 21 (lc (by kernel_rfl)) 164 rfl
      exact op_skip iptaOp30 (dj := 164) (by kernel_rfl) n164 (by decide) ⟨173, undef, rfl, rfl, Step.refl _ _, rfl⟩
    | 31, _ =>
      have n164 : a.tmps.getD 164 undef = _ := hat 21 (lc (by kernel_rfl)) 164 rfl
      exact op_skip iptaOp31 (dj := 164) (by kernel_rfl) n164 (by decide) ⟨174, undef, rfl, rfl, Step.refl _ _, rfl⟩
    | 32, _ =>
      have n164 : a.tmps.getD 164 undef = _ := hat 21 (lc (by kernel_rfl)) 164 rfl
      exact op_skip iptaOp32 (dj := 164) (by kernel_rfl) n164 (by decide) ⟨175, undef, rfl, rfl, Step.refl _ _, rfl⟩
    | 33, _ =>
      have n164 : a.tmps.getD 164 undef = _ := hat 21 (lc (by kernel_rfl)) 164 rfl
      have n175 : a.tmps.getD 175 undef = _ := hat 32 (lc (by kernel_rfl)) 175 rfl
      have n161 : a.tmps.getD 161 undef = _ := hat 18 (lc (by kernel_rfl)) 161 rfl
      refine op_runs (d := some 176) iptaOp33 (wants_some (d := 161) (b := false) (by kernel_rfl) n161) (v := .bool false) (w' := w) ?_ ⟨176, _, rfl, rfl, Step.refl _ _, rfl⟩
      intro oo hoo
      simp only [execOp, hoo, Act.eval, n164, n175]
      go_simp
    | 34, _ =>
      have n161 : a.tmps.getD 161 undef = _ := hat 18 (lc (by kernel_rfl)) 161 rfl
      have n176 : a.tmps.getD 176 undef = _ := hat 33 (lc (by kernel_rfl)) 176 rfl
      refine op_runs (d := some 177) iptaOp34 (wants_none a) (v := .bool false) (w' := w) ?_ ⟨177, _, rfl, rfl, Step.refl _ _, rfl⟩
      intro oo hoo
      simp only [execOp, hoo, Act.eval, n161, n176]
      go_simp
    | k + 35, h => exact absurd h (by omega)
  · intro a w hs hdf hs2 hfr hat
    rw [ipta_size] at hat
    have e := act_vals (a := a) (a0 := a0) iptaDs (by decide) (fun d hd => by rw [hsz]; exact ipta_lt d (by revert hd; revert d; decide)) hdf hs2 (fun k hk => hfr k (fun hk2 => hk (by revert hk2; simp [iptaDl, iptaDs])))
    rw [e]
    exact hend (fun d => a.tmps.getD d undef) w hs (hat 34 (by omega) 177 rfl)
set_option maxRecDepth 100000 in
theorem ipta_lit (f : Nat → Value) (D : List Deferred) (x0 x1 x2 x3 x4 x5 x6 x7 x8 x9 x10 x11 x12 x13 x14 x15 x16 x17 x18 x19 x20 x21 x22 x23 x24 x25 x26 x27 x28 x29 x30 x31 x32 x33 x34 x35 x36 x37 x38 x39 x40 x41 x42 x43 x44 x45 x46 x47 x48 x49 x50 x51 x52 x53 x54 x55 x56 x57 x58 x59 x60 x61 x62 x63 x64 x65 x66 x67 x68 x69 x70 x71 x72 x73 x74 x75 x76 x77 x78 x79 x80 x81 x82 x83 x84 x85 x86 x87 x88 x89 x90 x91 x92 x93 x94 x95 x96 x97 x98 x99 x100 x101 x102 x103 x104 x105 x106 x107 x108 x109 x110 x111 x112 x113 x114 x115 x116 x117 x118 x119 x120 x121 x122 x123 x124 x125 x126 x127 x128 x129 x130 x131 x132 x133 x134 x135 x136 x137 x138 x139 x140 x141 x142 x143 x144 x145 x146 x147 x148 x149 x150 x151 x152 x153 x154 x155 x156 x157 x158 x159 x160 x161 x162 x163 x164 x165 x166 x167 x168 x169 x170 x171 x172 x173 x174 x175 x176 x177 x178 x179 x180 x181 x182 x183 x184 x185 x186 x187 x188 x189 x190 x191 x192 x193 x194 x195 x196 x197 x198 x199 x200 x201 x202 x203 x204 x205 x206 x207 x208 x209 x210 x211 x212 x213 x214 x215 x216 x217 x218 x219 x220 x221 x222 x223 x224 x225 x226 x227 x228 x229 x230 x231 x232 x233 x234 x235 x236 x237 x238 x239 x240 x241 x242 x243 x244 x245 x246 x247 x248 x249 x250 x251 x252 x253 x254 x255 x256 x257 x258 x259 x260 x261 x262 x263 x264 x265 x266 x267 x268 x269 x270 x271 x272 x273 x274 x275 x276 x277 x278 x279 x280 x281 x282 x283 x284 x285 x286 x287 x288 x289 x290 x291 x292 x293 x294 x295 x296 x297 x298 x299 x300 x301 x302 x303 x304 x305 x306 x307 x308 x309 x310 x311 x312 x313 x314 x315 x316 x317 x318 x319 x320 x321 x322 x323 x324 x325 x326 x327 x328 x329 x330 : Value) : putAll { tmps := #[x0, x1, x2, x3, x4, x5, x6, x7, x8, x9, x10, x11, x12, x13, x14, x15, x16, x17, x18, x19, x20, x21, x22, x23, x24, x25, x26, x27, x28, x29, x30, x31, x32, x33, x34, x35, x36, x37, x38, x39, x40, x41, x42, x43, x44, x45, x46, x47, x48, x49, x50, x51, x52, x53, x54, x55, x56, x57, x58, x59, x60, x61, x62, x63, x64, x65, x66, x67, x68, x69, x70, x71, x72, x73, x74, x75, x76, x77, x78, x79, x80, x81, x82, x83, x84, x85, x86, x87, x88, x89, x90, x91, x92, x93, x94, x95, x96, x97, x98, x99, x100, x101, x102, x103, x104, x105, x106, x107, x108, x109, x110, x111, x112, x113, x114, x115, x116, x117, x118, x119, x120, x121, x122, x123, x124, x125, x126, x127, x128, x129, x130, x131, x132, x133, x134, x135, x136, x137, x138, x139, x140, x141, x142, x143, x144, x145, x146, x147, x148, x149, x150, x151, x152, x153, x154, x155, x156, x157, x158, x159, x160, x161, x162, x163, x164, x165, x166, x167, x168, x169, x170, x171, x172, x173, x174, x175, x176, x177, x178, x179, x180, x181, x182, x183, x184, x185, x186, x187, x188, x189, x190, x191, x192, x193, x194, x195, x196, x197, x198, x199, x200, x201, x202, x203, x204, x205, x206, x207, x208, x209, x210, x211, x212, x213, x214, x215, x216, x217, x218, x219, x220, x221, x222, x223, x224, x225, x226, x227, x228, x229, x230, x231, x232, x233, x234, x235, x236, x237, x238, x239, x240, x241, x242, x243, x244, x245, x246, x247, x248, x249, x250, x251, x252, x253, x254, x255, x256, x257, x258, x259, x260, x261, x262, x263, x264, x265, x266, x267, x268, x269, x270, x271, x272, x273, x274, x275, x276, x277, x278, x279, x280, x281, x282, x283, x284, x285, x286, x287, x288, x289, x290, x291, x292, x293, x294, x295, x296, x297, x298, x299, x300, x301, x302, x303, x304, x305, x306, x307, x308, x309, x310, x311, x312, x313, x314, x315, x316, x317, x318, x319, x320, x321, x322, x323, x324, x325, x326, x327, x328, x329, x330], defers := D } (iptaDs.map some) (iptaDs.map f) = { tmps := #[x0, x1, x2, x3, x4, x5, x6, x7, x8, x9, x10, x11, x12, x13, x14, x15, x16, x17, x18, x19, x20, x21, x22, x23, x24, x25, x26, x27, x28, x29, x30, x31, x32, x33, x34, x35, x36, x37, x38, x39, x40, x41, x42, x43, x44, x45, x46, x47, x48, x49, x50, x51, x52, x53, x54, x55, x56, x57, x58, x59, x60, x61, x62, x63, x64, x65, x66, x67, x68, x69, x70, x71, x72, x73, x74, x75, x76, x77, x78, x79, x80, x81, x82, x83, x84, x85, x86, x87, x88, x89, x90, x91, x92, x93, x94, x95, x96, x97, x98, x99, x100, x101, x102, x103, x104, x105, x106, x107, x108, x109, x110, x111, x112, x113, x114, x115, x116, x117, x118, x119, x120, x121, x122, x123, x124, x125, x126, x127, x128, x129, x130, x131, x132, x133, x134, x135, x136, x137, x138, x139, x140, x141, x142, f 143, f 144, f 145, f 146, f 147, f 148, f 149, f 150, f 151, f 152, f 153, f 154, f 155, f 156, f 157, f 158, f 159, f 160, f 161, f 162, f 163, f 164, f 165, f 166, f 167, f 168, f 169, f 170, f 171, f 172, f 173, f 174, f 175, f 176, f 177, x178, x179, x180, x181, x182, x183, x184, x185, x186, x187, x188, x189, x190, x191, x192, x193, x194, x195, x196, x197, x198, x199, x200, x201, x202, x203, x204, x205, x206, x207, x208, x209, x210, x211, x212, x213, x214, x215, x216, x217, x218, x219, x220, x221, x222, x223, x224, x225, x226, x227, x228, x229, x230, x231, x232, x233, x234, x235, x236, x237, x238, x239, x240, x241, x242, x243, x244, x245, x246, x247, x248, x249, x250, x251, x252, x253, x254, x255, x256, x257, x258, x259, x260, x261, x262, x263, x264, x265, x266, x267, x268, x269, x270, x271, x272, x273, x274, x275, x276, x277, x278, x279, x280, x281, x282, x283, x284, x285, x286, x287, x288, x289, x290, x291, x292, x293, x294, x295, x296, x297, x298, x299, x300, x301, x302, x303, x304, x305, x306, x307, x308, x309, x310, x311, x312, x313, x314, x315, x316, x317, x318, x319, x320, x321, x322, x323, x324, x325, x326, x327, x328, x329, x330], defers := D } := by kernel_rfl
end Go.Proofs.YtgmgoaencaldmaaGreat
namespace Go.Proofs.YtgmgoaencaldmaaGreat
open Go.RowKit
set_option linter.unusedVariables false
set_option linter.unusedSimpArgs false


def iptbDs : List Nat := [143, 144, 145, 146, 147, 148, 149, 150, 151, 152, 153, 154, 155, 156, 157, 158, 159, 160, 161, 162, 163, 164, 165, 166, 167, 168, 169, 170, 171, 172, 173, 174, 175, 176, 177]
def iptbDl : List (Option Nat) := [some 143, some 144, some 145, some 146, some 147, some 148, some 149, some 150, some 151, some 152, some 153, some 154, some 155, some 156, some 157, some 158, some 159, some 160, some 161, some 162, some 163, some 164, some 165, some 166, some 167, some 168, some 169, some 170, some 171, some 172, some 173, some 174, some 175, some 176, some 177]
theorem iptb_dl : ((Tryz.f5.body.bind (regionOps 18)).getD #[]).toList.map (·.dst) = iptbDl := by kernel_rfl
theorem iptb_back : backB ((Tryz.f5.body.bind (regionOps 18)).getD #[]) = true := by kernel_rfl
theorem iptb_size : ((Tryz.f5.body.bind (regionOps 18)).getD #[]).size = 35 := by kernel_rfl
theorem iptb_nd : iptbDl.Pairwise (fun x y => x = none ∨ x ≠ y) := by decide
theorem iptb_lt (d : Nat) (h : some d ∈ iptbDl) : d < 331 := by
  have hh : iptbDl.all (fun o => o.all (fun d => decide (d < 331))) = true := by decide
  simpa using List.all_eq_true.1 hh _ h
theorem iptbOp0 : opIs ((Tryz.f5.body.bind (regionOps 18)).getD #[]) 0 (some 143) (Op.move (Operand.tmp 15)) (none) := opIs_of (by kernel_rfl)
theorem iptbOp1 : opIs ((Tryz.f5.body.bind (regionOps 18)).getD #[]) 1 (some 144) (Op.move (Operand.tmp 19)) (none) := opIs_of (by kernel_rfl)
theorem iptbOp2 : opIs ((Tryz.f5.body.bind (regionOps 18)).getD #[]) 2 (some 145) (Op.indexAddr 61 (Operand.tmp 143) (Operand.tmp 144)) (none) := opIs_of (by kernel_rfl)
theorem iptbOp3 : opIs ((Tryz.f5.body.bind (regionOps 18)).getD #[]) 3 (some 146) (Op.load 29 (Operand.tmp 145)) (none) := opIs_of (by kernel_rfl)
theorem iptbOp4 : opIs ((Tryz.f5.body.bind (regionOps 18)).getD #[]) 4 (some 147) (Op.binOp BinOp.eql 29 (Operand.tmp 146) (Operand.const (Value.pointer none)) 29) (none) := opIs_of (by kernel_rfl)
theorem iptbOp5 : opIs ((Tryz.f5.body.bind (regionOps 18)).getD #[]) 5 (some 148) (Op.move (Operand.tmp 147)) (none) := opIs_of (by kernel_rfl)
theorem iptbOp6 : opIs ((Tryz.f5.body.bind (regionOps 18)).getD #[]) 6 (some 149) (Op.move (Operand.tmp 15)) (some (5, false)) := opIs_of (by kernel_rfl)
theorem iptbOp7 : opIs ((Tryz.f5.body.bind (regionOps 18)).getD #[]) 7 (some 150) (Op.move (Operand.tmp 19)) (some (5, false)) := opIs_of (by kernel_rfl)
theorem iptbOp8 : opIs ((Tryz.f5.body.bind (regionOps 18)).getD #[]) 8 (some 151) (Op.indexAddr 61 (Operand.tmp 149) (Operand.tmp 150)) (some (5, false)) := opIs_of (by kernel_rfl)
theorem iptbOp9 : opIs ((Tryz.f5.body.bind (regionOps 18)).getD #[]) 9 (some 152) (Op.load 29 (Operand.tmp 151)) (some (5, false)) := opIs_of (by kernel_rfl)
theorem iptbOp10 : opIs ((Tryz.f5.body.bind (regionOps 18)).getD #[]) 10 (some 153) (Op.call { callee := Callee.value (Operand.func 11), args := #[Operand.tmp 152], argTypes := #[29] }) (some (5, false)) := opIs_of (by kernel_rfl)
theorem iptbOp11 : opIs ((Tryz.f5.body.bind (regionOps 18)).getD #[]) 11 (some 154) (Op.move (Operand.tmp 17)) (some (5, false)) := opIs_of (by kernel_rfl)
theorem iptbOp12 : opIs ((Tryz.f5.body.bind (regionOps 18)).getD #[]) 12 (some 155) (Op.move (Operand.tmp 19)) (some (5, false)) := opIs_of (by kernel_rfl)
theorem iptbOp13 : opIs ((Tryz.f5.body.bind (regionOps 18)).getD #[]) 13 (some 156) (Op.indexAddr 64 (Operand.tmp 154) (Operand.tmp 155)) (some (5, false)) := opIs_of (by kernel_rfl)
theorem iptbOp14 : opIs ((Tryz.f5.body.bind (regionOps 18)).getD #[]) 14 (some 157) (Op.load 34 (Operand.tmp 156)) (some (5, false)) := opIs_of (by kernel_rfl)
theorem iptbOp15 : opIs ((Tryz.f5.body.bind (regionOps 18)).getD #[]) 15 (some 158) (Op.call { callee := Callee.value (Operand.func 10), args := #[Operand.tmp 153, Operand.tmp 157], argTypes := #[34, 34] }) (some (5, false)) := opIs_of (by kernel_rfl)
theorem iptbOp16 : opIs ((Tryz.f5.body.bind (regionOps 18)).getD #[]) 16 (some 159) (Op.unOp UnOp.not 4 (Operand.tmp 158)) (some (5, false)) := opIs_of (by kernel_rfl)
theorem iptbOp17 : opIs ((Tryz.f5.body.bind (regionOps 18)).getD #[]) 17 (some 160) (Op.pick (Operand.tmp 148) (Operand.const (Value.bool true)) (Operand.tmp 159)) (none) := opIs_of (by kernel_rfl)
theorem iptbOp18 : opIs ((Tryz.f5.body.bind (regionOps 18)).getD #[]) 18 (some 161) (Op.move (Operand.tmp 160)) (none) := opIs_of (by kernel_rfl)
theorem iptbOp19 : opIs ((Tryz.f5.body.bind (regionOps 18)).getD #[]) 19 (some 162) (Op.move (Operand.tmp 19)) (some (18, false)) := opIs_of (by kernel_rfl)
theorem iptbOp20 : opIs ((Tryz.f5.body.bind (regionOps 18)).getD #[]) 20 (some 163) (Op.binOp BinOp.gtr 3 (Operand.tmp 162) (Operand.const (Value.int IntKind.i64 0)) 3) (some (18, false)) := opIs_of (by kernel_rfl)
theorem iptbOp21 : opIs ((Tryz.f5.body.bind (regionOps 18)).getD #[]) 21 (some 164) (Op.move (Operand.tmp 163)) (some (18, false)) := opIs_of (by kernel_rfl)
theorem iptbOp22 : opIs ((Tryz.f5.body.bind (regionOps 18)).getD #[]) 22 (some 165) (Op.move (Operand.tmp 16)) (some (21, true)) := opIs_of (by kernel_rfl)
theorem iptbOp23 : opIs ((Tryz.f5.body.bind (regionOps 18)).getD #[]) 23 (some 166) (Op.move (Operand.tmp 19)) (some (21, true)) := opIs_of (by kernel_rfl)
theorem iptbOp24 : opIs ((Tryz.f5.body.bind (regionOps 18)).getD #[]) 24 (some 167) (Op.binOp BinOp.sub 3 (Operand.tmp 166) (Operand.const (Value.int IntKind.i64 1)) 3) (some (21, true)) := opIs_of (by kernel_rfl)
theorem iptbOp25 : opIs ((Tryz.f5.body.bind (regionOps 18)).getD #[]) 25 (some 168) (Op.indexAddr 23 (Operand.tmp 165) (Operand.tmp 167)) (some (21, true)) := opIs_of (by kernel_rfl)
theorem iptbOp26 : opIs ((Tryz.f5.body.bind (regionOps 18)).getD #[]) 26 (some 169) (Op.load 9 (Operand.tmp 168)) (some (21, true)) := opIs_of (by kernel_rfl)
theorem iptbOp27 : opIs ((Tryz.f5.body.bind (regionOps 18)).getD #[]) 27 (some 170) (Op.move (Operand.tmp 18)) (some (21, true)) := opIs_of (by kernel_rfl)
theorem iptbOp28 : opIs ((Tryz.f5.body.bind (regionOps 18)).getD #[]) 28 (some 171) (Op.move (Operand.tmp 19)) (some (21, true)) := opIs_of (by kernel_rfl)
theorem iptbOp29 : opIs ((Tryz.f5.body.bind (regionOps 18)).getD #[]) 29 (some 172) (Op.binOp BinOp.sub 3 (Operand.tmp 171) (Operand.const (Value.int IntKind.i64 1)) 3) (some (21, true)) := opIs_of (by kernel_rfl)
theorem iptbOp30 : opIs ((Tryz.f5.body.bind (regionOps 18)).getD #[]) 30 (some 173) (Op.indexAddr 23 (Operand.tmp 170) (Operand.tmp 172)) (some (21, true)) := opIs_of (by kernel_rfl)
theorem iptbOp31 : opIs ((Tryz.f5.body.bind (regionOps 18)).getD #[]) 31 (some 174) (Op.load 9 (Operand.tmp 173)) (some (21, true)) := opIs_of (by kernel_rfl)
theorem iptbOp32 : opIs ((Tryz.f5.body.bind (regionOps 18)).getD #[]) 32 (some 175) (Op.binOp BinOp.neq 9 (Operand.tmp 169) (Operand.tmp 174) 9) (some (21, true)) := opIs_of (by kernel_rfl)
theorem iptbOp33 : opIs ((Tryz.f5.body.bind (regionOps 18)).getD #[]) 33 (some 176) (Op.pick (Operand.tmp 164) (Operand.tmp 175) (Operand.const (Value.bool false))) (some (18, false)) := opIs_of (by kernel_rfl)
theorem iptbOp34 : opIs ((Tryz.f5.body.bind (regionOps 18)).getD #[]) 34 (some 177) (Op.pick (Operand.tmp 161) (Operand.const (Value.bool true)) (Operand.tmp 176)) (none) := opIs_of (by kernel_rfl)
/-- What is said of each slot. -/
def iptbSp (b g q n gc jx : Nat) (P0 P1 P2 : Value) (D : Nd) (tb tf tc sb sf sc tn jm : Nat) (K : List UInt8) (i : Nat) (w : World) (v : Value) : Prop := match i with
  | 0 => v = .slice (some ⟨b, 0, none⟩) n n
  | 1 => v = .int .i64 jx
  | 2 => v = .pointer (some ⟨b, jx, none⟩)
  | 3 => v = .pointer (some ⟨q, 0, none⟩)
  | 4 => v = .bool false
  | 5 => v = .bool false
  | 6 => v = .slice (some ⟨b, 0, none⟩) n n
  | 7 => v = .int .i64 jx
  | 8 => v = .pointer (some ⟨b, jx, none⟩)
  | 9 => v = .pointer (some ⟨q, 0, none⟩)
  | 10 => ∃ x, v = x ∧ NdV w D x
  | 11 => v = .slice (some ⟨g, 0, none⟩) n gc
  | 12 => v = .int .i64 jx
  | 13 => v = .pointer (some ⟨g, jx * 3, none⟩)
  | 14 => v = .agg #[P0, P1, P2]
  | 15 => v = .bool true
  | 16 => v = .bool false
  | 17 => v = .bool false
  | 18 => v = .bool false
  | 19 => v = .int .i64 jx
  | 20 => v = .bool true
  | 21 => v = .bool true
  | 22 => v = .slice (some ⟨tb, tf, none⟩) tn tc
  | 23 => v = .int .i64 jx
  | 24 => v = .int .i64 jm
  | 25 => v = .pointer (some ⟨tb, tf + jm, none⟩)
  | 26 => v = .string (str K)
  | 27 => v = .slice (some ⟨sb, sf, none⟩) tn sc
  | 28 => v = .int .i64 jx
  | 29 => v = .int .i64 jm
  | 30 => v = .pointer (some ⟨sb, sf + jm, none⟩)
  | 31 => v = .string (str K)
  | 32 => v = .bool false
  | 33 => v = .bool false
  | 34 => v = .bool false
  | _ => True
theorem iptbKeep153 (b g q n gc jx : Nat) (P0 P1 P2 : Value) (D : Nd) (tb tf tc sb sf sc tn jm : Nat) (K : List UInt8) {w w' : World} {v : Value} (hs : Step noF w w') (h : ∃ x, v = x ∧ NdV w D x) : ∃ x, v = x ∧ NdV w' D x := by
  obtain ⟨x, h1, h2⟩ := h; exact ⟨x, h1, h2.step hs⟩
theorem iptbSp_mono (b g q n gc jx : Nat) (P0 P1 P2 : Value) (D : Nd) (tb tf tc sb sf sc tn jm : Nat) (K : List UInt8) : ∀ i w w' v, Step noF w w' → iptbSp b g q n gc jx P0 P1 P2 D tb tf tc sb sf sc tn jm K i w v → iptbSp b g q n gc jx P0 P1 P2 D tb tf tc sb sf sc tn jm K i w' v := by
  intro i w w' v hs h
  match i with
  | 0 => exact h
  | 1 => exact h
  | 2 => exact h
  | 3 => exact h
  | 4 => exact h
  | 5 => exact h
  | 6 => exact h
  | 7 => exact h
  | 8 => exact h
  | 9 => exact h
  | 10 => exact iptbKeep153 b g q n gc jx P0 P1 P2 D tb tf tc sb sf sc tn jm K hs h
  | 11 => exact h
  | 12 => exact h
  | 13 => exact h
  | 14 => exact h
  | 15 => exact h
  | 16 => exact h
  | 17 => exact h
  | 18 => exact h
  | 19 => exact h
  | 20 => exact h
  | 21 => exact h
  | 22 => exact h
  | 23 => exact h
  | 24 => exact h
  | 25 => exact h
  | 26 => exact h
  | 27 => exact h
  | 28 => exact h
  | 29 => exact h
  | 30 => exact h
  | 31 => exact h
  | 32 => exact h
  | 33 => exact h
  | 34 => exact h
  | k + 35 => exact h

set_option maxHeartbeats 4000000 in
set_option maxRecDepth 100000 in
theorem iptb_go (b g q n gc jx : Nat) (P0 P1 P2 : Value) (D : Nd) (tb tf tc sb sf sc tn jm : Nat) (K : List UInt8) (w0 : World) (k10 : w0.cell? ⟨b, jx, none⟩ = some (.pointer (some ⟨q, 0, none⟩))) (g00 : w0.cell? ⟨g, jx * 3, none⟩ = some P0) (g10 : w0.cell? ⟨g, jx * 3 + 1, none⟩ = some P1) (g20 : w0.cell? ⟨g, jx * 3 + 2, none⟩ = some P2) (lj0 : (jx : Int) < (n : Int)) (c1530 : ∀ w0', Step noF w0 w0' → Calls Tryz.prog 11 #[.pointer (some ⟨q, 0, none⟩)] w0' fun e w0'' => ∃ v, e = .returned v ∧ Step noF w0' w0'' ∧ ∃ x, v = x ∧ NdV w0'' D x) (c1580 : ∀ x w0', Step noF w0 w0' → NdV w0' D x → Calls Tryz.prog 10 #[x, .agg #[P0, P1, P2]] w0' fun e w0'' => e = .returned (.bool true) ∧ Step noF w0' w0'') (t10 : w0.cell? ⟨tb, tf + jm, none⟩ = some (.string (str K))) (s10 : w0.cell? ⟨sb, sf + jm, none⟩ = some (.string (str K))) (gj0 : (0 : Int) < (jx : Int)) (ej0 : (jx : Int) - 1 = (jm : Int)) (wj0 : IntKind.i64.wrap (jm : Int) = (jm : Int)) (lm0 : (jm : Int) < (tn : Int))
    {Q : Exit → Act → World → Prop} (a0 : Act) (hsz : a0.tmps.size = 331) (h15 : a0.tmps.getD 15 undef = .slice (some ⟨b, 0, none⟩) n n) (h17 : a0.tmps.getD 17 undef = .slice (some ⟨g, 0, none⟩) n gc) (h19 : a0.tmps.getD 19 undef = .int .i64 jx) (h16 : a0.tmps.getD 16 undef = .slice (some ⟨tb, tf, none⟩) tn tc) (h18 : a0.tmps.getD 18 undef = .slice (some ⟨sb, sf, none⟩) tn sc)
    (hend : ∀ (f : Nat → Value) (w : World), Step noF w0 w → iptbSp b g q n gc jx P0 P1 P2 D tb tf tc sb sf sc tn jm K 34 w (f 177) → Q .normal (putAll a0 (iptbDs.map some) (iptbDs.map f)) w) :
    (Code.region 18 ((Tryz.f5.body.bind (regionOps 18)).getD #[]) true).wp Tryz.prog Q a0 w0 := by
  refine wp_region_preds (iptbSp b g q n gc jx P0 P1 P2 D tb tf tc sb sf sc tn jm K) (iptbSp_mono b g q n gc jx P0 P1 P2 D tb tf tc sb sf sc tn jm K) iptbDl (by kernel_rfl) iptb_back iptb_dl iptb_nd (fun d h => by rw [hsz]; exact iptb_lt d h) ?_ ?_
  · intro i hi a w hs hfr hat
    rw [iptb_size] at hi
    have n15 := (hfr 15 (by decide)).trans h15
    have n17 := (hfr 17 (by decide)).trans h17
    have n19 := (hfr 19 (by decide)).trans h19
    have n16 := (hfr 16 (by decide)).trans h16
    have n18 := (hfr 18 (by decide)).trans h18
    have k1 : w.cell? ⟨b, jx, none⟩ = some (.pointer (some ⟨q, 0, none⟩)) := hs.after k10
    have g0 : w.cell? ⟨g, jx * 3, none⟩ = some P0 := hs.after g00
    have g1 : w.cell? ⟨g, jx * 3 + 1, none⟩ = some P1 := hs.after g10
    have g2 : w.cell? ⟨g, jx * 3 + 2, none⟩ = some P2 := hs.after g20
    have lj : (jx : Int) < (n : Int) := lj0
    have c153 : ∀ w', Step noF w w' → Calls Tryz.prog 11 #[.pointer (some ⟨q, 0, none⟩)] w' fun e w'' => ∃ v, e = .returned v ∧ Step noF w' w'' ∧ ∃ x, v = x ∧ NdV w'' D x := fun w' s' => c1530 w' (hs.trans s')
    have c158 : ∀ x w', Step noF w w' → NdV w' D x → Calls Tryz.prog 10 #[x, .agg #[P0, P1, P2]] w' fun e w'' => e = .returned (.bool true) ∧ Step noF w' w'' := fun x w' s' => c1580 x w' (hs.trans s')
    have t1 : w.cell? ⟨tb, tf + jm, none⟩ = some (.string (str K)) := hs.after t10
    have s1 : w.cell? ⟨sb, sf + jm, none⟩ = some (.string (str K)) := hs.after s10
    have gj : (0 : Int) < (jx : Int) := gj0
    have ej : (jx : Int) - 1 = (jm : Int) := ej0
    have wj : IntKind.i64.wrap (jm : Int) = (jm : Int) := wj0
    have lm : (jm : Int) < (tn : Int) := lm0
    match i, hi with
    | 0, _ =>
      refine op_runs (d := some 143) iptbOp0 (wants_none a) (v := .slice (some ⟨b, 0, none⟩) n n) (w' := w) ?_ ⟨143, _, rfl, rfl, Step.refl _ _, rfl⟩
      intro oo hoo
      simp only [execOp, hoo, Act.eval, n15]
      go_simp
    | 1, _ =>
      refine op_runs (d := some 144) iptbOp1 (wants_none a) (v := .int .i64 jx) (w' := w) ?_ ⟨144, _, rfl, rfl, Step.refl _ _, rfl⟩
      intro oo hoo
      simp only [execOp, hoo, Act.eval, n19]
      go_simp
    | 2, _ =>
      have n143 : a.tmps.getD 143 undef = _ := hat 0 (lc (by kernel_rfl)) 143 rfl
      have n144 : a.tmps.getD 144 undef = _ := hat 1 (lc (by kernel_rfl)) 144 rfl
      refine op_runs (d := some 145) iptbOp2 (wants_none a) (v := .pointer (some ⟨b, jx, none⟩)) (w' := w) ?_ ⟨145, _, rfl, rfl, Step.refl _ _, rfl⟩
      intro oo hoo
      simp only [execOp, hoo, Act.eval, n143, n144]
      go_simp
    | 3, _ =>
      have n145 : a.tmps.getD 145 undef = _ := hat 2 (lc (by kernel_rfl)) 145 rfl
      refine op_runs (d := some 146) iptbOp3 (wants_none a) (v := .pointer (some ⟨q, 0, none⟩)) (w' := w) ?_ ⟨146, _, rfl, rfl, Step.refl _ _, rfl⟩
      intro oo hoo
      simp only [execOp, hoo, Act.eval, n145]
      go_simp
    | 4, _ =>
      have n146 : a.tmps.getD 146 undef = _ := hat 3 (lc (by kernel_rfl)) 146 rfl
      refine op_runs (d := some 147) iptbOp4 (wants_none a) (v := .bool false) (w' := w) ?_ ⟨147, _, rfl, rfl, Step.refl _ _, rfl⟩
      intro oo hoo
      simp only [execOp, hoo, Act.eval, n146]
      go_simp
    | 5, _ =>
      have n147 : a.tmps.getD 147 undef = _ := hat 4 (lc (by kernel_rfl)) 147 rfl
      refine op_runs (d := some 148) iptbOp5 (wants_none a) (v := .bool false) (w' := w) ?_ ⟨148, _, rfl, rfl, Step.refl _ _, rfl⟩
      intro oo hoo
      simp only [execOp, hoo, Act.eval, n147]
      go_simp
    | 6, _ =>
      have n148 : a.tmps.getD 148 undef = _ := hat 5 (lc (by kernel_rfl)) 148 rfl
      refine op_runs (d := some 149) iptbOp6 (wants_some (d := 148) (b := false) (by kernel_rfl) n148) (v := .slice (some ⟨b, 0, none⟩) n n) (w' := w) ?_ ⟨149, _, rfl, rfl, Step.refl _ _, rfl⟩
      intro oo hoo
      simp only [execOp, hoo, Act.eval, n15]
      go_simp
    | 7, _ =>
      have n148 : a.tmps.getD 148 undef = _ := hat 5 (lc (by kernel_rfl)) 148 rfl
      refine op_runs (d := some 150) iptbOp7 (wants_some (d := 148) (b := false) (by kernel_rfl) n148) (v := .int .i64 jx) (w' := w) ?_ ⟨150, _, rfl, rfl, Step.refl _ _, rfl⟩
      intro oo hoo
      simp only [execOp, hoo, Act.eval, n19]
      go_simp
    | 8, _ =>
      have n149 : a.tmps.getD 149 undef = _ := hat 6 (lc (by kernel_rfl)) 149 rfl
      have n150 : a.tmps.getD 150 undef = _ := hat 7 (lc (by kernel_rfl)) 150 rfl
      have n148 : a.tmps.getD 148 undef = _ := hat 5 (lc (by kernel_rfl)) 148 rfl
      refine op_runs (d := some 151) iptbOp8 (wants_some (d := 148) (b := false) (by kernel_rfl) n148) (v := .pointer (some ⟨b, jx, none⟩)) (w' := w) ?_ ⟨151, _, rfl, rfl, Step.refl _ _, rfl⟩
      intro oo hoo
      simp only [execOp, hoo, Act.eval, n149, n150]
      go_simp
    | 9, _ =>
      have n151 : a.tmps.getD 151 undef = _ := hat 8 (lc (by kernel_rfl)) 151 rfl
      have n148 : a.tmps.getD 148 undef = _ := hat 5 (lc (by kernel_rfl)) 148 rfl
      refine op_runs (d := some 152) iptbOp9 (wants_some (d := 148) (b := false) (by kernel_rfl) n148) (v := .pointer (some ⟨q, 0, none⟩)) (w' := w) ?_ ⟨152, _, rfl, rfl, Step.refl _ _, rfl⟩
      intro oo hoo
      simp only [execOp, hoo, Act.eval, n151]
      go_simp
    | 10, _ =>
      have n152 : a.tmps.getD 152 undef = _ := hat 9 (lc (by kernel_rfl)) 152 rfl
      have n148 : a.tmps.getD 148 undef = _ := hat 5 (lc (by kernel_rfl)) 148 rfl
      refine op_calls iptbOp10 (wants_some (d := 148) (b := false) (by kernel_rfl) n148) Tryz.func11 (by kernel_rfl) (by kernel_rfl) (args := #[.pointer (some ⟨q, 0, none⟩)]) (by simp [Act.eval, n152]) ((c153 w (Step.refl _ _)).mono ?_)
      rintro e w' ⟨v, rfl, s', hv⟩
      exact ⟨_, rfl, 153, _, rfl, rfl, s', hv⟩
    | 11, _ =>
      have n148 : a.tmps.getD 148 undef = _ := hat 5 (lc (by kernel_rfl)) 148 rfl
      refine op_runs (d := some 154) iptbOp11 (wants_some (d := 148) (b := false) (by kernel_rfl) n148) (v := .slice (some ⟨g, 0, none⟩) n gc) (w' := w) ?_ ⟨154, _, rfl, rfl, Step.refl _ _, rfl⟩
      intro oo hoo
      simp only [execOp, hoo, Act.eval, n17]
      go_simp
    | 12, _ =>
      have n148 : a.tmps.getD 148 undef = _ := hat 5 (lc (by kernel_rfl)) 148 rfl
      refine op_runs (d := some 155) iptbOp12 (wants_some (d := 148) (b := false) (by kernel_rfl) n148) (v := .int .i64 jx) (w' := w) ?_ ⟨155, _, rfl, rfl, Step.refl _ _, rfl⟩
      intro oo hoo
      simp only [execOp, hoo, Act.eval, n19]
      go_simp
    | 13, _ =>
      have n154 : a.tmps.getD 154 undef = _ := hat 11 (lc (by kernel_rfl)) 154 rfl
      have n155 : a.tmps.getD 155 undef = _ := hat 12 (lc (by kernel_rfl)) 155 rfl
      have n148 : a.tmps.getD 148 undef = _ := hat 5 (lc (by kernel_rfl)) 148 rfl
      refine op_runs (d := some 156) iptbOp13 (wants_some (d := 148) (b := false) (by kernel_rfl) n148) (v := .pointer (some ⟨g, jx * 3, none⟩)) (w' := w) ?_ ⟨156, _, rfl, rfl, Step.refl _ _, rfl⟩
      intro oo hoo
      simp only [execOp, hoo, Act.eval, n154, n155]
      go_simp
    | 14, _ =>
      have n156 : a.tmps.getD 156 undef = _ := hat 13 (lc (by kernel_rfl)) 156 rfl
      have n148 : a.tmps.getD 148 undef = _ := hat 5 (lc (by kernel_rfl)) 148 rfl
      refine op_runs (d := some 157) iptbOp14 (wants_some (d := 148) (b := false) (by kernel_rfl) n148) (v := .agg #[P0, P1, P2]) (w' := w) ?_ ⟨157, _, rfl, rfl, Step.refl _ _, rfl⟩
      intro oo hoo
      simp only [execOp, hoo, Act.eval, n156]
      go_simp
    | 15, _ =>
      have hp153 : iptbSp b g q n gc jx P0 P1 P2 D tb tf tc sb sf sc tn jm K 10 w (a.tmps.getD 153 undef) := hat 10 (lc (by kernel_rfl)) 153 rfl
      have hq153 := hp153
      obtain ⟨x153, n153, r153⟩ := hq153
      have n157 : a.tmps.getD 157 undef = _ := hat 14 (lc (by kernel_rfl)) 157 rfl
      have n148 : a.tmps.getD 148 undef = _ := hat 5 (lc (by kernel_rfl)) 148 rfl
      refine op_calls iptbOp15 (wants_some (d := 148) (b := false) (by kernel_rfl) n148) Tryz.func10 (by kernel_rfl) (by kernel_rfl) (args := #[x153, .agg #[P0, P1, P2]]) (by simp [Act.eval, n153, n157]) ((c158 _ w (Step.refl _ _) r153).mono ?_)
      rintro e w' ⟨rfl, s'⟩
      exact ⟨_, rfl, 158, _, rfl, rfl, s', rfl⟩
    | 16, _ =>
      have n158 : a.tmps.getD 158 undef = _ := hat 15 (lc (by kernel_rfl)) 158 rfl
      have n148 : a.tmps.getD 148 undef = _ := hat 5 (lc (by kernel_rfl)) 148 rfl
      refine op_runs (d := some 159) iptbOp16 (wants_some (d := 148) (b := false) (by kernel_rfl) n148) (v := .bool false) (w' := w) ?_ ⟨159, _, rfl, rfl, Step.refl _ _, rfl⟩
      intro oo hoo
      simp only [execOp, hoo, Act.eval, n158]
      go_simp
    | 17, _ =>
      have n148 : a.tmps.getD 148 undef = _ := hat 5 (lc (by kernel_rfl)) 148 rfl
      have n159 : a.tmps.getD 159 undef = _ := hat 16 (lc (by kernel_rfl)) 159 rfl
      refine op_runs (d := some 160) iptbOp17 (wants_none a) (v := .bool false) (w' := w) ?_ ⟨160, _, rfl, rfl, Step.refl _ _, rfl⟩
      intro oo hoo
      simp only [execOp, hoo, Act.eval, n148, n159]
      go_simp
    | 18, _ =>
      have n160 : a.tmps.getD 160 undef = _ := hat 17 (lc (by kernel_rfl)) 160 rfl
      refine op_runs (d := some 161) iptbOp18 (wants_none a) (v := .bool false) (w' := w) ?_ ⟨161, _, rfl, rfl, Step.refl _ _, rfl⟩
      intro oo hoo
      simp only [execOp, hoo, Act.eval, n160]
      go_simp
    | 19, _ =>
      have n161 : a.tmps.getD 161 undef = _ := hat 18 (lc (by kernel_rfl)) 161 rfl
      refine op_runs (d := some 162) iptbOp19 (wants_some (d := 161) (b := false) (by kernel_rfl) n161) (v := .int .i64 jx) (w' := w) ?_ ⟨162, _, rfl, rfl, Step.refl _ _, rfl⟩
      intro oo hoo
      simp only [execOp, hoo, Act.eval, n19]
      go_simp
    | 20, _ =>
      have n162 : a.tmps.getD 162 undef = _ := hat 19 (lc (by kernel_rfl)) 162 rfl
      have n161 : a.tmps.getD 161 undef = _ := hat 18 (lc (by kernel_rfl)) 161 rfl
      refine op_runs (d := some 163) iptbOp20 (wants_some (d := 161) (b := false) (by kernel_rfl) n161) (v := .bool true) (w' := w) ?_ ⟨163, _, rfl, rfl, Step.refl _ _, rfl⟩
      intro oo hoo
      simp only [execOp, hoo, Act.eval, n162]
      go_simp
      omega
    | 21, _ =>
      have n163 : a.tmps.getD 163 undef = _ := hat 20 (lc (by kernel_rfl)) 163 rfl
      have n161 : a.tmps.getD 161 undef = _ := hat 18 (lc (by kernel_rfl)) 161 rfl
      refine op_runs (d := some 164) iptbOp21 (wants_some (d := 161) (b := false) (by kernel_rfl) n161) (v := .bool true) (w' := w) ?_ ⟨164, _, rfl, rfl, Step.refl _ _, rfl⟩
      intro oo hoo
      simp only [execOp, hoo, Act.eval, n163]
      go_simp
    | 22, _ =>
      have n164 : a.tmps.getD 164 undef = _ := hat 21 (lc (by kernel_rfl)) 164 rfl
      refine op_runs (d := some 165) iptbOp22 (wants_some (d := 164) (b := true) (by kernel_rfl) n164) (v := .slice (some ⟨tb, tf, none⟩) tn tc) (w' := w) ?_ ⟨165, _, rfl, rfl, Step.refl _ _, rfl⟩
      intro oo hoo
      simp only [execOp, hoo, Act.eval, n16]
      go_simp
    | 23, _ =>
      have n164 : a.tmps.getD 164 undef = _ := hat 21 (lc (by kernel_rfl)) 164 rfl
      refine op_runs (d := some 166) iptbOp23 (wants_some (d := 164) (b := true) (by kernel_rfl) n164) (v := .int .i64 jx) (w' := w) ?_ ⟨166, _, rfl, rfl, Step.refl _ _, rfl⟩
      intro oo hoo
      simp only [execOp, hoo, Act.eval, n19]
      go_simp
    | 24, _ =>
      have n166 : a.tmps.getD 166 undef = _ := hat 23 (lc (by kernel_rfl)) 166 rfl
      have n164 : a.tmps.getD 164 undef = _ := hat 21 (lc (by kernel_rfl)) 164 rfl
      refine op_runs (d := some 167) iptbOp24 (wants_some (d := 164) (b := true) (by kernel_rfl) n164) (v := .int .i64 jm) (w' := w) ?_ ⟨167, _, rfl, rfl, Step.refl _ _, rfl⟩
      intro oo hoo
      simp only [execOp, hoo, Act.eval, n166]
      go_simp
    | 25, _ =>
      have n165 : a.tmps.getD 165 undef = _ := hat 22 (lc (by kernel_rfl)) 165 rfl
      have n167 : a.tmps.getD 167 undef = _ := hat 24 (lc (by kernel_rfl)) 167 rfl
      have n164 : a.tmps.getD 164 undef = _ := hat 21 (lc (by kernel_rfl)) 164 rfl
      refine op_runs (d := some 168) iptbOp25 (wants_some (d := 164) (b := true) (by kernel_rfl) n164) (v := .pointer (some ⟨tb, tf + jm, none⟩)) (w' := w) ?_ ⟨168, _, rfl, rfl, Step.refl _ _, rfl⟩
      intro oo hoo
      simp only [execOp, hoo, Act.eval, n165, n167]
      go_simp
    | 26, _ =>
      have n168 : a.tmps.getD 168 undef = _ := hat 25 (lc (by kernel_rfl)) 168 rfl
      have n164 : a.tmps.getD 164 undef = _ := hat 21 (lc (by kernel_rfl)) 164 rfl
      refine op_runs (d := some 169) iptbOp26 (wants_some (d := 164) (b := true) (by kernel_rfl) n164) (v := .string (str K)) (w' := w) ?_ ⟨169, _, rfl, rfl, Step.refl _ _, rfl⟩
      intro oo hoo
      simp only [execOp, hoo, Act.eval, n168]
      go_simp
    | 27, _ =>
      have n164 : a.tmps.getD 164 undef = _ := hat 21 (lc (by kernel_rfl)) 164 rfl
      refine op_runs (d := some 170) iptbOp27 (wants_some (d := 164) (b := true) (by kernel_rfl) n164) (v := .slice (some ⟨sb, sf, none⟩) tn sc) (w' := w) ?_ ⟨170, _, rfl, rfl, Step.refl _ _, rfl⟩
      intro oo hoo
      simp only [execOp, hoo, Act.eval, n18]
      go_simp
    | 28, _ =>
      have n164 : a.tmps.getD 164 undef = _ := hat 21 (lc (by kernel_rfl)) 164 rfl
      refine op_runs (d := some 171) iptbOp28 (wants_some (d := 164) (b := true) (by kernel_rfl) n164) (v := .int .i64 jx) (w' := w) ?_ ⟨171, _, rfl, rfl, Step.refl _ _, rfl⟩
      intro oo hoo
      simp only [execOp, hoo, Act.eval, n19]
      go_simp
    | 29, _ =>
      have n171 : a.tmps.getD 171 undef = _ := hat 28 (lc (by kernel_rfl)) 171 rfl
      have n164 : a.tmps.getD 164 undef = _ := hat 21 (lc (by kernel_rfl)) 164 rfl
      refine op_runs (d := some 172) iptbOp29 (wants_some (d := 164) (b := true) (by kernel_rfl) n164) (v := .int .i64 jm) (w' := w) ?_ ⟨172, _, rfl, rfl, Step.refl _ _, rfl⟩
      intro oo hoo
      simp only [execOp, hoo, Act.eval, n171]
      go_simp
    | 30, _ =>
      have n170 : a.tmps.getD 170 undef = _ := hat 27 (lc (by kernel_rfl)) 170 rfl
      have n172 : a.tmps.getD 172 undef = _ := hat 29 (lc (by kernel_rfl)) 172 rfl
      have n164 : a.tmps.getD 164 undef = _ := hat 21 (lc (by kernel_rfl)) 164 rfl
      refine op_runs (d := some 173) iptbOp30 (wants_some (d := 164) (b := true) (by kernel_rfl) n164) (v := .pointer (some ⟨sb, sf + jm, none⟩)) (w' := w) ?_ ⟨173, _, rfl, rfl, Step.refl _ _, rfl⟩
      intro oo hoo
      simp only [execOp, hoo, Act.eval, n170, n172]
      go_simp
    | 31, _ =>
      have n173 : a.tmps.getD 173 undef = _ := hat 30 (lc (by kernel_rfl)) 173 rfl
      have n164 : a.tmps.getD 164 undef = _ := hat 21 (lc (by kernel_rfl)) 164 rfl
      refine op_runs (d := some 174) iptbOp31 (wants_some (d := 164) (b := true) (by kernel_rfl) n164) (v := .string (str K)) (w' := w) ?_ ⟨174, _, rfl, rfl, Step.refl _ _, rfl⟩
      intro oo hoo
      simp only [execOp, hoo, Act.eval, n173]
      go_simp
    | 32, _ =>
      have n169 : a.tmps.getD 169 undef = _ := hat 26 (lc (by kernel_rfl)) 169 rfl
      have n174 : a.tmps.getD 174 undef = _ := hat 31 (lc (by kernel_rfl)) 174 rfl
      have n164 : a.tmps.getD 164 undef = _ := hat 21 (lc (by kernel_rfl)) 164 rfl
      refine op_runs (d := some 175) iptbOp32 (wants_some (d := 164) (b := true) (by kernel_rfl) n164) (v := .bool false) (w' := w) ?_ ⟨175, _, rfl, rfl, Step.refl _ _, rfl⟩
      intro oo hoo
      simp only [execOp, hoo, Act.eval, n169, n174]
      have hE := same_str
      go_simp
    | 33, _ =>
      have n164 : a.tmps.getD 164 undef = _ := hat 21 (lc (by kernel_rfl)) 164 rfl
      have n175 : a.tmps.getD 175 undef = _ := hat 32 (lc (by kernel_rfl)) 175 rfl
      have n161 : a.tmps.getD 161 undef = _ := hat 18 (lc (by kernel_rfl)) 161 rfl
      refine op_runs (d := some 176) iptbOp33 (wants_some (d := 161) (b := false) (by kernel_rfl) n161) (v := .bool false) (w' := w) ?_ ⟨176, _, rfl, rfl, Step.refl _ _, rfl⟩
      intro oo hoo
      simp only [execOp, hoo, Act.eval, n164, n175]
      go_simp
    | 34, _ =>
      have n161 : a.tmps.getD 161 undef = _ := hat 18 (lc (by kernel_rfl)) 161 rfl
      have n176 : a.tmps.getD 176 undef = _ := hat 33 (lc (by kernel_rfl)) 176 rfl
      refine op_runs (d := some 177) iptbOp34 (wants_none a) (v := .bool false) (w' := w) ?_ ⟨177, _, rfl, rfl, Step.refl _ _, rfl⟩
      intro oo hoo
      simp only [execOp, hoo, Act.eval, n161, n176]
      go_simp
    | k + 35, h => exact absurd h (by omega)
  · intro a w hs hdf hs2 hfr hat
    rw [iptb_size] at hat
    have e := act_vals (a := a) (a0 := a0) iptbDs (by decide) (fun d hd => by rw [hsz]; exact iptb_lt d (by revert hd; revert d; decide)) hdf hs2 (fun k hk => hfr k (fun hk2 => hk (by revert hk2; simp [iptbDl, iptbDs])))
    rw [e]
    exact hend (fun d => a.tmps.getD d undef) w hs (hat 34 (by omega) 177 rfl)
set_option maxRecDepth 100000 in
theorem iptb_lit (f : Nat → Value) (D : List Deferred) (x0 x1 x2 x3 x4 x5 x6 x7 x8 x9 x10 x11 x12 x13 x14 x15 x16 x17 x18 x19 x20 x21 x22 x23 x24 x25 x26 x27 x28 x29 x30 x31 x32 x33 x34 x35 x36 x37 x38 x39 x40 x41 x42 x43 x44 x45 x46 x47 x48 x49 x50 x51 x52 x53 x54 x55 x56 x57 x58 x59 x60 x61 x62 x63 x64 x65 x66 x67 x68 x69 x70 x71 x72 x73 x74 x75 x76 x77 x78 x79 x80 x81 x82 x83 x84 x85 x86 x87 x88 x89 x90 x91 x92 x93 x94 x95 x96 x97 x98 x99 x100 x101 x102 x103 x104 x105 x106 x107 x108 x109 x110 x111 x112 x113 x114 x115 x116 x117 x118 x119 x120 x121 x122 x123 x124 x125 x126 x127 x128 x129 x130 x131 x132 x133 x134 x135 x136 x137 x138 x139 x140 x141 x142 x143 x144 x145 x146 x147 x148 x149 x150 x151 x152 x153 x154 x155 x156 x157 x158 x159 x160 x161 x162 x163 x164 x165 x166 x167 x168 x169 x170 x171 x172 x173 x174 x175 x176 x177 x178 x179 x180 x181 x182 x183 x184 x185 x186 x187 x188 x189 x190 x191 x192 x193 x194 x195 x196 x197 x198 x199 x200 x201 x202 x203 x204 x205 x206 x207 x208 x209 x210 x211 x212 x213 x214 x215 x216 x217 x218 x219 x220 x221 x222 x223 x224 x225 x226 x227 x228 x229 x230 x231 x232 x233 x234 x235 x236 x237 x238 x239 x240 x241 x242 x243 x244 x245 x246 x247 x248 x249 x250 x251 x252 x253 x254 x255 x256 x257 x258 x259 x260 x261 x262 x263 x264 x265 x266 x267 x268 x269 x270 x271 x272 x273 x274 x275 x276 x277 x278 x279 x280 x281 x282 x283 x284 x285 x286 x287 x288 x289 x290 x291 x292 x293 x294 x295 x296 x297 x298 x299 x300 x301 x302 x303 x304 x305 x306 x307 x308 x309 x310 x311 x312 x313 x314 x315 x316 x317 x318 x319 x320 x321 x322 x323 x324 x325 x326 x327 x328 x329 x330 : Value) : putAll { tmps := #[x0, x1, x2, x3, x4, x5, x6, x7, x8, x9, x10, x11, x12, x13, x14, x15, x16, x17, x18, x19, x20, x21, x22, x23, x24, x25, x26, x27, x28, x29, x30, x31, x32, x33, x34, x35, x36, x37, x38, x39, x40, x41, x42, x43, x44, x45, x46, x47, x48, x49, x50, x51, x52, x53, x54, x55, x56, x57, x58, x59, x60, x61, x62, x63, x64, x65, x66, x67, x68, x69, x70, x71, x72, x73, x74, x75, x76, x77, x78, x79, x80, x81, x82, x83, x84, x85, x86, x87, x88, x89, x90, x91, x92, x93, x94, x95, x96, x97, x98, x99, x100, x101, x102, x103, x104, x105, x106, x107, x108, x109, x110, x111, x112, x113, x114, x115, x116, x117, x118, x119, x120, x121, x122, x123, x124, x125, x126, x127, x128, x129, x130, x131, x132, x133, x134, x135, x136, x137, x138, x139, x140, x141, x142, x143, x144, x145, x146, x147, x148, x149, x150, x151, x152, x153, x154, x155, x156, x157, x158, x159, x160, x161, x162, x163, x164, x165, x166, x167, x168, x169, x170, x171, x172, x173, x174, x175, x176, x177, x178, x179, x180, x181, x182, x183, x184, x185, x186, x187, x188, x189, x190, x191, x192, x193, x194, x195, x196, x197, x198, x199, x200, x201, x202, x203, x204, x205, x206, x207, x208, x209, x210, x211, x212, x213, x214, x215, x216, x217, x218, x219, x220, x221, x222, x223, x224, x225, x226, x227, x228, x229, x230, x231, x232, x233, x234, x235, x236, x237, x238, x239, x240, x241, x242, x243, x244, x245, x246, x247, x248, x249, x250, x251, x252, x253, x254, x255, x256, x257, x258, x259, x260, x261, x262, x263, x264, x265, x266, x267, x268, x269, x270, x271, x272, x273, x274, x275, x276, x277, x278, x279, x280, x281, x282, x283, x284, x285, x286, x287, x288, x289, x290, x291, x292, x293, x294, x295, x296, x297, x298, x299, x300, x301, x302, x303, x304, x305, x306, x307, x308, x309, x310, x311, x312, x313, x314, x315, x316, x317, x318, x319, x320, x321, x322, x323, x324, x325, x326, x327, x328, x329, x330], defers := D } (iptbDs.map some) (iptbDs.map f) = { tmps := #[x0, x1, x2, x3, x4, x5, x6, x7, x8, x9, x10, x11, x12, x13, x14, x15, x16, x17, x18, x19, x20, x21, x22, x23, x24, x25, x26, x27, x28, x29, x30, x31, x32, x33, x34, x35, x36, x37, x38, x39, x40, x41, x42, x43, x44, x45, x46, x47, x48, x49, x50, x51, x52, x53, x54, x55, x56, x57, x58, x59, x60, x61, x62, x63, x64, x65, x66, x67, x68, x69, x70, x71, x72, x73, x74, x75, x76, x77, x78, x79, x80, x81, x82, x83, x84, x85, x86, x87, x88, x89, x90, x91, x92, x93, x94, x95, x96, x97, x98, x99, x100, x101, x102, x103, x104, x105, x106, x107, x108, x109, x110, x111, x112, x113, x114, x115, x116, x117, x118, x119, x120, x121, x122, x123, x124, x125, x126, x127, x128, x129, x130, x131, x132, x133, x134, x135, x136, x137, x138, x139, x140, x141, x142, f 143, f 144, f 145, f 146, f 147, f 148, f 149, f 150, f 151, f 152, f 153, f 154, f 155, f 156, f 157, f 158, f 159, f 160, f 161, f 162, f 163, f 164, f 165, f 166, f 167, f 168, f 169, f 170, f 171, f 172, f 173, f 174, f 175, f 176, f 177, x178, x179, x180, x181, x182, x183, x184, x185, x186, x187, x188, x189, x190, x191, x192, x193, x194, x195, x196, x197, x198, x199, x200, x201, x202, x203, x204, x205, x206, x207, x208, x209, x210, x211, x212, x213, x214, x215, x216, x217, x218, x219, x220, x221, x222, x223, x224, x225, x226, x227, x228, x229, x230, x231, x232, x233, x234, x235, x236, x237, x238, x239, x240, x241, x242, x243, x244, x245, x246, x247, x248, x249, x250, x251, x252, x253, x254, x255, x256, x257, x258, x259, x260, x261, x262, x263, x264, x265, x266, x267, x268, x269, x270, x271, x272, x273, x274, x275, x276, x277, x278, x279, x280, x281, x282, x283, x284, x285, x286, x287, x288, x289, x290, x291, x292, x293, x294, x295, x296, x297, x298, x299, x300, x301, x302, x303, x304, x305, x306, x307, x308, x309, x310, x311, x312, x313, x314, x315, x316, x317, x318, x319, x320, x321, x322, x323, x324, x325, x326, x327, x328, x329, x330], defers := D } := by kernel_rfl
end Go.Proofs.YtgmgoaencaldmaaGreat
namespace Go.Proofs.YtgmgoaencaldmaaGreat
open Go.RowKit
set_option linter.unusedVariables false
set_option linter.unusedSimpArgs false


def iptcDs : List Nat := [192, 193, 194, 195, 196, 197, 198, 199, 200, 201, 202, 203, 204, 205, 206, 207, 208, 209, 210, 211, 212, 213, 214, 215, 216, 217, 218, 219]
def iptcDl : List (Option Nat) := [some 192, some 193, some 194, some 195, some 196, some 197, some 198, some 199, some 200, some 201, some 202, some 203, some 204, some 205, some 206, some 207, some 208, some 209, some 210, some 211, some 212, some 213, some 214, some 215, some 216, some 217, some 218, some 219]
theorem iptc_dl : ((Tryz.f5.body.bind (regionOps 22)).getD #[]).toList.map (·.dst) = iptcDl := by kernel_rfl
theorem iptc_back : backB ((Tryz.f5.body.bind (regionOps 22)).getD #[]) = true := by kernel_rfl
theorem iptc_size : ((Tryz.f5.body.bind (regionOps 22)).getD #[]).size = 28 := by kernel_rfl
theorem iptc_nd : iptcDl.Pairwise (fun x y => x = none ∨ x ≠ y) := by decide
theorem iptc_lt (d : Nat) (h : some d ∈ iptcDl) : d < 331 := by
  have hh : iptcDl.all (fun o => o.all (fun d => decide (d < 331))) = true := by decide
  simpa using List.all_eq_true.1 hh _ h
theorem iptcOp0 : opIs ((Tryz.f5.body.bind (regionOps 22)).getD #[]) 0 (some 192) (Op.move (Operand.tmp 23)) (none) := opIs_of (by kernel_rfl)
theorem iptcOp1 : opIs ((Tryz.f5.body.bind (regionOps 22)).getD #[]) 1 (some 193) (Op.move (Operand.tmp 192)) (none) := opIs_of (by kernel_rfl)
theorem iptcOp2 : opIs ((Tryz.f5.body.bind (regionOps 22)).getD #[]) 2 (some 194) (Op.move (Operand.tmp 21)) (some (1, true)) := opIs_of (by kernel_rfl)
theorem iptcOp3 : opIs ((Tryz.f5.body.bind (regionOps 22)).getD #[]) 3 (some 195) (Op.binOp BinOp.neq 30 (Operand.tmp 194) (Operand.const (Value.int IntKind.i64 0)) 30) (some (1, true)) := opIs_of (by kernel_rfl)
theorem iptcOp4 : opIs ((Tryz.f5.body.bind (regionOps 22)).getD #[]) 4 (some 196) (Op.move (Operand.tmp 195)) (some (1, true)) := opIs_of (by kernel_rfl)
theorem iptcOp5 : opIs ((Tryz.f5.body.bind (regionOps 22)).getD #[]) 5 (some 197) (Op.move (Operand.tmp 20)) (some (4, false)) := opIs_of (by kernel_rfl)
theorem iptcOp6 : opIs ((Tryz.f5.body.bind (regionOps 22)).getD #[]) 6 (some 198) (Op.binOp BinOp.eql 29 (Operand.tmp 197) (Operand.const (Value.pointer none)) 29) (some (4, false)) := opIs_of (by kernel_rfl)
theorem iptcOp7 : opIs ((Tryz.f5.body.bind (regionOps 22)).getD #[]) 7 (some 199) (Op.pick (Operand.tmp 196) (Operand.const (Value.bool true)) (Operand.tmp 198)) (some (1, true)) := opIs_of (by kernel_rfl)
theorem iptcOp8 : opIs ((Tryz.f5.body.bind (regionOps 22)).getD #[]) 8 (some 200) (Op.move (Operand.tmp 199)) (some (1, true)) := opIs_of (by kernel_rfl)
theorem iptcOp9 : opIs ((Tryz.f5.body.bind (regionOps 22)).getD #[]) 9 (some 201) (Op.move (Operand.tmp 20)) (some (8, false)) := opIs_of (by kernel_rfl)
theorem iptcOp10 : opIs ((Tryz.f5.body.bind (regionOps 22)).getD #[]) 10 (some 202) (Op.call { callee := Callee.value (Operand.func 11), args := #[Operand.tmp 201], argTypes := #[29] }) (some (8, false)) := opIs_of (by kernel_rfl)
theorem iptcOp11 : opIs ((Tryz.f5.body.bind (regionOps 22)).getD #[]) 11 (some 203) (Op.load 34 (Operand.tmp 22)) (some (8, false)) := opIs_of (by kernel_rfl)
theorem iptcOp12 : opIs ((Tryz.f5.body.bind (regionOps 22)).getD #[]) 12 (some 204) (Op.call { callee := Callee.value (Operand.func 10), args := #[Operand.tmp 202, Operand.tmp 203], argTypes := #[34, 34] }) (some (8, false)) := opIs_of (by kernel_rfl)
theorem iptcOp13 : opIs ((Tryz.f5.body.bind (regionOps 22)).getD #[]) 13 (some 205) (Op.unOp UnOp.not 4 (Operand.tmp 204)) (some (8, false)) := opIs_of (by kernel_rfl)
theorem iptcOp14 : opIs ((Tryz.f5.body.bind (regionOps 22)).getD #[]) 14 (some 206) (Op.pick (Operand.tmp 200) (Operand.const (Value.bool true)) (Operand.tmp 205)) (some (1, true)) := opIs_of (by kernel_rfl)
theorem iptcOp15 : opIs ((Tryz.f5.body.bind (regionOps 22)).getD #[]) 15 (some 207) (Op.pick (Operand.tmp 193) (Operand.tmp 206) (Operand.const (Value.bool false))) (none) := opIs_of (by kernel_rfl)
theorem iptcOp16 : opIs ((Tryz.f5.body.bind (regionOps 22)).getD #[]) 16 (some 208) (Op.move (Operand.tmp 207)) (none) := opIs_of (by kernel_rfl)
theorem iptcOp17 : opIs ((Tryz.f5.body.bind (regionOps 22)).getD #[]) 17 (some 209) (Op.move (Operand.tmp 23)) (some (16, false)) := opIs_of (by kernel_rfl)
theorem iptcOp18 : opIs ((Tryz.f5.body.bind (regionOps 22)).getD #[]) 18 (some 210) (Op.unOp UnOp.not 4 (Operand.tmp 209)) (some (16, false)) := opIs_of (by kernel_rfl)
theorem iptcOp19 : opIs ((Tryz.f5.body.bind (regionOps 22)).getD #[]) 19 (some 211) (Op.move (Operand.tmp 210)) (some (16, false)) := opIs_of (by kernel_rfl)
theorem iptcOp20 : opIs ((Tryz.f5.body.bind (regionOps 22)).getD #[]) 20 (some 212) (Op.move (Operand.tmp 21)) (some (19, true)) := opIs_of (by kernel_rfl)
theorem iptcOp21 : opIs ((Tryz.f5.body.bind (regionOps 22)).getD #[]) 21 (some 213) (Op.binOp BinOp.neq 30 (Operand.tmp 212) (Operand.const (Value.int IntKind.i64 1)) 30) (some (19, true)) := opIs_of (by kernel_rfl)
theorem iptcOp22 : opIs ((Tryz.f5.body.bind (regionOps 22)).getD #[]) 22 (some 214) (Op.move (Operand.tmp 213)) (some (19, true)) := opIs_of (by kernel_rfl)
theorem iptcOp23 : opIs ((Tryz.f5.body.bind (regionOps 22)).getD #[]) 23 (some 215) (Op.move (Operand.tmp 20)) (some (22, false)) := opIs_of (by kernel_rfl)
theorem iptcOp24 : opIs ((Tryz.f5.body.bind (regionOps 22)).getD #[]) 24 (some 216) (Op.binOp BinOp.neq 29 (Operand.tmp 215) (Operand.const (Value.pointer none)) 29) (some (22, false)) := opIs_of (by kernel_rfl)
theorem iptcOp25 : opIs ((Tryz.f5.body.bind (regionOps 22)).getD #[]) 25 (some 217) (Op.pick (Operand.tmp 214) (Operand.const (Value.bool true)) (Operand.tmp 216)) (some (19, true)) := opIs_of (by kernel_rfl)
theorem iptcOp26 : opIs ((Tryz.f5.body.bind (regionOps 22)).getD #[]) 26 (some 218) (Op.pick (Operand.tmp 211) (Operand.tmp 217) (Operand.const (Value.bool false))) (some (16, false)) := opIs_of (by kernel_rfl)
theorem iptcOp27 : opIs ((Tryz.f5.body.bind (regionOps 22)).getD #[]) 27 (some 219) (Op.pick (Operand.tmp 208) (Operand.const (Value.bool true)) (Operand.tmp 218)) (none) := opIs_of (by kernel_rfl)
/-- What is said of each slot. -/
def iptcSp (p g : Nat) (SK SP SM : Value) (D : Nd) (i : Nat) (w : World) (v : Value) : Prop := match i with
  | 0 => v = .bool true
  | 1 => v = .bool true
  | 2 => v = .int .i64 0
  | 3 => v = .bool false
  | 4 => v = .bool false
  | 5 => v = .pointer (some ⟨p, 0, none⟩)
  | 6 => v = .bool false
  | 7 => v = .bool false
  | 8 => v = .bool false
  | 9 => v = .pointer (some ⟨p, 0, none⟩)
  | 10 => ∃ x, v = x ∧ NdV w D x
  | 11 => v = .agg #[SK, SP, SM]
  | 12 => v = .bool true
  | 13 => v = .bool false
  | 14 => v = .bool false
  | 15 => v = .bool false
  | 16 => v = .bool false
  | 17 => v = .bool true
  | 18 => v = .bool false
  | 19 => v = .bool false
  | 20 => v = undef
  | 21 => v = undef
  | 22 => v = undef
  | 23 => v = undef
  | 24 => v = undef
  | 25 => v = undef
  | 26 => v = .bool false
  | 27 => v = .bool false
  | _ => True
theorem iptcKeep202 (p g : Nat) (SK SP SM : Value) (D : Nd) {w w' : World} {v : Value} (hs : Step noF w w') (h : ∃ x, v = x ∧ NdV w D x) : ∃ x, v = x ∧ NdV w' D x := by
  obtain ⟨x, h1, h2⟩ := h; exact ⟨x, h1, h2.step hs⟩
theorem iptcSp_mono (p g : Nat) (SK SP SM : Value) (D : Nd) : ∀ i w w' v, Step noF w w' → iptcSp p g SK SP SM D i w v → iptcSp p g SK SP SM D i w' v := by
  intro i w w' v hs h
  match i with
  | 0 => exact h
  | 1 => exact h
  | 2 => exact h
  | 3 => exact h
  | 4 => exact h
  | 5 => exact h
  | 6 => exact h
  | 7 => exact h
  | 8 => exact h
  | 9 => exact h
  | 10 => exact iptcKeep202 p g SK SP SM D hs h
  | 11 => exact h
  | 12 => exact h
  | 13 => exact h
  | 14 => exact h
  | 15 => exact h
  | 16 => exact h
  | 17 => exact h
  | 18 => exact h
  | 19 => exact h
  | 20 => exact h
  | 21 => exact h
  | 22 => exact h
  | 23 => exact h
  | 24 => exact h
  | 25 => exact h
  | 26 => exact h
  | 27 => exact h
  | k + 28 => exact h

set_option maxHeartbeats 4000000 in
set_option maxRecDepth 100000 in
theorem iptc_go (p g : Nat) (SK SP SM : Value) (D : Nd) (w0 : World) (u00 : w0.cell? ⟨g, 0, none⟩ = some SK) (u10 : w0.cell? ⟨g, 1, none⟩ = some SP) (u20 : w0.cell? ⟨g, 2, none⟩ = some SM) (c2020 : ∀ w0', Step noF w0 w0' → Calls Tryz.prog 11 #[.pointer (some ⟨p, 0, none⟩)] w0' fun e w0'' => ∃ v, e = .returned v ∧ Step noF w0' w0'' ∧ ∃ x, v = x ∧ NdV w0'' D x) (c2040 : ∀ x w0', Step noF w0 w0' → NdV w0' D x → Calls Tryz.prog 10 #[x, .agg #[SK, SP, SM]] w0' fun e w0'' => e = .returned (.bool true) ∧ Step noF w0' w0'')
    {Q : Exit → Act → World → Prop} (a0 : Act) (hsz : a0.tmps.size = 331) (h20 : a0.tmps.getD 20 undef = .pointer (some ⟨p, 0, none⟩)) (h21 : a0.tmps.getD 21 undef = .int .i64 0) (h22 : a0.tmps.getD 22 undef = .pointer (some ⟨g, 0, none⟩)) (h23 : a0.tmps.getD 23 undef = .bool true)
    (hend : ∀ (f : Nat → Value) (w : World), Step noF w0 w → iptcSp p g SK SP SM D 27 w (f 219) → Q .normal (putAll a0 (iptcDs.map some) (iptcDs.map f)) w) :
    (Code.region 22 ((Tryz.f5.body.bind (regionOps 22)).getD #[]) true).wp Tryz.prog Q a0 w0 := by
  refine wp_region_preds (iptcSp p g SK SP SM D) (iptcSp_mono p g SK SP SM D) iptcDl (by kernel_rfl) iptc_back iptc_dl iptc_nd (fun d h => by rw [hsz]; exact iptc_lt d h) ?_ ?_
  · intro i hi a w hs hfr hat
    rw [iptc_size] at hi
    have n20 := (hfr 20 (by decide)).trans h20
    have n21 := (hfr 21 (by decide)).trans h21
    have n22 := (hfr 22 (by decide)).trans h22
    have n23 := (hfr 23 (by decide)).trans h23
    have u0 : w.cell? ⟨g, 0, none⟩ = some SK := hs.after u00
    have u1 : w.cell? ⟨g, 1, none⟩ = some SP := hs.after u10
    have u2 : w.cell? ⟨g, 2, none⟩ = some SM := hs.after u20
    have c202 : ∀ w', Step noF w w' → Calls Tryz.prog 11 #[.pointer (some ⟨p, 0, none⟩)] w' fun e w'' => ∃ v, e = .returned v ∧ Step noF w' w'' ∧ ∃ x, v = x ∧ NdV w'' D x := fun w' s' => c2020 w' (hs.trans s')
    have c204 : ∀ x w', Step noF w w' → NdV w' D x → Calls Tryz.prog 10 #[x, .agg #[SK, SP, SM]] w' fun e w'' => e = .returned (.bool true) ∧ Step noF w' w'' := fun x w' s' => c2040 x w' (hs.trans s')
    match i, hi with
    | 0, _ =>
      refine op_runs (d := some 192) iptcOp0 (wants_none a) (v := .bool true) (w' := w) ?_ ⟨192, _, rfl, rfl, Step.refl _ _, rfl⟩
      intro oo hoo
      simp only [execOp, hoo, Act.eval, n23]
      go_simp
    | 1, _ =>
      have n192 : a.tmps.getD 192 undef = _ := hat 0 (lc (by kernel_rfl)) 192 rfl
      refine op_runs (d := some 193) iptcOp1 (wants_none a) (v := .bool true) (w' := w) ?_ ⟨193, _, rfl, rfl, Step.refl _ _, rfl⟩
      intro oo hoo
      simp only [execOp, hoo, Act.eval, n192]
      go_simp
    | 2, _ =>
      have n193 : a.tmps.getD 193 undef = _ := hat 1 (lc (by kernel_rfl)) 193 rfl
      refine op_runs (d := some 194) iptcOp2 (wants_some (d := 193) (b := true) (by kernel_rfl) n193) (v := .int .i64 0) (w' := w) ?_ ⟨194, _, rfl, rfl, Step.refl _ _, rfl⟩
      intro oo hoo
      simp only [execOp, hoo, Act.eval, n21]
      go_simp
    | 3, _ =>
      have n194 : a.tmps.getD 194 undef = _ := hat 2 (lc (by kernel_rfl)) 194 rfl
      have n193 : a.tmps.getD 193 undef = _ := hat 1 (lc (by kernel_rfl)) 193 rfl
      refine op_runs (d := some 195) iptcOp3 (wants_some (d := 193) (b := true) (by kernel_rfl) n193) (v := .bool false) (w' := w) ?_ ⟨195, _, rfl, rfl, Step.refl _ _, rfl⟩
      intro oo hoo
      simp only [execOp, hoo, Act.eval, n194]
      go_simp
    | 4, _ =>
      have n195 : a.tmps.getD 195 undef = _ := hat 3 (lc (by kernel_rfl)) 195 rfl
      have n193 : a.tmps.getD 193 undef = _ := hat 1 (lc (by kernel_rfl)) 193 rfl
      refine op_runs (d := some 196) iptcOp4 (wants_some (d := 193) (b := true) (by kernel_rfl) n193) (v := .bool false) (w' := w) ?_ ⟨196, _, rfl, rfl, Step.refl _ _, rfl⟩
      intro oo hoo
      simp only [execOp, hoo, Act.eval, n195]
      go_simp
    | 5, _ =>
      have n196 : a.tmps.getD 196 undef = _ := hat 4 (lc (by kernel_rfl)) 196 rfl
      refine op_runs (d := some 197) iptcOp5 (wants_some (d := 196) (b := false) (by kernel_rfl) n196) (v := .pointer (some ⟨p, 0, none⟩)) (w' := w) ?_ ⟨197, _, rfl, rfl, Step.refl _ _, rfl⟩
      intro oo hoo
      simp only [execOp, hoo, Act.eval, n20]
      go_simp
    | 6, _ =>
      have n197 : a.tmps.getD 197 undef = _ := hat 5 (lc (by kernel_rfl)) 197 rfl
      have n196 : a.tmps.getD 196 undef = _ := hat 4 (lc (by kernel_rfl)) 196 rfl
      refine op_runs (d := some 198) iptcOp6 (wants_some (d := 196) (b := false) (by kernel_rfl) n196) (v := .bool false) (w' := w) ?_ ⟨198, _, rfl, rfl, Step.refl _ _, rfl⟩
      intro oo hoo
      simp only [execOp, hoo, Act.eval, n197]
      go_simp
    | 7, _ =>
      have n196 : a.tmps.getD 196 undef = _ := hat 4 (lc (by kernel_rfl)) 196 rfl
      have n198 : a.tmps.getD 198 undef = _ := hat 6 (lc (by kernel_rfl)) 198 rfl
      have n193 : a.tmps.getD 193 undef = _ := hat 1 (lc (by kernel_rfl)) 193 rfl
      refine op_runs (d := some 199) iptcOp7 (wants_some (d := 193) (b := true) (by kernel_rfl) n193) (v := .bool false) (w' := w) ?_ ⟨199, _, rfl, rfl, Step.refl _ _, rfl⟩
      intro oo hoo
      simp only [execOp, hoo, Act.eval, n196, n198]
      go_simp
    | 8, _ =>
      have n199 : a.tmps.getD 199 undef = _ := hat 7 (lc (by kernel_rfl)) 199 rfl
      have n193 : a.tmps.getD 193 undef = _ := hat 1 (lc (by kernel_rfl)) 193 rfl
      refine op_runs (d := some 200) iptcOp8 (wants_some (d := 193) (b := true) (by kernel_rfl) n193) (v := .bool false) (w' := w) ?_ ⟨200, _, rfl, rfl, Step.refl _ _, rfl⟩
      intro oo hoo
      simp only [execOp, hoo, Act.eval, n199]
      go_simp
    | 9, _ =>
      have n200 : a.tmps.getD 200 undef = _ := hat 8 (lc (by kernel_rfl)) 200 rfl
      refine op_runs (d := some 201) iptcOp9 (wants_some (d := 200) (b := false) (by kernel_rfl) n200) (v := .pointer (some ⟨p, 0, none⟩)) (w' := w) ?_ ⟨201, _, rfl, rfl, Step.refl _ _, rfl⟩
      intro oo hoo
      simp only [execOp, hoo, Act.eval, n20]
      go_simp
    | 10, _ =>
      have n201 : a.tmps.getD 201 undef = _ := hat 9 (lc (by kernel_rfl)) 201 rfl
      have n200 : a.tmps.getD 200 undef = _ := hat 8 (lc (by kernel_rfl)) 200 rfl
      refine op_calls iptcOp10 (wants_some (d := 200) (b := false) (by kernel_rfl) n200) Tryz.func11 (by kernel_rfl) (by kernel_rfl) (args := #[.pointer (some ⟨p, 0, none⟩)]) (by simp [Act.eval, n201]) ((c202 w (Step.refl _ _)).mono ?_)
      rintro e w' ⟨v, rfl, s', hv⟩
      exact ⟨_, rfl, 202, _, rfl, rfl, s', hv⟩
    | 11, _ =>
      have n200 : a.tmps.getD 200 undef = _ := hat 8 (lc (by kernel_rfl)) 200 rfl
      refine op_runs (d := some 203) iptcOp11 (wants_some (d := 200) (b := false) (by kernel_rfl) n200) (v := .agg #[SK, SP, SM]) (w' := w) ?_ ⟨203, _, rfl, rfl, Step.refl _ _, rfl⟩
      intro oo hoo
      simp only [execOp, hoo, Act.eval, n22]
      go_simp
    | 12, _ =>
      have hp202 : iptcSp p g SK SP SM D 10 w (a.tmps.getD 202 undef) := hat 10 (lc (by kernel_rfl)) 202 rfl
      have hq202 := hp202
      obtain ⟨x202, n202, r202⟩ := hq202
      have n203 : a.tmps.getD 203 undef = _ := hat 11 (lc (by kernel_rfl)) 203 rfl
      have n200 : a.tmps.getD 200 undef = _ := hat 8 (lc (by kernel_rfl)) 200 rfl
      refine op_calls iptcOp12 (wants_some (d := 200) (b := false) (by kernel_rfl) n200) Tryz.func10 (by kernel_rfl) (by kernel_rfl) (args := #[x202, .agg #[SK, SP, SM]]) (by simp [Act.eval, n202, n203]) ((c204 _ w (Step.refl _ _) r202).mono ?_)
      rintro e w' ⟨rfl, s'⟩
      exact ⟨_, rfl, 204, _, rfl, rfl, s', rfl⟩
    | 13, _ =>
      have n204 : a.tmps.getD 204 undef = _ := hat 12 (lc (by kernel_rfl)) 204 rfl
      have n200 : a.tmps.getD 200 undef = _ := hat 8 (lc (by kernel_rfl)) 200 rfl
      refine op_runs (d := some 205) iptcOp13 (wants_some (d := 200) (b := false) (by kernel_rfl) n200) (v := .bool false) (w' := w) ?_ ⟨205, _, rfl, rfl, Step.refl _ _, rfl⟩
      intro oo hoo
      simp only [execOp, hoo, Act.eval, n204]
      go_simp
    | 14, _ =>
      have n200 : a.tmps.getD 200 undef = _ := hat 8 (lc (by kernel_rfl)) 200 rfl
      have n205 : a.tmps.getD 205 undef = _ := hat 13 (lc (by kernel_rfl)) 205 rfl
      have n193 : a.tmps.getD 193 undef = _ := hat 1 (lc (by kernel_rfl)) 193 rfl
      refine op_runs (d := some 206) iptcOp14 (wants_some (d := 193) (b := true) (by kernel_rfl) n193) (v := .bool false) (w' := w) ?_ ⟨206, _, rfl, rfl, Step.refl _ _, rfl⟩
      intro oo hoo
      simp only [execOp, hoo, Act.eval, n200, n205]
      go_simp
    | 15, _ =>
      have n193 : a.tmps.getD 193 undef = _ := hat 1 (lc (by kernel_rfl)) 193 rfl
      have n206 : a.tmps.getD 206 undef = _ := hat 14 (lc (by kernel_rfl)) 206 rfl
      refine op_runs (d := some 207) iptcOp15 (wants_none a) (v := .bool false) (w' := w) ?_ ⟨207, _, rfl, rfl, Step.refl _ _, rfl⟩
      intro oo hoo
      simp only [execOp, hoo, Act.eval, n193, n206]
      go_simp
    | 16, _ =>
      have n207 : a.tmps.getD 207 undef = _ := hat 15 (lc (by kernel_rfl)) 207 rfl
      refine op_runs (d := some 208) iptcOp16 (wants_none a) (v := .bool false) (w' := w) ?_ ⟨208, _, rfl, rfl, Step.refl _ _, rfl⟩
      intro oo hoo
      simp only [execOp, hoo, Act.eval, n207]
      go_simp
    | 17, _ =>
      have n208 : a.tmps.getD 208 undef = _ := hat 16 (lc (by kernel_rfl)) 208 rfl
      refine op_runs (d := some 209) iptcOp17 (wants_some (d := 208) (b := false) (by kernel_rfl) n208) (v := .bool true) (w' := w) ?_ ⟨209, _, rfl, rfl, Step.refl _ _, rfl⟩
      intro oo hoo
      simp only [execOp, hoo, Act.eval, n23]
      go_simp
    | 18, _ =>
      have n209 : a.tmps.getD 209 undef = _ := hat 17 (lc (by kernel_rfl)) 209 rfl
      have n208 : a.tmps.getD 208 undef = _ := hat 16 (lc (by kernel_rfl)) 208 rfl
      refine op_runs (d := some 210) iptcOp18 (wants_some (d := 208) (b := false) (by kernel_rfl) n208) (v := .bool false) (w' := w) ?_ ⟨210, _, rfl, rfl, Step.refl _ _, rfl⟩
      intro oo hoo
      simp only [execOp, hoo, Act.eval, n209]
      go_simp
    | 19, _ =>
      have n210 : a.tmps.getD 210 undef = _ := hat 18 (lc (by kernel_rfl)) 210 rfl
      have n208 : a.tmps.getD 208 undef = _ := hat 16 (lc (by kernel_rfl)) 208 rfl
      refine op_runs (d := some 211) iptcOp19 (wants_some (d := 208) (b := false) (by kernel_rfl) n208) (v := .bool false) (w' := w) ?_ ⟨211, _, rfl, rfl, Step.refl _ _, rfl⟩
      intro oo hoo
      simp only [execOp, hoo, Act.eval, n210]
      go_simp
    | 20, _ =>
      have n211 : a.tmps.getD 211 undef = _ := hat 19 (lc (by kernel_rfl)) 211 rfl
      exact op_skip iptcOp20 (dj := 211) (by kernel_rfl) n211 (by decide) ⟨212, undef, rfl, rfl, Step.refl _ _, rfl⟩
    | 21, _ =>
      have n211 : a.tmps.getD 211 undef = _ := hat 19 (lc (by kernel_rfl)) 211 rfl
      exact op_skip iptcOp21 (dj := 211) (by kernel_rfl) n211 (by decide) ⟨213, undef, rfl, rfl, Step.refl _ _, rfl⟩
    | 22, _ =>
      have n211 : a.tmps.getD 211 undef = _ := hat 19 (lc (by kernel_rfl)) 211 rfl
      exact op_skip iptcOp22 (dj := 211) (by kernel_rfl) n211 (by decide) ⟨214, undef, rfl, rfl, Step.refl _ _, rfl⟩
    | 23, _ =>
      have n214 : a.tmps.getD 214 undef = _ := hat 22 (lc (by kernel_rfl)) 214 rfl
      exact op_skipU iptcOp23 (dj := 214) (by kernel_rfl) n214 ⟨215, undef, rfl, rfl, Step.refl _ _, rfl⟩
    | 24, _ =>
      have n214 : a.tmps.getD 214 undef = _ := hat 22 (lc (by kernel_rfl)) 214 rfl
      exact op_skipU iptcOp24 (dj := 214) (by kernel_rfl) n214 ⟨216, undef, rfl, rfl, Step.refl _ _, rfl⟩
    | 25, _ =>
      have n211 : a.tmps.getD 211 undef = _ := hat 19 (lc (by kernel_rfl)) 211 rfl
      exact op_skip iptcOp25 (dj := 211) (by kernel_rfl) n211 (by decide) ⟨217, undef, rfl, rfl, Step.refl _ _, rfl⟩
    | 26, _ =>
      have n211 : a.tmps.getD 211 undef = _ := hat 19 (lc (by kernel_rfl)) 211 rfl
      have n217 : a.tmps.getD 217 undef = _ := hat 25 (lc (by kernel_rfl)) 217 rfl
      have n208 : a.tmps.getD 208 undef = _ := hat 16 (lc (by kernel_rfl)) 208 rfl
      refine op_runs (d := some 218) iptcOp26 (wants_some (d := 208) (b := false) (by kernel_rfl) n208) (v := .bool false) (w' := w) ?_ ⟨218, _, rfl, rfl, Step.refl _ _, rfl⟩
      intro oo hoo
      simp only [execOp, hoo, Act.eval, n211, n217]
      go_simp
    | 27, _ =>
      have n208 : a.tmps.getD 208 undef = _ := hat 16 (lc (by kernel_rfl)) 208 rfl
      have n218 : a.tmps.getD 218 undef = _ := hat 26 (lc (by kernel_rfl)) 218 rfl
      refine op_runs (d := some 219) iptcOp27 (wants_none a) (v := .bool false) (w' := w) ?_ ⟨219, _, rfl, rfl, Step.refl _ _, rfl⟩
      intro oo hoo
      simp only [execOp, hoo, Act.eval, n208, n218]
      go_simp
    | k + 28, h => exact absurd h (by omega)
  · intro a w hs hdf hs2 hfr hat
    rw [iptc_size] at hat
    have e := act_vals (a := a) (a0 := a0) iptcDs (by decide) (fun d hd => by rw [hsz]; exact iptc_lt d (by revert hd; revert d; decide)) hdf hs2 (fun k hk => hfr k (fun hk2 => hk (by revert hk2; simp [iptcDl, iptcDs])))
    rw [e]
    exact hend (fun d => a.tmps.getD d undef) w hs (hat 27 (by omega) 219 rfl)
set_option maxRecDepth 100000 in
theorem iptc_lit (f : Nat → Value) (D : List Deferred) (x0 x1 x2 x3 x4 x5 x6 x7 x8 x9 x10 x11 x12 x13 x14 x15 x16 x17 x18 x19 x20 x21 x22 x23 x24 x25 x26 x27 x28 x29 x30 x31 x32 x33 x34 x35 x36 x37 x38 x39 x40 x41 x42 x43 x44 x45 x46 x47 x48 x49 x50 x51 x52 x53 x54 x55 x56 x57 x58 x59 x60 x61 x62 x63 x64 x65 x66 x67 x68 x69 x70 x71 x72 x73 x74 x75 x76 x77 x78 x79 x80 x81 x82 x83 x84 x85 x86 x87 x88 x89 x90 x91 x92 x93 x94 x95 x96 x97 x98 x99 x100 x101 x102 x103 x104 x105 x106 x107 x108 x109 x110 x111 x112 x113 x114 x115 x116 x117 x118 x119 x120 x121 x122 x123 x124 x125 x126 x127 x128 x129 x130 x131 x132 x133 x134 x135 x136 x137 x138 x139 x140 x141 x142 x143 x144 x145 x146 x147 x148 x149 x150 x151 x152 x153 x154 x155 x156 x157 x158 x159 x160 x161 x162 x163 x164 x165 x166 x167 x168 x169 x170 x171 x172 x173 x174 x175 x176 x177 x178 x179 x180 x181 x182 x183 x184 x185 x186 x187 x188 x189 x190 x191 x192 x193 x194 x195 x196 x197 x198 x199 x200 x201 x202 x203 x204 x205 x206 x207 x208 x209 x210 x211 x212 x213 x214 x215 x216 x217 x218 x219 x220 x221 x222 x223 x224 x225 x226 x227 x228 x229 x230 x231 x232 x233 x234 x235 x236 x237 x238 x239 x240 x241 x242 x243 x244 x245 x246 x247 x248 x249 x250 x251 x252 x253 x254 x255 x256 x257 x258 x259 x260 x261 x262 x263 x264 x265 x266 x267 x268 x269 x270 x271 x272 x273 x274 x275 x276 x277 x278 x279 x280 x281 x282 x283 x284 x285 x286 x287 x288 x289 x290 x291 x292 x293 x294 x295 x296 x297 x298 x299 x300 x301 x302 x303 x304 x305 x306 x307 x308 x309 x310 x311 x312 x313 x314 x315 x316 x317 x318 x319 x320 x321 x322 x323 x324 x325 x326 x327 x328 x329 x330 : Value) : putAll { tmps := #[x0, x1, x2, x3, x4, x5, x6, x7, x8, x9, x10, x11, x12, x13, x14, x15, x16, x17, x18, x19, x20, x21, x22, x23, x24, x25, x26, x27, x28, x29, x30, x31, x32, x33, x34, x35, x36, x37, x38, x39, x40, x41, x42, x43, x44, x45, x46, x47, x48, x49, x50, x51, x52, x53, x54, x55, x56, x57, x58, x59, x60, x61, x62, x63, x64, x65, x66, x67, x68, x69, x70, x71, x72, x73, x74, x75, x76, x77, x78, x79, x80, x81, x82, x83, x84, x85, x86, x87, x88, x89, x90, x91, x92, x93, x94, x95, x96, x97, x98, x99, x100, x101, x102, x103, x104, x105, x106, x107, x108, x109, x110, x111, x112, x113, x114, x115, x116, x117, x118, x119, x120, x121, x122, x123, x124, x125, x126, x127, x128, x129, x130, x131, x132, x133, x134, x135, x136, x137, x138, x139, x140, x141, x142, x143, x144, x145, x146, x147, x148, x149, x150, x151, x152, x153, x154, x155, x156, x157, x158, x159, x160, x161, x162, x163, x164, x165, x166, x167, x168, x169, x170, x171, x172, x173, x174, x175, x176, x177, x178, x179, x180, x181, x182, x183, x184, x185, x186, x187, x188, x189, x190, x191, x192, x193, x194, x195, x196, x197, x198, x199, x200, x201, x202, x203, x204, x205, x206, x207, x208, x209, x210, x211, x212, x213, x214, x215, x216, x217, x218, x219, x220, x221, x222, x223, x224, x225, x226, x227, x228, x229, x230, x231, x232, x233, x234, x235, x236, x237, x238, x239, x240, x241, x242, x243, x244, x245, x246, x247, x248, x249, x250, x251, x252, x253, x254, x255, x256, x257, x258, x259, x260, x261, x262, x263, x264, x265, x266, x267, x268, x269, x270, x271, x272, x273, x274, x275, x276, x277, x278, x279, x280, x281, x282, x283, x284, x285, x286, x287, x288, x289, x290, x291, x292, x293, x294, x295, x296, x297, x298, x299, x300, x301, x302, x303, x304, x305, x306, x307, x308, x309, x310, x311, x312, x313, x314, x315, x316, x317, x318, x319, x320, x321, x322, x323, x324, x325, x326, x327, x328, x329, x330], defers := D } (iptcDs.map some) (iptcDs.map f) = { tmps := #[x0, x1, x2, x3, x4, x5, x6, x7, x8, x9, x10, x11, x12, x13, x14, x15, x16, x17, x18, x19, x20, x21, x22, x23, x24, x25, x26, x27, x28, x29, x30, x31, x32, x33, x34, x35, x36, x37, x38, x39, x40, x41, x42, x43, x44, x45, x46, x47, x48, x49, x50, x51, x52, x53, x54, x55, x56, x57, x58, x59, x60, x61, x62, x63, x64, x65, x66, x67, x68, x69, x70, x71, x72, x73, x74, x75, x76, x77, x78, x79, x80, x81, x82, x83, x84, x85, x86, x87, x88, x89, x90, x91, x92, x93, x94, x95, x96, x97, x98, x99, x100, x101, x102, x103, x104, x105, x106, x107, x108, x109, x110, x111, x112, x113, x114, x115, x116, x117, x118, x119, x120, x121, x122, x123, x124, x125, x126, x127, x128, x129, x130, x131, x132, x133, x134, x135, x136, x137, x138, x139, x140, x141, x142, x143, x144, x145, x146, x147, x148, x149, x150, x151, x152, x153, x154, x155, x156, x157, x158, x159, x160, x161, x162, x163, x164, x165, x166, x167, x168, x169, x170, x171, x172, x173, x174, x175, x176, x177, x178, x179, x180, x181, x182, x183, x184, x185, x186, x187, x188, x189, x190, x191, f 192, f 193, f 194, f 195, f 196, f 197, f 198, f 199, f 200, f 201, f 202, f 203, f 204, f 205, f 206, f 207, f 208, f 209, f 210, f 211, f 212, f 213, f 214, f 215, f 216, f 217, f 218, f 219, x220, x221, x222, x223, x224, x225, x226, x227, x228, x229, x230, x231, x232, x233, x234, x235, x236, x237, x238, x239, x240, x241, x242, x243, x244, x245, x246, x247, x248, x249, x250, x251, x252, x253, x254, x255, x256, x257, x258, x259, x260, x261, x262, x263, x264, x265, x266, x267, x268, x269, x270, x271, x272, x273, x274, x275, x276, x277, x278, x279, x280, x281, x282, x283, x284, x285, x286, x287, x288, x289, x290, x291, x292, x293, x294, x295, x296, x297, x298, x299, x300, x301, x302, x303, x304, x305, x306, x307, x308, x309, x310, x311, x312, x313, x314, x315, x316, x317, x318, x319, x320, x321, x322, x323, x324, x325, x326, x327, x328, x329, x330], defers := D } := by kernel_rfl
end Go.Proofs.YtgmgoaencaldmaaGreat
namespace Go.Proofs.YtgmgoaencaldmaaGreat
open Go.RowKit
set_option linter.unusedVariables false
set_option linter.unusedSimpArgs false


def iptdDs : List Nat := [192, 193, 194, 195, 196, 197, 198, 199, 200, 201, 202, 203, 204, 205, 206, 207, 208, 209, 210, 211, 212, 213, 214, 215, 216, 217, 218, 219]
def iptdDl : List (Option Nat) := [some 192, some 193, some 194, some 195, some 196, some 197, some 198, some 199, some 200, some 201, some 202, some 203, some 204, some 205, some 206, some 207, some 208, some 209, some 210, some 211, some 212, some 213, some 214, some 215, some 216, some 217, some 218, some 219]
theorem iptd_dl : ((Tryz.f5.body.bind (regionOps 22)).getD #[]).toList.map (·.dst) = iptdDl := by kernel_rfl
theorem iptd_back : backB ((Tryz.f5.body.bind (regionOps 22)).getD #[]) = true := by kernel_rfl
theorem iptd_size : ((Tryz.f5.body.bind (regionOps 22)).getD #[]).size = 28 := by kernel_rfl
theorem iptd_nd : iptdDl.Pairwise (fun x y => x = none ∨ x ≠ y) := by decide
theorem iptd_lt (d : Nat) (h : some d ∈ iptdDl) : d < 331 := by
  have hh : iptdDl.all (fun o => o.all (fun d => decide (d < 331))) = true := by decide
  simpa using List.all_eq_true.1 hh _ h
theorem iptdOp0 : opIs ((Tryz.f5.body.bind (regionOps 22)).getD #[]) 0 (some 192) (Op.move (Operand.tmp 23)) (none) := opIs_of (by kernel_rfl)
theorem iptdOp1 : opIs ((Tryz.f5.body.bind (regionOps 22)).getD #[]) 1 (some 193) (Op.move (Operand.tmp 192)) (none) := opIs_of (by kernel_rfl)
theorem iptdOp2 : opIs ((Tryz.f5.body.bind (regionOps 22)).getD #[]) 2 (some 194) (Op.move (Operand.tmp 21)) (some (1, true)) := opIs_of (by kernel_rfl)
theorem iptdOp3 : opIs ((Tryz.f5.body.bind (regionOps 22)).getD #[]) 3 (some 195) (Op.binOp BinOp.neq 30 (Operand.tmp 194) (Operand.const (Value.int IntKind.i64 0)) 30) (some (1, true)) := opIs_of (by kernel_rfl)
theorem iptdOp4 : opIs ((Tryz.f5.body.bind (regionOps 22)).getD #[]) 4 (some 196) (Op.move (Operand.tmp 195)) (some (1, true)) := opIs_of (by kernel_rfl)
theorem iptdOp5 : opIs ((Tryz.f5.body.bind (regionOps 22)).getD #[]) 5 (some 197) (Op.move (Operand.tmp 20)) (some (4, false)) := opIs_of (by kernel_rfl)
theorem iptdOp6 : opIs ((Tryz.f5.body.bind (regionOps 22)).getD #[]) 6 (some 198) (Op.binOp BinOp.eql 29 (Operand.tmp 197) (Operand.const (Value.pointer none)) 29) (some (4, false)) := opIs_of (by kernel_rfl)
theorem iptdOp7 : opIs ((Tryz.f5.body.bind (regionOps 22)).getD #[]) 7 (some 199) (Op.pick (Operand.tmp 196) (Operand.const (Value.bool true)) (Operand.tmp 198)) (some (1, true)) := opIs_of (by kernel_rfl)
theorem iptdOp8 : opIs ((Tryz.f5.body.bind (regionOps 22)).getD #[]) 8 (some 200) (Op.move (Operand.tmp 199)) (some (1, true)) := opIs_of (by kernel_rfl)
theorem iptdOp9 : opIs ((Tryz.f5.body.bind (regionOps 22)).getD #[]) 9 (some 201) (Op.move (Operand.tmp 20)) (some (8, false)) := opIs_of (by kernel_rfl)
theorem iptdOp10 : opIs ((Tryz.f5.body.bind (regionOps 22)).getD #[]) 10 (some 202) (Op.call { callee := Callee.value (Operand.func 11), args := #[Operand.tmp 201], argTypes := #[29] }) (some (8, false)) := opIs_of (by kernel_rfl)
theorem iptdOp11 : opIs ((Tryz.f5.body.bind (regionOps 22)).getD #[]) 11 (some 203) (Op.load 34 (Operand.tmp 22)) (some (8, false)) := opIs_of (by kernel_rfl)
theorem iptdOp12 : opIs ((Tryz.f5.body.bind (regionOps 22)).getD #[]) 12 (some 204) (Op.call { callee := Callee.value (Operand.func 10), args := #[Operand.tmp 202, Operand.tmp 203], argTypes := #[34, 34] }) (some (8, false)) := opIs_of (by kernel_rfl)
theorem iptdOp13 : opIs ((Tryz.f5.body.bind (regionOps 22)).getD #[]) 13 (some 205) (Op.unOp UnOp.not 4 (Operand.tmp 204)) (some (8, false)) := opIs_of (by kernel_rfl)
theorem iptdOp14 : opIs ((Tryz.f5.body.bind (regionOps 22)).getD #[]) 14 (some 206) (Op.pick (Operand.tmp 200) (Operand.const (Value.bool true)) (Operand.tmp 205)) (some (1, true)) := opIs_of (by kernel_rfl)
theorem iptdOp15 : opIs ((Tryz.f5.body.bind (regionOps 22)).getD #[]) 15 (some 207) (Op.pick (Operand.tmp 193) (Operand.tmp 206) (Operand.const (Value.bool false))) (none) := opIs_of (by kernel_rfl)
theorem iptdOp16 : opIs ((Tryz.f5.body.bind (regionOps 22)).getD #[]) 16 (some 208) (Op.move (Operand.tmp 207)) (none) := opIs_of (by kernel_rfl)
theorem iptdOp17 : opIs ((Tryz.f5.body.bind (regionOps 22)).getD #[]) 17 (some 209) (Op.move (Operand.tmp 23)) (some (16, false)) := opIs_of (by kernel_rfl)
theorem iptdOp18 : opIs ((Tryz.f5.body.bind (regionOps 22)).getD #[]) 18 (some 210) (Op.unOp UnOp.not 4 (Operand.tmp 209)) (some (16, false)) := opIs_of (by kernel_rfl)
theorem iptdOp19 : opIs ((Tryz.f5.body.bind (regionOps 22)).getD #[]) 19 (some 211) (Op.move (Operand.tmp 210)) (some (16, false)) := opIs_of (by kernel_rfl)
theorem iptdOp20 : opIs ((Tryz.f5.body.bind (regionOps 22)).getD #[]) 20 (some 212) (Op.move (Operand.tmp 21)) (some (19, true)) := opIs_of (by kernel_rfl)
theorem iptdOp21 : opIs ((Tryz.f5.body.bind (regionOps 22)).getD #[]) 21 (some 213) (Op.binOp BinOp.neq 30 (Operand.tmp 212) (Operand.const (Value.int IntKind.i64 1)) 30) (some (19, true)) := opIs_of (by kernel_rfl)
theorem iptdOp22 : opIs ((Tryz.f5.body.bind (regionOps 22)).getD #[]) 22 (some 214) (Op.move (Operand.tmp 213)) (some (19, true)) := opIs_of (by kernel_rfl)
theorem iptdOp23 : opIs ((Tryz.f5.body.bind (regionOps 22)).getD #[]) 23 (some 215) (Op.move (Operand.tmp 20)) (some (22, false)) := opIs_of (by kernel_rfl)
theorem iptdOp24 : opIs ((Tryz.f5.body.bind (regionOps 22)).getD #[]) 24 (some 216) (Op.binOp BinOp.neq 29 (Operand.tmp 215) (Operand.const (Value.pointer none)) 29) (some (22, false)) := opIs_of (by kernel_rfl)
theorem iptdOp25 : opIs ((Tryz.f5.body.bind (regionOps 22)).getD #[]) 25 (some 217) (Op.pick (Operand.tmp 214) (Operand.const (Value.bool true)) (Operand.tmp 216)) (some (19, true)) := opIs_of (by kernel_rfl)
theorem iptdOp26 : opIs ((Tryz.f5.body.bind (regionOps 22)).getD #[]) 26 (some 218) (Op.pick (Operand.tmp 211) (Operand.tmp 217) (Operand.const (Value.bool false))) (some (16, false)) := opIs_of (by kernel_rfl)
theorem iptdOp27 : opIs ((Tryz.f5.body.bind (regionOps 22)).getD #[]) 27 (some 219) (Op.pick (Operand.tmp 208) (Operand.const (Value.bool true)) (Operand.tmp 218)) (none) := opIs_of (by kernel_rfl)
/-- What is said of each slot. -/
def iptdSp (g : Nat) (i : Nat) (w : World) (v : Value) : Prop := match i with
  | 0 => v = .bool false
  | 1 => v = .bool false
  | 2 => v = undef
  | 3 => v = undef
  | 4 => v = undef
  | 5 => v = undef
  | 6 => v = undef
  | 7 => v = undef
  | 8 => v = undef
  | 9 => v = undef
  | 10 => v = undef
  | 11 => v = undef
  | 12 => v = undef
  | 13 => v = undef
  | 14 => v = undef
  | 15 => v = .bool false
  | 16 => v = .bool false
  | 17 => v = .bool false
  | 18 => v = .bool true
  | 19 => v = .bool true
  | 20 => v = .int .i64 1
  | 21 => v = .bool false
  | 22 => v = .bool false
  | 23 => v = .pointer none
  | 24 => v = .bool false
  | 25 => v = .bool false
  | 26 => v = .bool false
  | 27 => v = .bool false
  | _ => True
theorem iptdSp_mono (g : Nat) : ∀ i w w' v, Step noF w w' → iptdSp g i w v → iptdSp g i w' v := by
  intro i w w' v hs h
  match i with
  | 0 => exact h
  | 1 => exact h
  | 2 => exact h
  | 3 => exact h
  | 4 => exact h
  | 5 => exact h
  | 6 => exact h
  | 7 => exact h
  | 8 => exact h
  | 9 => exact h
  | 10 => exact h
  | 11 => exact h
  | 12 => exact h
  | 13 => exact h
  | 14 => exact h
  | 15 => exact h
  | 16 => exact h
  | 17 => exact h
  | 18 => exact h
  | 19 => exact h
  | 20 => exact h
  | 21 => exact h
  | 22 => exact h
  | 23 => exact h
  | 24 => exact h
  | 25 => exact h
  | 26 => exact h
  | 27 => exact h
  | k + 28 => exact h

set_option maxHeartbeats 4000000 in
set_option maxRecDepth 100000 in
theorem iptd_go (g : Nat) (w0 : World) 
    {Q : Exit → Act → World → Prop} (a0 : Act) (hsz : a0.tmps.size = 331) (h20 : a0.tmps.getD 20 undef = .pointer none) (h21 : a0.tmps.getD 21 undef = .int .i64 1) (h22 : a0.tmps.getD 22 undef = .pointer (some ⟨g, 0, none⟩)) (h23 : a0.tmps.getD 23 undef = .bool false)
    (hend : ∀ (f : Nat → Value) (w : World), Step noF w0 w → iptdSp g 27 w (f 219) → Q .normal (putAll a0 (iptdDs.map some) (iptdDs.map f)) w) :
    (Code.region 22 ((Tryz.f5.body.bind (regionOps 22)).getD #[]) true).wp Tryz.prog Q a0 w0 := by
  refine wp_region_preds (iptdSp g) (iptdSp_mono g) iptdDl (by kernel_rfl) iptd_back iptd_dl iptd_nd (fun d h => by rw [hsz]; exact iptd_lt d h) ?_ ?_
  · intro i hi a w hs hfr hat
    rw [iptd_size] at hi
    have n20 := (hfr 20 (by decide)).trans h20
    have n21 := (hfr 21 (by decide)).trans h21
    have n22 := (hfr 22 (by decide)).trans h22
    have n23 := (hfr 23 (by decide)).trans h23
    match i, hi with
    | 0, _ =>
      refine op_runs (d := some 192) iptdOp0 (wants_none a) (v := .bool false) (w' := w) ?_ ⟨192, _, rfl, rfl, Step.refl _ _, rfl⟩
      intro oo hoo
      simp only [execOp, hoo, Act.eval, n23]
      go_simp
    | 1, _ =>
      have n192 : a.tmps.getD 192 undef = _ := hat 0 (lc (by kernel_rfl)) 192 rfl
      refine op_runs (d := some 193) iptdOp1 (wants_none a) (v := .bool false) (w' := w) ?_ ⟨193, _, rfl, rfl, Step.refl _ _, rfl⟩
      intro oo hoo
      simp only [execOp, hoo, Act.eval, n192]
      go_simp
    | 2, _ =>
      have n193 : a.tmps.getD 193 undef = _ := hat 1 (lc (by kernel_rfl)) 193 rfl
      exact op_skip iptdOp2 (dj := 193) (by kernel_rfl) n193 (by decide) ⟨194, undef, rfl, rfl, Step.refl _ _, rfl⟩
    | 3, _ =>
      have n193 : a.tmps.getD 193 undef = _ := hat 1 (lc (by kernel_rfl)) 193 rfl
      exact op_skip iptdOp3 (dj := 193) (by kernel_rfl) n193 (by decide) ⟨195, undef, rfl, rfl, Step.refl _ _, rfl⟩
    | 4, _ =>
      have n193 : a.tmps.getD 193 undef = _ := hat 1 (lc (by kernel_rfl)) 193 rfl
      exact op_skip iptdOp4 (dj := 193) (by kernel_rfl) n193 (by decide) ⟨196, undef, rfl, rfl, Step.refl _ _, rfl⟩
    | 5, _ =>
      have n196 : a.tmps.getD 196 undef = _ := hat 4 (lc (by kernel_rfl)) 196 rfl
      exact op_skipU iptdOp5 (dj := 196) (by kernel_rfl) n196 ⟨197, undef, rfl, rfl, Step.refl _ _, rfl⟩
    | 6, _ =>
      have n196 : a.tmps.getD 196 undef = _ := hat 4 (lc (by kernel_rfl)) 196 rfl
      exact op_skipU iptdOp6 (dj := 196) (by kernel_rfl) n196 ⟨198, undef, rfl, rfl, Step.refl _ _, rfl⟩
    | 7, _ =>
      have n193 : a.tmps.getD 193 undef = _ := hat 1 (lc (by kernel_rfl)) 193 rfl
      exact op_skip iptdOp7 (dj := 193) (by kernel_rfl) n193 (by decide) ⟨199, undef, rfl, rfl, Step.refl _ _, rfl⟩
    | 8, _ =>
      have n193 : a.tmps.getD 193 undef = _ := hat 1 (lc (by kernel_rfl)) 193 rfl
      exact op_skip iptdOp8 (dj := 193) (by kernel_rfl) n193 (by decide) ⟨200, undef, rfl, rfl, Step.refl _ _, rfl⟩
    | 9, _ =>
      have n200 : a.tmps.getD 200 undef = _ := hat 8 (lc (by kernel_rfl)) 200 rfl
      exact op_skipU iptdOp9 (dj := 200) (by kernel_rfl) n200 ⟨201, undef, rfl, rfl, Step.refl _ _, rfl⟩
    | 10, _ =>
      have n200 : a.tmps.getD 200 undef = _ := hat 8 (lc (by kernel_rfl)) 200 rfl
      exact op_skipU iptdOp10 (dj := 200) (by kernel_rfl) n200 ⟨202, undef, rfl, rfl, Step.refl _ _, rfl⟩
    | 11, _ =>
      have n200 : a.tmps.getD 200 undef = _ := hat 8 (lc (by kernel_rfl)) 200 rfl
      exact op_skipU iptdOp11 (dj := 200) (by kernel_rfl) n200 ⟨203, undef, rfl, rfl, Step.refl _ _, rfl⟩
    | 12, _ =>
      have n200 : a.tmps.getD 200 undef = _ := hat 8 (lc (by kernel_rfl)) 200 rfl
      exact op_skipU iptdOp12 (dj := 200) (by kernel_rfl) n200 ⟨204, undef, rfl, rfl, Step.refl _ _, rfl⟩
    | 13, _ =>
      have n200 : a.tmps.getD 200 undef = _ := hat 8 (lc (by kernel_rfl)) 200 rfl
      exact op_skipU iptdOp13 (dj := 200) (by kernel_rfl) n200 ⟨205, undef, rfl, rfl, Step.refl _ _, rfl⟩
    | 14, _ =>
      have n193 : a.tmps.getD 193 undef = _ := hat 1 (lc (by kernel_rfl)) 193 rfl
      exact op_skip iptdOp14 (dj := 193) (by kernel_rfl) n193 (by decide) ⟨206, undef, rfl, rfl, Step.refl _ _, rfl⟩
    | 15, _ =>
      have n193 : a.tmps.getD 193 undef = _ := hat 1 (lc (by kernel_rfl)) 193 rfl
      have n206 : a.tmps.getD 206 undef = _ := hat 14 (lc (by kernel_rfl)) 206 rfl
      refine op_runs (d := some 207) iptdOp15 (wants_none a) (v := .bool false) (w' := w) ?_ ⟨207, _, rfl, rfl, Step.refl _ _, rfl⟩
      intro oo hoo
      simp only [execOp, hoo, Act.eval, n193, n206]
      go_simp
    | 16, _ =>
      have n207 : a.tmps.getD 207 undef = _ := hat 15 (lc (by kernel_rfl)) 207 rfl
      refine op_runs (d := some 208) iptdOp16 (wants_none a) (v := .bool false) (w' := w) ?_ ⟨208, _, rfl, rfl, Step.refl _ _, rfl⟩
      intro oo hoo
      simp only [execOp, hoo, Act.eval, n207]
      go_simp
    | 17, _ =>
      have n208 : a.tmps.getD 208 undef = _ := hat 16 (lc (by kernel_rfl)) 208 rfl
      refine op_runs (d := some 209) iptdOp17 (wants_some (d := 208) (b := false) (by kernel_rfl) n208) (v := .bool false) (w' := w) ?_ ⟨209, _, rfl, rfl, Step.refl _ _, rfl⟩
      intro oo hoo
      simp only [execOp, hoo, Act.eval, n23]
      go_simp
    | 18, _ =>
      have n209 : a.tmps.getD 209 undef = _ := hat 17 (lc (by kernel_rfl)) 209 rfl
      have n208 : a.tmps.getD 208 undef = _ := hat 16 (lc (by kernel_rfl)) 208 rfl
      refine op_runs (d := some 210) iptdOp18 (wants_some (d := 208) (b := false) (by kernel_rfl) n208) (v := .bool true) (w' := w) ?_ ⟨210, _, rfl, rfl, Step.refl _ _, rfl⟩
      intro oo hoo
      simp only [execOp, hoo, Act.eval, n209]
      go_simp
    | 19, _ =>
      have n210 : a.tmps.getD 210 undef = _ := hat 18 (lc (by kernel_rfl)) 210 rfl
      have n208 : a.tmps.getD 208 undef = _ := hat 16 (lc (by kernel_rfl)) 208 rfl
      refine op_runs (d := some 211) iptdOp19 (wants_some (d := 208) (b := false) (by kernel_rfl) n208) (v := .bool true) (w' := w) ?_ ⟨211, _, rfl, rfl, Step.refl _ _, rfl⟩
      intro oo hoo
      simp only [execOp, hoo, Act.eval, n210]
      go_simp
    | 20, _ =>
      have n211 : a.tmps.getD 211 undef = _ := hat 19 (lc (by kernel_rfl)) 211 rfl
      refine op_runs (d := some 212) iptdOp20 (wants_some (d := 211) (b := true) (by kernel_rfl) n211) (v := .int .i64 1) (w' := w) ?_ ⟨212, _, rfl, rfl, Step.refl _ _, rfl⟩
      intro oo hoo
      simp only [execOp, hoo, Act.eval, n21]
      go_simp
    | 21, _ =>
      have n212 : a.tmps.getD 212 undef = _ := hat 20 (lc (by kernel_rfl)) 212 rfl
      have n211 : a.tmps.getD 211 undef = _ := hat 19 (lc (by kernel_rfl)) 211 rfl
      refine op_runs (d := some 213) iptdOp21 (wants_some (d := 211) (b := true) (by kernel_rfl) n211) (v := .bool false) (w' := w) ?_ ⟨213, _, rfl, rfl, Step.refl _ _, rfl⟩
      intro oo hoo
      simp only [execOp, hoo, Act.eval, n212]
      go_simp
    | 22, _ =>
      have n213 : a.tmps.getD 213 undef = _ := hat 21 (lc (by kernel_rfl)) 213 rfl
      have n211 : a.tmps.getD 211 undef = _ := hat 19 (lc (by kernel_rfl)) 211 rfl
      refine op_runs (d := some 214) iptdOp22 (wants_some (d := 211) (b := true) (by kernel_rfl) n211) (v := .bool false) (w' := w) ?_ ⟨214, _, rfl, rfl, Step.refl _ _, rfl⟩
      intro oo hoo
      simp only [execOp, hoo, Act.eval, n213]
      go_simp
    | 23, _ =>
      have n214 : a.tmps.getD 214 undef = _ := hat 22 (lc (by kernel_rfl)) 214 rfl
      refine op_runs (d := some 215) iptdOp23 (wants_some (d := 214) (b := false) (by kernel_rfl) n214) (v := .pointer none) (w' := w) ?_ ⟨215, _, rfl, rfl, Step.refl _ _, rfl⟩
      intro oo hoo
      simp only [execOp, hoo, Act.eval, n20]
      go_simp
    | 24, _ =>
      have n215 : a.tmps.getD 215 undef = _ := hat 23 (lc (by kernel_rfl)) 215 rfl
      have n214 : a.tmps.getD 214 undef = _ := hat 22 (lc (by kernel_rfl)) 214 rfl
      refine op_runs (d := some 216) iptdOp24 (wants_some (d := 214) (b := false) (by kernel_rfl) n214) (v := .bool false) (w' := w) ?_ ⟨216, _, rfl, rfl, Step.refl _ _, rfl⟩
      intro oo hoo
      simp only [execOp, hoo, Act.eval, n215]
      go_simp
    | 25, _ =>
      have n214 : a.tmps.getD 214 undef = _ := hat 22 (lc (by kernel_rfl)) 214 rfl
      have n216 : a.tmps.getD 216 undef = _ := hat 24 (lc (by kernel_rfl)) 216 rfl
      have n211 : a.tmps.getD 211 undef = _ := hat 19 (lc (by kernel_rfl)) 211 rfl
      refine op_runs (d := some 217) iptdOp25 (wants_some (d := 211) (b := true) (by kernel_rfl) n211) (v := .bool false) (w' := w) ?_ ⟨217, _, rfl, rfl, Step.refl _ _, rfl⟩
      intro oo hoo
      simp only [execOp, hoo, Act.eval, n214, n216]
      go_simp
    | 26, _ =>
      have n211 : a.tmps.getD 211 undef = _ := hat 19 (lc (by kernel_rfl)) 211 rfl
      have n217 : a.tmps.getD 217 undef = _ := hat 25 (lc (by kernel_rfl)) 217 rfl
      have n208 : a.tmps.getD 208 undef = _ := hat 16 (lc (by kernel_rfl)) 208 rfl
      refine op_runs (d := some 218) iptdOp26 (wants_some (d := 208) (b := false) (by kernel_rfl) n208) (v := .bool false) (w' := w) ?_ ⟨218, _, rfl, rfl, Step.refl _ _, rfl⟩
      intro oo hoo
      simp only [execOp, hoo, Act.eval, n211, n217]
      go_simp
    | 27, _ =>
      have n208 : a.tmps.getD 208 undef = _ := hat 16 (lc (by kernel_rfl)) 208 rfl
      have n218 : a.tmps.getD 218 undef = _ := hat 26 (lc (by kernel_rfl)) 218 rfl
      refine op_runs (d := some 219) iptdOp27 (wants_none a) (v := .bool false) (w' := w) ?_ ⟨219, _, rfl, rfl, Step.refl _ _, rfl⟩
      intro oo hoo
      simp only [execOp, hoo, Act.eval, n208, n218]
      go_simp
    | k + 28, h => exact absurd h (by omega)
  · intro a w hs hdf hs2 hfr hat
    rw [iptd_size] at hat
    have e := act_vals (a := a) (a0 := a0) iptdDs (by decide) (fun d hd => by rw [hsz]; exact iptd_lt d (by revert hd; revert d; decide)) hdf hs2 (fun k hk => hfr k (fun hk2 => hk (by revert hk2; simp [iptdDl, iptdDs])))
    rw [e]
    exact hend (fun d => a.tmps.getD d undef) w hs (hat 27 (by omega) 219 rfl)
set_option maxRecDepth 100000 in
theorem iptd_lit (f : Nat → Value) (D : List Deferred) (x0 x1 x2 x3 x4 x5 x6 x7 x8 x9 x10 x11 x12 x13 x14 x15 x16 x17 x18 x19 x20 x21 x22 x23 x24 x25 x26 x27 x28 x29 x30 x31 x32 x33 x34 x35 x36 x37 x38 x39 x40 x41 x42 x43 x44 x45 x46 x47 x48 x49 x50 x51 x52 x53 x54 x55 x56 x57 x58 x59 x60 x61 x62 x63 x64 x65 x66 x67 x68 x69 x70 x71 x72 x73 x74 x75 x76 x77 x78 x79 x80 x81 x82 x83 x84 x85 x86 x87 x88 x89 x90 x91 x92 x93 x94 x95 x96 x97 x98 x99 x100 x101 x102 x103 x104 x105 x106 x107 x108 x109 x110 x111 x112 x113 x114 x115 x116 x117 x118 x119 x120 x121 x122 x123 x124 x125 x126 x127 x128 x129 x130 x131 x132 x133 x134 x135 x136 x137 x138 x139 x140 x141 x142 x143 x144 x145 x146 x147 x148 x149 x150 x151 x152 x153 x154 x155 x156 x157 x158 x159 x160 x161 x162 x163 x164 x165 x166 x167 x168 x169 x170 x171 x172 x173 x174 x175 x176 x177 x178 x179 x180 x181 x182 x183 x184 x185 x186 x187 x188 x189 x190 x191 x192 x193 x194 x195 x196 x197 x198 x199 x200 x201 x202 x203 x204 x205 x206 x207 x208 x209 x210 x211 x212 x213 x214 x215 x216 x217 x218 x219 x220 x221 x222 x223 x224 x225 x226 x227 x228 x229 x230 x231 x232 x233 x234 x235 x236 x237 x238 x239 x240 x241 x242 x243 x244 x245 x246 x247 x248 x249 x250 x251 x252 x253 x254 x255 x256 x257 x258 x259 x260 x261 x262 x263 x264 x265 x266 x267 x268 x269 x270 x271 x272 x273 x274 x275 x276 x277 x278 x279 x280 x281 x282 x283 x284 x285 x286 x287 x288 x289 x290 x291 x292 x293 x294 x295 x296 x297 x298 x299 x300 x301 x302 x303 x304 x305 x306 x307 x308 x309 x310 x311 x312 x313 x314 x315 x316 x317 x318 x319 x320 x321 x322 x323 x324 x325 x326 x327 x328 x329 x330 : Value) : putAll { tmps := #[x0, x1, x2, x3, x4, x5, x6, x7, x8, x9, x10, x11, x12, x13, x14, x15, x16, x17, x18, x19, x20, x21, x22, x23, x24, x25, x26, x27, x28, x29, x30, x31, x32, x33, x34, x35, x36, x37, x38, x39, x40, x41, x42, x43, x44, x45, x46, x47, x48, x49, x50, x51, x52, x53, x54, x55, x56, x57, x58, x59, x60, x61, x62, x63, x64, x65, x66, x67, x68, x69, x70, x71, x72, x73, x74, x75, x76, x77, x78, x79, x80, x81, x82, x83, x84, x85, x86, x87, x88, x89, x90, x91, x92, x93, x94, x95, x96, x97, x98, x99, x100, x101, x102, x103, x104, x105, x106, x107, x108, x109, x110, x111, x112, x113, x114, x115, x116, x117, x118, x119, x120, x121, x122, x123, x124, x125, x126, x127, x128, x129, x130, x131, x132, x133, x134, x135, x136, x137, x138, x139, x140, x141, x142, x143, x144, x145, x146, x147, x148, x149, x150, x151, x152, x153, x154, x155, x156, x157, x158, x159, x160, x161, x162, x163, x164, x165, x166, x167, x168, x169, x170, x171, x172, x173, x174, x175, x176, x177, x178, x179, x180, x181, x182, x183, x184, x185, x186, x187, x188, x189, x190, x191, x192, x193, x194, x195, x196, x197, x198, x199, x200, x201, x202, x203, x204, x205, x206, x207, x208, x209, x210, x211, x212, x213, x214, x215, x216, x217, x218, x219, x220, x221, x222, x223, x224, x225, x226, x227, x228, x229, x230, x231, x232, x233, x234, x235, x236, x237, x238, x239, x240, x241, x242, x243, x244, x245, x246, x247, x248, x249, x250, x251, x252, x253, x254, x255, x256, x257, x258, x259, x260, x261, x262, x263, x264, x265, x266, x267, x268, x269, x270, x271, x272, x273, x274, x275, x276, x277, x278, x279, x280, x281, x282, x283, x284, x285, x286, x287, x288, x289, x290, x291, x292, x293, x294, x295, x296, x297, x298, x299, x300, x301, x302, x303, x304, x305, x306, x307, x308, x309, x310, x311, x312, x313, x314, x315, x316, x317, x318, x319, x320, x321, x322, x323, x324, x325, x326, x327, x328, x329, x330], defers := D } (iptdDs.map some) (iptdDs.map f) = { tmps := #[x0, x1, x2, x3, x4, x5, x6, x7, x8, x9, x10, x11, x12, x13, x14, x15, x16, x17, x18, x19, x20, x21, x22, x23, x24, x25, x26, x27, x28, x29, x30, x31, x32, x33, x34, x35, x36, x37, x38, x39, x40, x41, x42, x43, x44, x45, x46, x47, x48, x49, x50, x51, x52, x53, x54, x55, x56, x57, x58, x59, x60, x61, x62, x63, x64, x65, x66, x67, x68, x69, x70, x71, x72, x73, x74, x75, x76, x77, x78, x79, x80, x81, x82, x83, x84, x85, x86, x87, x88, x89, x90, x91, x92, x93, x94, x95, x96, x97, x98, x99, x100, x101, x102, x103, x104, x105, x106, x107, x108, x109, x110, x111, x112, x113, x114, x115, x116, x117, x118, x119, x120, x121, x122, x123, x124, x125, x126, x127, x128, x129, x130, x131, x132, x133, x134, x135, x136, x137, x138, x139, x140, x141, x142, x143, x144, x145, x146, x147, x148, x149, x150, x151, x152, x153, x154, x155, x156, x157, x158, x159, x160, x161, x162, x163, x164, x165, x166, x167, x168, x169, x170, x171, x172, x173, x174, x175, x176, x177, x178, x179, x180, x181, x182, x183, x184, x185, x186, x187, x188, x189, x190, x191, f 192, f 193, f 194, f 195, f 196, f 197, f 198, f 199, f 200, f 201, f 202, f 203, f 204, f 205, f 206, f 207, f 208, f 209, f 210, f 211, f 212, f 213, f 214, f 215, f 216, f 217, f 218, f 219, x220, x221, x222, x223, x224, x225, x226, x227, x228, x229, x230, x231, x232, x233, x234, x235, x236, x237, x238, x239, x240, x241, x242, x243, x244, x245, x246, x247, x248, x249, x250, x251, x252, x253, x254, x255, x256, x257, x258, x259, x260, x261, x262, x263, x264, x265, x266, x267, x268, x269, x270, x271, x272, x273, x274, x275, x276, x277, x278, x279, x280, x281, x282, x283, x284, x285, x286, x287, x288, x289, x290, x291, x292, x293, x294, x295, x296, x297, x298, x299, x300, x301, x302, x303, x304, x305, x306, x307, x308, x309, x310, x311, x312, x313, x314, x315, x316, x317, x318, x319, x320, x321, x322, x323, x324, x325, x326, x327, x328, x329, x330], defers := D } := by kernel_rfl
end Go.Proofs.YtgmgoaencaldmaaGreat
namespace Go.Proofs.YtgmgoaencaldmaaGreat
open Go.RowKit
set_option linter.unusedVariables false
set_option linter.unusedSimpArgs false


def ipteDs : List Nat := [279, 280, 281, 282, 283, 284, 285, 286, 287, 288, 289, 290, 291, 292, 293, 294, 295, 296, 297, 298, 299, 300, 301, 302, 303, 304, 305, 306, 307, 308, 309, 310, 311, 312, 313, 314, 315, 316, 317, 318, 319, 320, 321, 322, 323, 324, 325, 326, 327, 328, 329, 330, 6]
def ipteDl : List (Option Nat) := [some 279, some 280, some 281, some 282, some 283, some 284, some 285, some 286, some 287, some 288, some 289, some 290, some 291, some 292, some 293, some 294, some 295, some 296, some 297, some 298, some 299, some 300, some 301, some 302, some 303, some 304, some 305, some 306, some 307, some 308, some 309, some 310, some 311, some 312, some 313, some 314, some 315, some 316, some 317, some 318, some 319, some 320, some 321, some 322, some 323, some 324, some 325, some 326, some 327, some 328, some 329, some 330, some 6]
theorem ipte_dl : ((Tryz.f5.body.bind (regionOps 34)).getD #[]).toList.map (·.dst) = ipteDl := by kernel_rfl
theorem ipte_back : backB ((Tryz.f5.body.bind (regionOps 34)).getD #[]) = true := by kernel_rfl
theorem ipte_size : ((Tryz.f5.body.bind (regionOps 34)).getD #[]).size = 53 := by kernel_rfl
theorem ipte_nd : ipteDl.Pairwise (fun x y => x = none ∨ x ≠ y) := by decide
theorem ipte_lt (d : Nat) (h : some d ∈ ipteDl) : d < 331 := by
  have hh : ipteDl.all (fun o => o.all (fun d => decide (d < 331))) = true := by decide
  simpa using List.all_eq_true.1 hh _ h
theorem ipteOp0 : opIs ((Tryz.f5.body.bind (regionOps 34)).getD #[]) 0 (some 279) (Op.move (Operand.tmp 28)) (none) := opIs_of (by kernel_rfl)
theorem ipteOp1 : opIs ((Tryz.f5.body.bind (regionOps 34)).getD #[]) 1 (some 280) (Op.call { callee := Callee.builtin Builtin.len, args := #[Operand.tmp 279], argTypes := #[24] }) (none) := opIs_of (by kernel_rfl)
theorem ipteOp2 : opIs ((Tryz.f5.body.bind (regionOps 34)).getD #[]) 2 (some 281) (Op.move (Operand.tmp 38)) (none) := opIs_of (by kernel_rfl)
theorem ipteOp3 : opIs ((Tryz.f5.body.bind (regionOps 34)).getD #[]) 3 (some 282) (Op.call { callee := Callee.builtin Builtin.len, args := #[Operand.tmp 281], argTypes := #[61] }) (none) := opIs_of (by kernel_rfl)
theorem ipteOp4 : opIs ((Tryz.f5.body.bind (regionOps 34)).getD #[]) 4 (some 283) (Op.binOp BinOp.add 3 (Operand.tmp 280) (Operand.tmp 282) 3) (none) := opIs_of (by kernel_rfl)
theorem ipteOp5 : opIs ((Tryz.f5.body.bind (regionOps 34)).getD #[]) 5 (some 284) (Op.move (Operand.tmp 39)) (none) := opIs_of (by kernel_rfl)
theorem ipteOp6 : opIs ((Tryz.f5.body.bind (regionOps 34)).getD #[]) 6 (some 285) (Op.call { callee := Callee.builtin Builtin.len, args := #[Operand.tmp 284], argTypes := #[23] }) (none) := opIs_of (by kernel_rfl)
theorem ipteOp7 : opIs ((Tryz.f5.body.bind (regionOps 34)).getD #[]) 7 (some 286) (Op.binOp BinOp.add 3 (Operand.tmp 283) (Operand.tmp 285) 3) (none) := opIs_of (by kernel_rfl)
theorem ipteOp8 : opIs ((Tryz.f5.body.bind (regionOps 34)).getD #[]) 8 (some 287) (Op.move (Operand.tmp 24)) (none) := opIs_of (by kernel_rfl)
theorem ipteOp9 : opIs ((Tryz.f5.body.bind (regionOps 34)).getD #[]) 9 (some 288) (Op.call { callee := Callee.value (Operand.func 12), args := #[Operand.tmp 287], argTypes := #[29] }) (none) := opIs_of (by kernel_rfl)
theorem ipteOp10 : opIs ((Tryz.f5.body.bind (regionOps 34)).getD #[]) 10 (some 289) (Op.binOp BinOp.add 3 (Operand.tmp 286) (Operand.tmp 288) 3) (none) := opIs_of (by kernel_rfl)
theorem ipteOp11 : opIs ((Tryz.f5.body.bind (regionOps 34)).getD #[]) 11 (some 290) (Op.move (Operand.tmp 24)) (none) := opIs_of (by kernel_rfl)
theorem ipteOp12 : opIs ((Tryz.f5.body.bind (regionOps 34)).getD #[]) 12 (some 291) (Op.call { callee := Callee.value (Operand.func 30), args := #[Operand.tmp 290], argTypes := #[29] }) (none) := opIs_of (by kernel_rfl)
theorem ipteOp13 : opIs ((Tryz.f5.body.bind (regionOps 34)).getD #[]) 13 (some 292) (Op.call { callee := Callee.builtin Builtin.len, args := #[Operand.tmp 291], argTypes := #[22] }) (none) := opIs_of (by kernel_rfl)
theorem ipteOp14 : opIs ((Tryz.f5.body.bind (regionOps 34)).getD #[]) 14 (some 293) (Op.binOp BinOp.add 3 (Operand.tmp 289) (Operand.tmp 292) 3) (none) := opIs_of (by kernel_rfl)
theorem ipteOp15 : opIs ((Tryz.f5.body.bind (regionOps 34)).getD #[]) 15 (some 294) (Op.move (Operand.tmp 24)) (none) := opIs_of (by kernel_rfl)
theorem ipteOp16 : opIs ((Tryz.f5.body.bind (regionOps 34)).getD #[]) 16 (some 295) (Op.call { callee := Callee.value (Operand.func 31), args := #[Operand.tmp 294], argTypes := #[29] }) (none) := opIs_of (by kernel_rfl)
theorem ipteOp17 : opIs ((Tryz.f5.body.bind (regionOps 34)).getD #[]) 17 (some 296) (Op.call { callee := Callee.builtin Builtin.len, args := #[Operand.tmp 295], argTypes := #[23] }) (none) := opIs_of (by kernel_rfl)
theorem ipteOp18 : opIs ((Tryz.f5.body.bind (regionOps 34)).getD #[]) 18 (some 297) (Op.binOp BinOp.add 3 (Operand.tmp 293) (Operand.tmp 296) 3) (none) := opIs_of (by kernel_rfl)
theorem ipteOp19 : opIs ((Tryz.f5.body.bind (regionOps 34)).getD #[]) 19 (some 298) (Op.move (Operand.tmp 24)) (none) := opIs_of (by kernel_rfl)
theorem ipteOp20 : opIs ((Tryz.f5.body.bind (regionOps 34)).getD #[]) 20 (some 299) (Op.call { callee := Callee.value (Operand.func 13), args := #[Operand.tmp 298, Operand.const (Value.string { data := #[97] })], argTypes := #[29, 9] }) (none) := opIs_of (by kernel_rfl)
theorem ipteOp21 : opIs ((Tryz.f5.body.bind (regionOps 34)).getD #[]) 21 (some 300) (Op.binOp BinOp.add 3 (Operand.tmp 297) (Operand.tmp 299) 3) (none) := opIs_of (by kernel_rfl)
theorem ipteOp22 : opIs ((Tryz.f5.body.bind (regionOps 34)).getD #[]) 22 (some 301) (Op.binOp BinOp.eql 3 (Operand.tmp 300) (Operand.const (Value.int IntKind.i64 0)) 3) (none) := opIs_of (by kernel_rfl)
theorem ipteOp23 : opIs ((Tryz.f5.body.bind (regionOps 34)).getD #[]) 23 (some 302) (Op.move (Operand.tmp 301)) (none) := opIs_of (by kernel_rfl)
theorem ipteOp24 : opIs ((Tryz.f5.body.bind (regionOps 34)).getD #[]) 24 (some 303) (Op.move (Operand.tmp 24)) (some (23, true)) := opIs_of (by kernel_rfl)
theorem ipteOp25 : opIs ((Tryz.f5.body.bind (regionOps 34)).getD #[]) 25 (some 304) (Op.call { callee := Callee.value (Operand.func 32), args := #[Operand.tmp 303], argTypes := #[29] }) (some (23, true)) := opIs_of (by kernel_rfl)
theorem ipteOp26 : opIs ((Tryz.f5.body.bind (regionOps 34)).getD #[]) 26 (some 305) (Op.binOp BinOp.eql 71 (Operand.tmp 304) (Operand.const (Value.pointer none)) 71) (some (23, true)) := opIs_of (by kernel_rfl)
theorem ipteOp27 : opIs ((Tryz.f5.body.bind (regionOps 34)).getD #[]) 27 (some 306) (Op.pick (Operand.tmp 302) (Operand.tmp 305) (Operand.const (Value.bool false))) (none) := opIs_of (by kernel_rfl)
theorem ipteOp28 : opIs ((Tryz.f5.body.bind (regionOps 34)).getD #[]) 28 (some 307) (Op.move (Operand.tmp 306)) (none) := opIs_of (by kernel_rfl)
theorem ipteOp29 : opIs ((Tryz.f5.body.bind (regionOps 34)).getD #[]) 29 (some 308) (Op.move (Operand.tmp 24)) (some (28, true)) := opIs_of (by kernel_rfl)
theorem ipteOp30 : opIs ((Tryz.f5.body.bind (regionOps 34)).getD #[]) 30 (some 309) (Op.build 26 #[(0, Operand.const (Value.string { data := #[97] }))]) (some (28, true)) := opIs_of (by kernel_rfl)
theorem ipteOp31 : opIs ((Tryz.f5.body.bind (regionOps 34)).getD #[]) 31 (some 310) (Op.call { callee := Callee.value (Operand.func 15), args := #[Operand.tmp 308, Operand.const (Value.int IntKind.i64 0), Operand.tmp 309], argTypes := #[29, 3, 26] }) (some (28, true)) := opIs_of (by kernel_rfl)
theorem ipteOp32 : opIs ((Tryz.f5.body.bind (regionOps 34)).getD #[]) 32 (some 311) (Op.build 26 #[]) (some (28, true)) := opIs_of (by kernel_rfl)
theorem ipteOp33 : opIs ((Tryz.f5.body.bind (regionOps 34)).getD #[]) 33 (some 312) (Op.binOp BinOp.eql 26 (Operand.tmp 310) (Operand.tmp 311) 26) (some (28, true)) := opIs_of (by kernel_rfl)
theorem ipteOp34 : opIs ((Tryz.f5.body.bind (regionOps 34)).getD #[]) 34 (some 313) (Op.pick (Operand.tmp 307) (Operand.tmp 312) (Operand.const (Value.bool false))) (none) := opIs_of (by kernel_rfl)
theorem ipteOp35 : opIs ((Tryz.f5.body.bind (regionOps 34)).getD #[]) 35 (some 314) (Op.move (Operand.tmp 313)) (none) := opIs_of (by kernel_rfl)
theorem ipteOp36 : opIs ((Tryz.f5.body.bind (regionOps 34)).getD #[]) 36 (some 315) (Op.move (Operand.tmp 7)) (some (35, true)) := opIs_of (by kernel_rfl)
theorem ipteOp37 : opIs ((Tryz.f5.body.bind (regionOps 34)).getD #[]) 37 (some 316) (Op.move (Operand.tmp 9)) (some (35, true)) := opIs_of (by kernel_rfl)
theorem ipteOp38 : opIs ((Tryz.f5.body.bind (regionOps 34)).getD #[]) 38 (some 317) (Op.call { callee := Callee.value (Operand.func 33), args := #[Operand.tmp 315, Operand.tmp 316], argTypes := #[29, 29] }) (some (35, true)) := opIs_of (by kernel_rfl)
theorem ipteOp39 : opIs ((Tryz.f5.body.bind (regionOps 34)).getD #[]) 39 (some 318) (Op.load 34 (Operand.tmp 11)) (some (35, true)) := opIs_of (by kernel_rfl)
theorem ipteOp40 : opIs ((Tryz.f5.body.bind (regionOps 34)).getD #[]) 40 (some 319) (Op.load 34 (Operand.tmp 13)) (some (35, true)) := opIs_of (by kernel_rfl)
theorem ipteOp41 : opIs ((Tryz.f5.body.bind (regionOps 34)).getD #[]) 41 (some 320) (Op.call { callee := Callee.value (Operand.func 10), args := #[Operand.tmp 318, Operand.tmp 319], argTypes := #[34, 34] }) (some (35, true)) := opIs_of (by kernel_rfl)
theorem ipteOp42 : opIs ((Tryz.f5.body.bind (regionOps 34)).getD #[]) 42 (some 321) (Op.binOp BinOp.eql 4 (Operand.tmp 317) (Operand.tmp 320) 4) (some (35, true)) := opIs_of (by kernel_rfl)
theorem ipteOp43 : opIs ((Tryz.f5.body.bind (regionOps 34)).getD #[]) 43 (some 322) (Op.pick (Operand.tmp 314) (Operand.tmp 321) (Operand.const (Value.bool false))) (none) := opIs_of (by kernel_rfl)
theorem ipteOp44 : opIs ((Tryz.f5.body.bind (regionOps 34)).getD #[]) 44 (some 323) (Op.move (Operand.tmp 322)) (none) := opIs_of (by kernel_rfl)
theorem ipteOp45 : opIs ((Tryz.f5.body.bind (regionOps 34)).getD #[]) 45 (some 324) (Op.call { callee := Callee.value (Operand.func 33), args := #[Operand.const (Value.pointer none), Operand.const (Value.pointer none)], argTypes := #[29, 29] }) (some (44, true)) := opIs_of (by kernel_rfl)
theorem ipteOp46 : opIs ((Tryz.f5.body.bind (regionOps 34)).getD #[]) 46 (some 325) (Op.pick (Operand.tmp 323) (Operand.tmp 324) (Operand.const (Value.bool false))) (none) := opIs_of (by kernel_rfl)
theorem ipteOp47 : opIs ((Tryz.f5.body.bind (regionOps 34)).getD #[]) 47 (some 326) (Op.move (Operand.tmp 325)) (none) := opIs_of (by kernel_rfl)
theorem ipteOp48 : opIs ((Tryz.f5.body.bind (regionOps 34)).getD #[]) 48 (some 327) (Op.move (Operand.tmp 7)) (some (47, true)) := opIs_of (by kernel_rfl)
theorem ipteOp49 : opIs ((Tryz.f5.body.bind (regionOps 34)).getD #[]) 49 (some 328) (Op.call { callee := Callee.value (Operand.func 33), args := #[Operand.tmp 327, Operand.const (Value.pointer none)], argTypes := #[29, 29] }) (some (47, true)) := opIs_of (by kernel_rfl)
theorem ipteOp50 : opIs ((Tryz.f5.body.bind (regionOps 34)).getD #[]) 50 (some 329) (Op.unOp UnOp.not 4 (Operand.tmp 328)) (some (47, true)) := opIs_of (by kernel_rfl)
theorem ipteOp51 : opIs ((Tryz.f5.body.bind (regionOps 34)).getD #[]) 51 (some 330) (Op.pick (Operand.tmp 326) (Operand.tmp 329) (Operand.const (Value.bool false))) (none) := opIs_of (by kernel_rfl)
theorem ipteOp52 : opIs ((Tryz.f5.body.bind (regionOps 34)).getD #[]) 52 (some 6) (Op.assign (Operand.tmp 330)) (none) := opIs_of (by kernel_rfl)
/-- What is said of each slot. -/
def ipteSp (p p2 g g2 : Nat) (SK SP SM TK TP TM : Value) (B : Bool) (i : Nat) (w : World) (v : Value) : Prop := match i with
  | 0 => v = .slice none 0 0
  | 1 => v = .int .i64 0
  | 2 => v = .slice none 0 0
  | 3 => v = .int .i64 0
  | 4 => v = .int .i64 0
  | 5 => v = .slice none 0 0
  | 6 => v = .int .i64 0
  | 7 => v = .int .i64 0
  | 8 => v = .pointer none
  | 9 => v = .int .i64 0
  | 10 => v = .int .i64 0
  | 11 => v = .pointer none
  | 12 => v = .slice none 0 0
  | 13 => v = .int .i64 0
  | 14 => v = .int .i64 0
  | 15 => v = .pointer none
  | 16 => v = .slice none 0 0
  | 17 => v = .int .i64 0
  | 18 => v = .int .i64 0
  | 19 => v = .pointer none
  | 20 => v = .int .i64 0
  | 21 => v = .int .i64 0
  | 22 => v = .bool true
  | 23 => v = .bool true
  | 24 => v = .pointer none
  | 25 => v = .pointer none
  | 26 => v = .bool true
  | 27 => v = .bool true
  | 28 => v = .bool true
  | 29 => v = .pointer none
  | 30 => v = .agg #[.string ⟨#[97]⟩, .string ⟨#[]⟩]
  | 31 => v = .agg #[.string (str []), .string (str [])]
  | 32 => v = .agg #[.string (str []), .string (str [])]
  | 33 => v = .bool true
  | 34 => v = .bool true
  | 35 => v = .bool true
  | 36 => v = .pointer (some ⟨p, 0, none⟩)
  | 37 => v = .pointer (some ⟨p2, 0, none⟩)
  | 38 => v = .bool B
  | 39 => v = .agg #[SK, SP, SM]
  | 40 => v = .agg #[TK, TP, TM]
  | 41 => v = .bool B
  | 42 => v = .bool true
  | 43 => v = .bool true
  | 44 => v = .bool true
  | 45 => v = .bool true
  | 46 => v = .bool true
  | 47 => v = .bool true
  | 48 => v = .pointer (some ⟨p, 0, none⟩)
  | 49 => v = .bool false
  | 50 => v = .bool true
  | 51 => v = .bool true
  | 52 => v = .bool true
  | _ => True
theorem ipteSp_mono (p p2 g g2 : Nat) (SK SP SM TK TP TM : Value) (B : Bool) : ∀ i w w' v, Step noF w w' → ipteSp p p2 g g2 SK SP SM TK TP TM B i w v → ipteSp p p2 g g2 SK SP SM TK TP TM B i w' v := by
  intro i w w' v hs h
  match i with
  | 0 => exact h
  | 1 => exact h
  | 2 => exact h
  | 3 => exact h
  | 4 => exact h
  | 5 => exact h
  | 6 => exact h
  | 7 => exact h
  | 8 => exact h
  | 9 => exact h
  | 10 => exact h
  | 11 => exact h
  | 12 => exact h
  | 13 => exact h
  | 14 => exact h
  | 15 => exact h
  | 16 => exact h
  | 17 => exact h
  | 18 => exact h
  | 19 => exact h
  | 20 => exact h
  | 21 => exact h
  | 22 => exact h
  | 23 => exact h
  | 24 => exact h
  | 25 => exact h
  | 26 => exact h
  | 27 => exact h
  | 28 => exact h
  | 29 => exact h
  | 30 => exact h
  | 31 => exact h
  | 32 => exact h
  | 33 => exact h
  | 34 => exact h
  | 35 => exact h
  | 36 => exact h
  | 37 => exact h
  | 38 => exact h
  | 39 => exact h
  | 40 => exact h
  | 41 => exact h
  | 42 => exact h
  | 43 => exact h
  | 44 => exact h
  | 45 => exact h
  | 46 => exact h
  | 47 => exact h
  | 48 => exact h
  | 49 => exact h
  | 50 => exact h
  | 51 => exact h
  | 52 => exact h
  | k + 53 => exact h

set_option maxHeartbeats 4000000 in
set_option maxRecDepth 100000 in
theorem ipte_go (p p2 g g2 : Nat) (SK SP SM TK TP TM : Value) (B : Bool) (w0 : World) (u00 : w0.cell? ⟨g, 0, none⟩ = some SK) (u10 : w0.cell? ⟨g, 1, none⟩ = some SP) (u20 : w0.cell? ⟨g, 2, none⟩ = some SM) (t00 : w0.cell? ⟨g2, 0, none⟩ = some TK) (t10 : w0.cell? ⟨g2, 1, none⟩ = some TP) (t20 : w0.cell? ⟨g2, 2, none⟩ = some TM) (c2880 : ∀ w0', Step noF w0 w0' → Calls Tryz.prog 12 #[.pointer none] w0' fun e w0'' => e = .returned (.int .i64 0) ∧ Step noF w0' w0'') (c2910 : ∀ w0', Step noF w0 w0' → Calls Tryz.prog 30 #[.pointer none] w0' fun e w0'' => e = .returned (.slice none 0 0) ∧ Step noF w0' w0'') (c2950 : ∀ w0', Step noF w0 w0' → Calls Tryz.prog 31 #[.pointer none] w0' fun e w0'' => e = .returned (.slice none 0 0) ∧ Step noF w0' w0'') (c2990 : ∀ w0', Step noF w0 w0' → Calls Tryz.prog 13 #[.pointer none, .string ⟨#[97]⟩] w0' fun e w0'' => e = .returned (.int .i64 0) ∧ Step noF w0' w0'') (c3040 : ∀ w0', Step noF w0 w0' → Calls Tryz.prog 32 #[.pointer none] w0' fun e w0'' => e = .returned (.pointer none) ∧ Step noF w0' w0'') (c3100 : ∀ w0', Step noF w0 w0' → Calls Tryz.prog 15 #[.pointer none, .int .i64 0, .agg #[.string ⟨#[97]⟩, .string ⟨#[]⟩]] w0' fun e w0'' => e = .returned (.agg #[.string (str []), .string (str [])]) ∧ Step noF w0' w0'') (c3170 : ∀ w0', Step noF w0 w0' → Calls Tryz.prog 33 #[.pointer (some ⟨p, 0, none⟩), .pointer (some ⟨p2, 0, none⟩)] w0' fun e w0'' => e = .returned (.bool B) ∧ Step noF w0' w0'') (c3200 : ∀ w0', Step noF w0 w0' → Calls Tryz.prog 10 #[.agg #[SK, SP, SM], .agg #[TK, TP, TM]] w0' fun e w0'' => e = .returned (.bool B) ∧ Step noF w0' w0'') (c3240 : ∀ w0', Step noF w0 w0' → Calls Tryz.prog 33 #[.pointer none, .pointer none] w0' fun e w0'' => e = .returned (.bool true) ∧ Step noF w0' w0'') (c3280 : ∀ w0', Step noF w0 w0' → Calls Tryz.prog 33 #[.pointer (some ⟨p, 0, none⟩), .pointer none] w0' fun e w0'' => e = .returned (.bool false) ∧ Step noF w0' w0'')
    {Q : Exit → Act → World → Prop} (a0 : Act) (hsz : a0.tmps.size = 331) (h7 : a0.tmps.getD 7 undef = .pointer (some ⟨p, 0, none⟩)) (h9 : a0.tmps.getD 9 undef = .pointer (some ⟨p2, 0, none⟩)) (h11 : a0.tmps.getD 11 undef = .pointer (some ⟨g, 0, none⟩)) (h13 : a0.tmps.getD 13 undef = .pointer (some ⟨g2, 0, none⟩)) (h24 : a0.tmps.getD 24 undef = .pointer none) (h28 : a0.tmps.getD 28 undef = .slice none 0 0) (h38 : a0.tmps.getD 38 undef = .slice none 0 0) (h39 : a0.tmps.getD 39 undef = .slice none 0 0)
    (hend : ∀ (f : Nat → Value) (w : World), Step noF w0 w → ipteSp p p2 g g2 SK SP SM TK TP TM B 52 w (f 6) → Q .normal (putAll a0 (ipteDs.map some) (ipteDs.map f)) w) :
    (Code.region 34 ((Tryz.f5.body.bind (regionOps 34)).getD #[]) true).wp Tryz.prog Q a0 w0 := by
  refine wp_region_preds (ipteSp p p2 g g2 SK SP SM TK TP TM B) (ipteSp_mono p p2 g g2 SK SP SM TK TP TM B) ipteDl (by kernel_rfl) ipte_back ipte_dl ipte_nd (fun d h => by rw [hsz]; exact ipte_lt d h) ?_ ?_
  · intro i hi a w hs hfr hat
    rw [ipte_size] at hi
    have n7 := (hfr 7 (by decide)).trans h7
    have n9 := (hfr 9 (by decide)).trans h9
    have n11 := (hfr 11 (by decide)).trans h11
    have n13 := (hfr 13 (by decide)).trans h13
    have n24 := (hfr 24 (by decide)).trans h24
    have n28 := (hfr 28 (by decide)).trans h28
    have n38 := (hfr 38 (by decide)).trans h38
    have n39 := (hfr 39 (by decide)).trans h39
    have u0 : w.cell? ⟨g, 0, none⟩ = some SK := hs.after u00
    have u1 : w.cell? ⟨g, 1, none⟩ = some SP := hs.after u10
    have u2 : w.cell? ⟨g, 2, none⟩ = some SM := hs.after u20
    have t0 : w.cell? ⟨g2, 0, none⟩ = some TK := hs.after t00
    have t1 : w.cell? ⟨g2, 1, none⟩ = some TP := hs.after t10
    have t2 : w.cell? ⟨g2, 2, none⟩ = some TM := hs.after t20
    have c288 : ∀ w', Step noF w w' → Calls Tryz.prog 12 #[.pointer none] w' fun e w'' => e = .returned (.int .i64 0) ∧ Step noF w' w'' := fun w' s' => c2880 w' (hs.trans s')
    have c291 : ∀ w', Step noF w w' → Calls Tryz.prog 30 #[.pointer none] w' fun e w'' => e = .returned (.slice none 0 0) ∧ Step noF w' w'' := fun w' s' => c2910 w' (hs.trans s')
    have c295 : ∀ w', Step noF w w' → Calls Tryz.prog 31 #[.pointer none] w' fun e w'' => e = .returned (.slice none 0 0) ∧ Step noF w' w'' := fun w' s' => c2950 w' (hs.trans s')
    have c299 : ∀ w', Step noF w w' → Calls Tryz.prog 13 #[.pointer none, .string ⟨#[97]⟩] w' fun e w'' => e = .returned (.int .i64 0) ∧ Step noF w' w'' := fun w' s' => c2990 w' (hs.trans s')
    have c304 : ∀ w', Step noF w w' → Calls Tryz.prog 32 #[.pointer none] w' fun e w'' => e = .returned (.pointer none) ∧ Step noF w' w'' := fun w' s' => c3040 w' (hs.trans s')
    have c310 : ∀ w', Step noF w w' → Calls Tryz.prog 15 #[.pointer none, .int .i64 0, .agg #[.string ⟨#[97]⟩, .string ⟨#[]⟩]] w' fun e w'' => e = .returned (.agg #[.string (str []), .string (str [])]) ∧ Step noF w' w'' := fun w' s' => c3100 w' (hs.trans s')
    have c317 : ∀ w', Step noF w w' → Calls Tryz.prog 33 #[.pointer (some ⟨p, 0, none⟩), .pointer (some ⟨p2, 0, none⟩)] w' fun e w'' => e = .returned (.bool B) ∧ Step noF w' w'' := fun w' s' => c3170 w' (hs.trans s')
    have c320 : ∀ w', Step noF w w' → Calls Tryz.prog 10 #[.agg #[SK, SP, SM], .agg #[TK, TP, TM]] w' fun e w'' => e = .returned (.bool B) ∧ Step noF w' w'' := fun w' s' => c3200 w' (hs.trans s')
    have c324 : ∀ w', Step noF w w' → Calls Tryz.prog 33 #[.pointer none, .pointer none] w' fun e w'' => e = .returned (.bool true) ∧ Step noF w' w'' := fun w' s' => c3240 w' (hs.trans s')
    have c328 : ∀ w', Step noF w w' → Calls Tryz.prog 33 #[.pointer (some ⟨p, 0, none⟩), .pointer none] w' fun e w'' => e = .returned (.bool false) ∧ Step noF w' w'' := fun w' s' => c3280 w' (hs.trans s')
    match i, hi with
    | 0, _ =>
      refine op_runs (d := some 279) ipteOp0 (wants_none a) (v := .slice none 0 0) (w' := w) ?_ ⟨279, _, rfl, rfl, Step.refl _ _, rfl⟩
      intro oo hoo
      simp only [execOp, hoo, Act.eval, n28]
      go_simp
    | 1, _ =>
      have n279 : a.tmps.getD 279 undef = _ := hat 0 (lc (by kernel_rfl)) 279 rfl
      refine op_runs (d := some 280) ipteOp1 (wants_none a) (v := .int .i64 0) (w' := w) ?_ ⟨280, _, rfl, rfl, Step.refl _ _, rfl⟩
      intro oo hoo
      simp only [execOp, hoo, Act.eval, n279]
      go_simp
    | 2, _ =>
      refine op_runs (d := some 281) ipteOp2 (wants_none a) (v := .slice none 0 0) (w' := w) ?_ ⟨281, _, rfl, rfl, Step.refl _ _, rfl⟩
      intro oo hoo
      simp only [execOp, hoo, Act.eval, n38]
      go_simp
    | 3, _ =>
      have n281 : a.tmps.getD 281 undef = _ := hat 2 (lc (by kernel_rfl)) 281 rfl
      refine op_runs (d := some 282) ipteOp3 (wants_none a) (v := .int .i64 0) (w' := w) ?_ ⟨282, _, rfl, rfl, Step.refl _ _, rfl⟩
      intro oo hoo
      simp only [execOp, hoo, Act.eval, n281]
      go_simp
    | 4, _ =>
      have n280 : a.tmps.getD 280 undef = _ := hat 1 (lc (by kernel_rfl)) 280 rfl
      have n282 : a.tmps.getD 282 undef = _ := hat 3 (lc (by kernel_rfl)) 282 rfl
      refine op_runs (d := some 283) ipteOp4 (wants_none a) (v := .int .i64 0) (w' := w) ?_ ⟨283, _, rfl, rfl, Step.refl _ _, rfl⟩
      intro oo hoo
      simp only [execOp, hoo, Act.eval, n280, n282]
      (go_simp; decide)
    | 5, _ =>
      refine op_runs (d := some 284) ipteOp5 (wants_none a) (v := .slice none 0 0) (w' := w) ?_ ⟨284, _, rfl, rfl, Step.refl _ _, rfl⟩
      intro oo hoo
      simp only [execOp, hoo, Act.eval, n39]
      go_simp
    | 6, _ =>
      have n284 : a.tmps.getD 284 undef = _ := hat 5 (lc (by kernel_rfl)) 284 rfl
      refine op_runs (d := some 285) ipteOp6 (wants_none a) (v := .int .i64 0) (w' := w) ?_ ⟨285, _, rfl, rfl, Step.refl _ _, rfl⟩
      intro oo hoo
      simp only [execOp, hoo, Act.eval, n284]
      go_simp
    | 7, _ =>
      have n283 : a.tmps.getD 283 undef = _ := hat 4 (lc (by kernel_rfl)) 283 rfl
      have n285 : a.tmps.getD 285 undef = _ := hat 6 (lc (by kernel_rfl)) 285 rfl
      refine op_runs (d := some 286) ipteOp7 (wants_none a) (v := .int .i64 0) (w' := w) ?_ ⟨286, _, rfl, rfl, Step.refl _ _, rfl⟩
      intro oo hoo
      simp only [execOp, hoo, Act.eval, n283, n285]
      (go_simp; decide)
    | 8, _ =>
      refine op_runs (d := some 287) ipteOp8 (wants_none a) (v := .pointer none) (w' := w) ?_ ⟨287, _, rfl, rfl, Step.refl _ _, rfl⟩
      intro oo hoo
      simp only [execOp, hoo, Act.eval, n24]
      go_simp
    | 9, _ =>
      have n287 : a.tmps.getD 287 undef = _ := hat 8 (lc (by kernel_rfl)) 287 rfl
      refine op_calls ipteOp9 (wants_none a) Tryz.func12 (by kernel_rfl) (by kernel_rfl) (args := #[.pointer none]) (by simp [Act.eval, n287]) ((c288 w (Step.refl _ _)).mono ?_)
      rintro e w' ⟨rfl, s'⟩
      exact ⟨_, rfl, 288, _, rfl, rfl, s', rfl⟩
    | 10, _ =>
      have n286 : a.tmps.getD 286 undef = _ := hat 7 (lc (by kernel_rfl)) 286 rfl
      have n288 : a.tmps.getD 288 undef = _ := hat 9 (lc (by kernel_rfl)) 288 rfl
      refine op_runs (d := some 289) ipteOp10 (wants_none a) (v := .int .i64 0) (w' := w) ?_ ⟨289, _, rfl, rfl, Step.refl _ _, rfl⟩
      intro oo hoo
      simp only [execOp, hoo, Act.eval, n286, n288]
      (go_simp; decide)
    | 11, _ =>
      refine op_runs (d := some 290) ipteOp11 (wants_none a) (v := .pointer none) (w' := w) ?_ ⟨290, _, rfl, rfl, Step.refl _ _, rfl⟩
      intro oo hoo
      simp only [execOp, hoo, Act.eval, n24]
      go_simp
    | 12, _ =>
      have n290 : a.tmps.getD 290 undef = _ := hat 11 (lc (by kernel_rfl)) 290 rfl
      refine op_calls ipteOp12 (wants_none a) Tryz.func30 (by kernel_rfl) (by kernel_rfl) (args := #[.pointer none]) (by simp [Act.eval, n290]) ((c291 w (Step.refl _ _)).mono ?_)
      rintro e w' ⟨rfl, s'⟩
      exact ⟨_, rfl, 291, _, rfl, rfl, s', rfl⟩
    | 13, _ =>
      have n291 : a.tmps.getD 291 undef = _ := hat 12 (lc (by kernel_rfl)) 291 rfl
      refine op_runs (d := some 292) ipteOp13 (wants_none a) (v := .int .i64 0) (w' := w) ?_ ⟨292, _, rfl, rfl, Step.refl _ _, rfl⟩
      intro oo hoo
      simp only [execOp, hoo, Act.eval, n291]
      go_simp
    | 14, _ =>
      have n289 : a.tmps.getD 289 undef = _ := hat 10 (lc (by kernel_rfl)) 289 rfl
      have n292 : a.tmps.getD 292 undef = _ := hat 13 (lc (by kernel_rfl)) 292 rfl
      refine op_runs (d := some 293) ipteOp14 (wants_none a) (v := .int .i64 0) (w' := w) ?_ ⟨293, _, rfl, rfl, Step.refl _ _, rfl⟩
      intro oo hoo
      simp only [execOp, hoo, Act.eval, n289, n292]
      (go_simp; decide)
    | 15, _ =>
      refine op_runs (d := some 294) ipteOp15 (wants_none a) (v := .pointer none) (w' := w) ?_ ⟨294, _, rfl, rfl, Step.refl _ _, rfl⟩
      intro oo hoo
      simp only [execOp, hoo, Act.eval, n24]
      go_simp
    | 16, _ =>
      have n294 : a.tmps.getD 294 undef = _ := hat 15 (lc (by kernel_rfl)) 294 rfl
      refine op_calls ipteOp16 (wants_none a) Tryz.func31 (by kernel_rfl) (by kernel_rfl) (args := #[.pointer none]) (by simp [Act.eval, n294]) ((c295 w (Step.refl _ _)).mono ?_)
      rintro e w' ⟨rfl, s'⟩
      exact ⟨_, rfl, 295, _, rfl, rfl, s', rfl⟩
    | 17, _ =>
      have n295 : a.tmps.getD 295 undef = _ := hat 16 (lc (by kernel_rfl)) 295 rfl
      refine op_runs (d := some 296) ipteOp17 (wants_none a) (v := .int .i64 0) (w' := w) ?_ ⟨296, _, rfl, rfl, Step.refl _ _, rfl⟩
      intro oo hoo
      simp only [execOp, hoo, Act.eval, n295]
      go_simp
    | 18, _ =>
      have n293 : a.tmps.getD 293 undef = _ := hat 14 (lc (by kernel_rfl)) 293 rfl
      have n296 : a.tmps.getD 296 undef = _ := hat 17 (lc (by kernel_rfl)) 296 rfl
      refine op_runs (d := some 297) ipteOp18 (wants_none a) (v := .int .i64 0) (w' := w) ?_ ⟨297, _, rfl, rfl, Step.refl _ _, rfl⟩
      intro oo hoo
      simp only [execOp, hoo, Act.eval, n293, n296]
      (go_simp; decide)
    | 19, _ =>
      refine op_runs (d := some 298) ipteOp19 (wants_none a) (v := .pointer none) (w' := w) ?_ ⟨298, _, rfl, rfl, Step.refl _ _, rfl⟩
      intro oo hoo
      simp only [execOp, hoo, Act.eval, n24]
      go_simp
    | 20, _ =>
      have n298 : a.tmps.getD 298 undef = _ := hat 19 (lc (by kernel_rfl)) 298 rfl
      refine op_calls ipteOp20 (wants_none a) Tryz.func13 (by kernel_rfl) (by kernel_rfl) (args := #[.pointer none, .string ⟨#[97]⟩]) (by simp [Act.eval, n298]) ((c299 w (Step.refl _ _)).mono ?_)
      rintro e w' ⟨rfl, s'⟩
      exact ⟨_, rfl, 299, _, rfl, rfl, s', rfl⟩
    | 21, _ =>
      have n297 : a.tmps.getD 297 undef = _ := hat 18 (lc (by kernel_rfl)) 297 rfl
      have n299 : a.tmps.getD 299 undef = _ := hat 20 (lc (by kernel_rfl)) 299 rfl
      refine op_runs (d := some 300) ipteOp21 (wants_none a) (v := .int .i64 0) (w' := w) ?_ ⟨300, _, rfl, rfl, Step.refl _ _, rfl⟩
      intro oo hoo
      simp only [execOp, hoo, Act.eval, n297, n299]
      (go_simp; decide)
    | 22, _ =>
      have n300 : a.tmps.getD 300 undef = _ := hat 21 (lc (by kernel_rfl)) 300 rfl
      refine op_runs (d := some 301) ipteOp22 (wants_none a) (v := .bool true) (w' := w) ?_ ⟨301, _, rfl, rfl, Step.refl _ _, rfl⟩
      intro oo hoo
      simp only [execOp, hoo, Act.eval, n300]
      go_simp
    | 23, _ =>
      have n301 : a.tmps.getD 301 undef = _ := hat 22 (lc (by kernel_rfl)) 301 rfl
      refine op_runs (d := some 302) ipteOp23 (wants_none a) (v := .bool true) (w' := w) ?_ ⟨302, _, rfl, rfl, Step.refl _ _, rfl⟩
      intro oo hoo
      simp only [execOp, hoo, Act.eval, n301]
      go_simp
    | 24, _ =>
      have n302 : a.tmps.getD 302 undef = _ := hat 23 (lc (by kernel_rfl)) 302 rfl
      refine op_runs (d := some 303) ipteOp24 (wants_some (d := 302) (b := true) (by kernel_rfl) n302) (v := .pointer none) (w' := w) ?_ ⟨303, _, rfl, rfl, Step.refl _ _, rfl⟩
      intro oo hoo
      simp only [execOp, hoo, Act.eval, n24]
      go_simp
    | 25, _ =>
      have n303 : a.tmps.getD 303 undef = _ := hat 24 (lc (by kernel_rfl)) 303 rfl
      have n302 : a.tmps.getD 302 undef = _ := hat 23 (lc (by kernel_rfl)) 302 rfl
      refine op_calls ipteOp25 (wants_some (d := 302) (b := true) (by kernel_rfl) n302) Tryz.func32 (by kernel_rfl) (by kernel_rfl) (args := #[.pointer none]) (by simp [Act.eval, n303]) ((c304 w (Step.refl _ _)).mono ?_)
      rintro e w' ⟨rfl, s'⟩
      exact ⟨_, rfl, 304, _, rfl, rfl, s', rfl⟩
    | 26, _ =>
      have n304 : a.tmps.getD 304 undef = _ := hat 25 (lc (by kernel_rfl)) 304 rfl
      have n302 : a.tmps.getD 302 undef = _ := hat 23 (lc (by kernel_rfl)) 302 rfl
      refine op_runs (d := some 305) ipteOp26 (wants_some (d := 302) (b := true) (by kernel_rfl) n302) (v := .bool true) (w' := w) ?_ ⟨305, _, rfl, rfl, Step.refl _ _, rfl⟩
      intro oo hoo
      simp only [execOp, hoo, Act.eval, n304]
      go_simp
    | 27, _ =>
      have n302 : a.tmps.getD 302 undef = _ := hat 23 (lc (by kernel_rfl)) 302 rfl
      have n305 : a.tmps.getD 305 undef = _ := hat 26 (lc (by kernel_rfl)) 305 rfl
      refine op_runs (d := some 306) ipteOp27 (wants_none a) (v := .bool true) (w' := w) ?_ ⟨306, _, rfl, rfl, Step.refl _ _, rfl⟩
      intro oo hoo
      simp only [execOp, hoo, Act.eval, n302, n305]
      go_simp
    | 28, _ =>
      have n306 : a.tmps.getD 306 undef = _ := hat 27 (lc (by kernel_rfl)) 306 rfl
      refine op_runs (d := some 307) ipteOp28 (wants_none a) (v := .bool true) (w' := w) ?_ ⟨307, _, rfl, rfl, Step.refl _ _, rfl⟩
      intro oo hoo
      simp only [execOp, hoo, Act.eval, n306]
      go_simp
    | 29, _ =>
      have n307 : a.tmps.getD 307 undef = _ := hat 28 (lc (by kernel_rfl)) 307 rfl
      refine op_runs (d := some 308) ipteOp29 (wants_some (d := 307) (b := true) (by kernel_rfl) n307) (v := .pointer none) (w' := w) ?_ ⟨308, _, rfl, rfl, Step.refl _ _, rfl⟩
      intro oo hoo
      simp only [execOp, hoo, Act.eval, n24]
      go_simp
    | 30, _ =>
      have n307 : a.tmps.getD 307 undef = _ := hat 28 (lc (by kernel_rfl)) 307 rfl
      refine op_runs (d := some 309) ipteOp30 (wants_some (d := 307) (b := true) (by kernel_rfl) n307) (v := .agg #[.string ⟨#[97]⟩, .string ⟨#[]⟩]) (w' := w) ?_ ⟨309, _, rfl, rfl, Step.refl _ _, rfl⟩
      intro oo hoo
      simp only [execOp, hoo, Act.eval]
      go_simp
    | 31, _ =>
      have n308 : a.tmps.getD 308 undef = _ := hat 29 (lc (by kernel_rfl)) 308 rfl
      have n309 : a.tmps.getD 309 undef = _ := hat 30 (lc (by kernel_rfl)) 309 rfl
      have n307 : a.tmps.getD 307 undef = _ := hat 28 (lc (by kernel_rfl)) 307 rfl
      refine op_calls ipteOp31 (wants_some (d := 307) (b := true) (by kernel_rfl) n307) Tryz.func15 (by kernel_rfl) (by kernel_rfl) (args := #[.pointer none, .int .i64 0, .agg #[.string ⟨#[97]⟩, .string ⟨#[]⟩]]) (by simp [Act.eval, n308, n309]) ((c310 w (Step.refl _ _)).mono ?_)
      rintro e w' ⟨rfl, s'⟩
      exact ⟨_, rfl, 310, _, rfl, rfl, s', rfl⟩
    | 32, _ =>
      have n307 : a.tmps.getD 307 undef = _ := hat 28 (lc (by kernel_rfl)) 307 rfl
      refine op_runs (d := some 311) ipteOp32 (wants_some (d := 307) (b := true) (by kernel_rfl) n307) (v := .agg #[.string (str []), .string (str [])]) (w' := w) ?_ ⟨311, _, rfl, rfl, Step.refl _ _, rfl⟩
      intro oo hoo
      simp only [execOp, hoo, Act.eval]
      kernel_rfl
    | 33, _ =>
      have n310 : a.tmps.getD 310 undef = _ := hat 31 (lc (by kernel_rfl)) 310 rfl
      have n311 : a.tmps.getD 311 undef = _ := hat 32 (lc (by kernel_rfl)) 311 rfl
      have n307 : a.tmps.getD 307 undef = _ := hat 28 (lc (by kernel_rfl)) 307 rfl
      refine op_runs (d := some 312) ipteOp33 (wants_some (d := 307) (b := true) (by kernel_rfl) n307) (v := .bool true) (w' := w) ?_ ⟨312, _, rfl, rfl, Step.refl _ _, rfl⟩
      intro oo hoo
      simp only [execOp, hoo, Act.eval, n310, n311]
      go_simp
    | 34, _ =>
      have n307 : a.tmps.getD 307 undef = _ := hat 28 (lc (by kernel_rfl)) 307 rfl
      have n312 : a.tmps.getD 312 undef = _ := hat 33 (lc (by kernel_rfl)) 312 rfl
      refine op_runs (d := some 313) ipteOp34 (wants_none a) (v := .bool true) (w' := w) ?_ ⟨313, _, rfl, rfl, Step.refl _ _, rfl⟩
      intro oo hoo
      simp only [execOp, hoo, Act.eval, n307, n312]
      go_simp
    | 35, _ =>
      have n313 : a.tmps.getD 313 undef = _ := hat 34 (lc (by kernel_rfl)) 313 rfl
      refine op_runs (d := some 314) ipteOp35 (wants_none a) (v := .bool true) (w' := w) ?_ ⟨314, _, rfl, rfl, Step.refl _ _, rfl⟩
      intro oo hoo
      simp only [execOp, hoo, Act.eval, n313]
      go_simp
    | 36, _ =>
      have n314 : a.tmps.getD 314 undef = _ := hat 35 (lc (by kernel_rfl)) 314 rfl
      refine op_runs (d := some 315) ipteOp36 (wants_some (d := 314) (b := true) (by kernel_rfl) n314) (v := .pointer (some ⟨p, 0, none⟩)) (w' := w) ?_ ⟨315, _, rfl, rfl, Step.refl _ _, rfl⟩
      intro oo hoo
      simp only [execOp, hoo, Act.eval, n7]
      go_simp
    | 37, _ =>
      have n314 : a.tmps.getD 314 undef = _ := hat 35 (lc (by kernel_rfl)) 314 rfl
      refine op_runs (d := some 316) ipteOp37 (wants_some (d := 314) (b := true) (by kernel_rfl) n314) (v := .pointer (some ⟨p2, 0, none⟩)) (w' := w) ?_ ⟨316, _, rfl, rfl, Step.refl _ _, rfl⟩
      intro oo hoo
      simp only [execOp, hoo, Act.eval, n9]
      go_simp
    | 38, _ =>
      have n315 : a.tmps.getD 315 undef = _ := hat 36 (lc (by kernel_rfl)) 315 rfl
      have n316 : a.tmps.getD 316 undef = _ := hat 37 (lc (by kernel_rfl)) 316 rfl
      have n314 : a.tmps.getD 314 undef = _ := hat 35 (lc (by kernel_rfl)) 314 rfl
      refine op_calls ipteOp38 (wants_some (d := 314) (b := true) (by kernel_rfl) n314) Tryz.func33 (by kernel_rfl) (by kernel_rfl) (args := #[.pointer (some ⟨p, 0, none⟩), .pointer (some ⟨p2, 0, none⟩)]) (by simp [Act.eval, n315, n316]) ((c317 w (Step.refl _ _)).mono ?_)
      rintro e w' ⟨rfl, s'⟩
      exact ⟨_, rfl, 317, _, rfl, rfl, s', rfl⟩
    | 39, _ =>
      have n314 : a.tmps.getD 314 undef = _ := hat 35 (lc (by kernel_rfl)) 314 rfl
      refine op_runs (d := some 318) ipteOp39 (wants_some (d := 314) (b := true) (by kernel_rfl) n314) (v := .agg #[SK, SP, SM]) (w' := w) ?_ ⟨318, _, rfl, rfl, Step.refl _ _, rfl⟩
      intro oo hoo
      simp only [execOp, hoo, Act.eval, n11]
      go_simp
    | 40, _ =>
      have n314 : a.tmps.getD 314 undef = _ := hat 35 (lc (by kernel_rfl)) 314 rfl
      refine op_runs (d := some 319) ipteOp40 (wants_some (d := 314) (b := true) (by kernel_rfl) n314) (v := .agg #[TK, TP, TM]) (w' := w) ?_ ⟨319, _, rfl, rfl, Step.refl _ _, rfl⟩
      intro oo hoo
      simp only [execOp, hoo, Act.eval, n13]
      go_simp
    | 41, _ =>
      have n318 : a.tmps.getD 318 undef = _ := hat 39 (lc (by kernel_rfl)) 318 rfl
      have n319 : a.tmps.getD 319 undef = _ := hat 40 (lc (by kernel_rfl)) 319 rfl
      have n314 : a.tmps.getD 314 undef = _ := hat 35 (lc (by kernel_rfl)) 314 rfl
      refine op_calls ipteOp41 (wants_some (d := 314) (b := true) (by kernel_rfl) n314) Tryz.func10 (by kernel_rfl) (by kernel_rfl) (args := #[.agg #[SK, SP, SM], .agg #[TK, TP, TM]]) (by simp [Act.eval, n318, n319]) ((c320 w (Step.refl _ _)).mono ?_)
      rintro e w' ⟨rfl, s'⟩
      exact ⟨_, rfl, 320, _, rfl, rfl, s', rfl⟩
    | 42, _ =>
      have n317 : a.tmps.getD 317 undef = _ := hat 38 (lc (by kernel_rfl)) 317 rfl
      have n320 : a.tmps.getD 320 undef = _ := hat 41 (lc (by kernel_rfl)) 320 rfl
      have n314 : a.tmps.getD 314 undef = _ := hat 35 (lc (by kernel_rfl)) 314 rfl
      refine op_runs (d := some 321) ipteOp42 (wants_some (d := 314) (b := true) (by kernel_rfl) n314) (v := .bool true) (w' := w) ?_ ⟨321, _, rfl, rfl, Step.refl _ _, rfl⟩
      intro oo hoo
      simp only [execOp, hoo, Act.eval, n317, n320]
      go_simp
    | 43, _ =>
      have n314 : a.tmps.getD 314 undef = _ := hat 35 (lc (by kernel_rfl)) 314 rfl
      have n321 : a.tmps.getD 321 undef = _ := hat 42 (lc (by kernel_rfl)) 321 rfl
      refine op_runs (d := some 322) ipteOp43 (wants_none a) (v := .bool true) (w' := w) ?_ ⟨322, _, rfl, rfl, Step.refl _ _, rfl⟩
      intro oo hoo
      simp only [execOp, hoo, Act.eval, n314, n321]
      go_simp
    | 44, _ =>
      have n322 : a.tmps.getD 322 undef = _ := hat 43 (lc (by kernel_rfl)) 322 rfl
      refine op_runs (d := some 323) ipteOp44 (wants_none a) (v := .bool true) (w' := w) ?_ ⟨323, _, rfl, rfl, Step.refl _ _, rfl⟩
      intro oo hoo
      simp only [execOp, hoo, Act.eval, n322]
      go_simp
    | 45, _ =>
      have n323 : a.tmps.getD 323 undef = _ := hat 44 (lc (by kernel_rfl)) 323 rfl
      refine op_calls ipteOp45 (wants_some (d := 323) (b := true) (by kernel_rfl) n323) Tryz.func33 (by kernel_rfl) (by kernel_rfl) (args := #[.pointer none, .pointer none]) (by simp [Act.eval, ]) ((c324 w (Step.refl _ _)).mono ?_)
      rintro e w' ⟨rfl, s'⟩
      exact ⟨_, rfl, 324, _, rfl, rfl, s', rfl⟩
    | 46, _ =>
      have n323 : a.tmps.getD 323 undef = _ := hat 44 (lc (by kernel_rfl)) 323 rfl
      have n324 : a.tmps.getD 324 undef = _ := hat 45 (lc (by kernel_rfl)) 324 rfl
      refine op_runs (d := some 325) ipteOp46 (wants_none a) (v := .bool true) (w' := w) ?_ ⟨325, _, rfl, rfl, Step.refl _ _, rfl⟩
      intro oo hoo
      simp only [execOp, hoo, Act.eval, n323, n324]
      go_simp
    | 47, _ =>
      have n325 : a.tmps.getD 325 undef = _ := hat 46 (lc (by kernel_rfl)) 325 rfl
      refine op_runs (d := some 326) ipteOp47 (wants_none a) (v := .bool true) (w' := w) ?_ ⟨326, _, rfl, rfl, Step.refl _ _, rfl⟩
      intro oo hoo
      simp only [execOp, hoo, Act.eval, n325]
      go_simp
    | 48, _ =>
      have n326 : a.tmps.getD 326 undef = _ := hat 47 (lc (by kernel_rfl)) 326 rfl
      refine op_runs (d := some 327) ipteOp48 (wants_some (d := 326) (b := true) (by kernel_rfl) n326) (v := .pointer (some ⟨p, 0, none⟩)) (w' := w) ?_ ⟨327, _, rfl, rfl, Step.refl _ _, rfl⟩
      intro oo hoo
      simp only [execOp, hoo, Act.eval, n7]
      go_simp
    | 49, _ =>
      have n327 : a.tmps.getD 327 undef = _ := hat 48 (lc (by kernel_rfl)) 327 rfl
      have n326 : a.tmps.getD 326 undef = _ := hat 47 (lc (by kernel_rfl)) 326 rfl
      refine op_calls ipteOp49 (wants_some (d := 326) (b := true) (by kernel_rfl) n326) Tryz.func33 (by kernel_rfl) (by kernel_rfl) (args := #[.pointer (some ⟨p, 0, none⟩), .pointer none]) (by simp [Act.eval, n327]) ((c328 w (Step.refl _ _)).mono ?_)
      rintro e w' ⟨rfl, s'⟩
      exact ⟨_, rfl, 328, _, rfl, rfl, s', rfl⟩
    | 50, _ =>
      have n328 : a.tmps.getD 328 undef = _ := hat 49 (lc (by kernel_rfl)) 328 rfl
      have n326 : a.tmps.getD 326 undef = _ := hat 47 (lc (by kernel_rfl)) 326 rfl
      refine op_runs (d := some 329) ipteOp50 (wants_some (d := 326) (b := true) (by kernel_rfl) n326) (v := .bool true) (w' := w) ?_ ⟨329, _, rfl, rfl, Step.refl _ _, rfl⟩
      intro oo hoo
      simp only [execOp, hoo, Act.eval, n328]
      go_simp
    | 51, _ =>
      have n326 : a.tmps.getD 326 undef = _ := hat 47 (lc (by kernel_rfl)) 326 rfl
      have n329 : a.tmps.getD 329 undef = _ := hat 50 (lc (by kernel_rfl)) 329 rfl
      refine op_runs (d := some 330) ipteOp51 (wants_none a) (v := .bool true) (w' := w) ?_ ⟨330, _, rfl, rfl, Step.refl _ _, rfl⟩
      intro oo hoo
      simp only [execOp, hoo, Act.eval, n326, n329]
      go_simp
    | 52, _ =>
      have n330 : a.tmps.getD 330 undef = _ := hat 51 (lc (by kernel_rfl)) 330 rfl
      refine op_runs (d := some 6) ipteOp52 (wants_none a) (v := .bool true) (w' := w) ?_ ⟨6, _, rfl, rfl, Step.refl _ _, rfl⟩
      intro oo hoo
      simp only [execOp, hoo, Act.eval, n330]
      go_simp
    | k + 53, h => exact absurd h (by omega)
  · intro a w hs hdf hs2 hfr hat
    rw [ipte_size] at hat
    have e := act_vals (a := a) (a0 := a0) ipteDs (by decide) (fun d hd => by rw [hsz]; exact ipte_lt d (by revert hd; revert d; decide)) hdf hs2 (fun k hk => hfr k (fun hk2 => hk (by revert hk2; simp [ipteDl, ipteDs])))
    rw [e]
    exact hend (fun d => a.tmps.getD d undef) w hs (hat 52 (by omega) 6 rfl)
set_option maxRecDepth 100000 in
theorem ipte_lit (f : Nat → Value) (D : List Deferred) (x0 x1 x2 x3 x4 x5 x6 x7 x8 x9 x10 x11 x12 x13 x14 x15 x16 x17 x18 x19 x20 x21 x22 x23 x24 x25 x26 x27 x28 x29 x30 x31 x32 x33 x34 x35 x36 x37 x38 x39 x40 x41 x42 x43 x44 x45 x46 x47 x48 x49 x50 x51 x52 x53 x54 x55 x56 x57 x58 x59 x60 x61 x62 x63 x64 x65 x66 x67 x68 x69 x70 x71 x72 x73 x74 x75 x76 x77 x78 x79 x80 x81 x82 x83 x84 x85 x86 x87 x88 x89 x90 x91 x92 x93 x94 x95 x96 x97 x98 x99 x100 x101 x102 x103 x104 x105 x106 x107 x108 x109 x110 x111 x112 x113 x114 x115 x116 x117 x118 x119 x120 x121 x122 x123 x124 x125 x126 x127 x128 x129 x130 x131 x132 x133 x134 x135 x136 x137 x138 x139 x140 x141 x142 x143 x144 x145 x146 x147 x148 x149 x150 x151 x152 x153 x154 x155 x156 x157 x158 x159 x160 x161 x162 x163 x164 x165 x166 x167 x168 x169 x170 x171 x172 x173 x174 x175 x176 x177 x178 x179 x180 x181 x182 x183 x184 x185 x186 x187 x188 x189 x190 x191 x192 x193 x194 x195 x196 x197 x198 x199 x200 x201 x202 x203 x204 x205 x206 x207 x208 x209 x210 x211 x212 x213 x214 x215 x216 x217 x218 x219 x220 x221 x222 x223 x224 x225 x226 x227 x228 x229 x230 x231 x232 x233 x234 x235 x236 x237 x238 x239 x240 x241 x242 x243 x244 x245 x246 x247 x248 x249 x250 x251 x252 x253 x254 x255 x256 x257 x258 x259 x260 x261 x262 x263 x264 x265 x266 x267 x268 x269 x270 x271 x272 x273 x274 x275 x276 x277 x278 x279 x280 x281 x282 x283 x284 x285 x286 x287 x288 x289 x290 x291 x292 x293 x294 x295 x296 x297 x298 x299 x300 x301 x302 x303 x304 x305 x306 x307 x308 x309 x310 x311 x312 x313 x314 x315 x316 x317 x318 x319 x320 x321 x322 x323 x324 x325 x326 x327 x328 x329 x330 : Value) : putAll { tmps := #[x0, x1, x2, x3, x4, x5, x6, x7, x8, x9, x10, x11, x12, x13, x14, x15, x16, x17, x18, x19, x20, x21, x22, x23, x24, x25, x26, x27, x28, x29, x30, x31, x32, x33, x34, x35, x36, x37, x38, x39, x40, x41, x42, x43, x44, x45, x46, x47, x48, x49, x50, x51, x52, x53, x54, x55, x56, x57, x58, x59, x60, x61, x62, x63, x64, x65, x66, x67, x68, x69, x70, x71, x72, x73, x74, x75, x76, x77, x78, x79, x80, x81, x82, x83, x84, x85, x86, x87, x88, x89, x90, x91, x92, x93, x94, x95, x96, x97, x98, x99, x100, x101, x102, x103, x104, x105, x106, x107, x108, x109, x110, x111, x112, x113, x114, x115, x116, x117, x118, x119, x120, x121, x122, x123, x124, x125, x126, x127, x128, x129, x130, x131, x132, x133, x134, x135, x136, x137, x138, x139, x140, x141, x142, x143, x144, x145, x146, x147, x148, x149, x150, x151, x152, x153, x154, x155, x156, x157, x158, x159, x160, x161, x162, x163, x164, x165, x166, x167, x168, x169, x170, x171, x172, x173, x174, x175, x176, x177, x178, x179, x180, x181, x182, x183, x184, x185, x186, x187, x188, x189, x190, x191, x192, x193, x194, x195, x196, x197, x198, x199, x200, x201, x202, x203, x204, x205, x206, x207, x208, x209, x210, x211, x212, x213, x214, x215, x216, x217, x218, x219, x220, x221, x222, x223, x224, x225, x226, x227, x228, x229, x230, x231, x232, x233, x234, x235, x236, x237, x238, x239, x240, x241, x242, x243, x244, x245, x246, x247, x248, x249, x250, x251, x252, x253, x254, x255, x256, x257, x258, x259, x260, x261, x262, x263, x264, x265, x266, x267, x268, x269, x270, x271, x272, x273, x274, x275, x276, x277, x278, x279, x280, x281, x282, x283, x284, x285, x286, x287, x288, x289, x290, x291, x292, x293, x294, x295, x296, x297, x298, x299, x300, x301, x302, x303, x304, x305, x306, x307, x308, x309, x310, x311, x312, x313, x314, x315, x316, x317, x318, x319, x320, x321, x322, x323, x324, x325, x326, x327, x328, x329, x330], defers := D } (ipteDs.map some) (ipteDs.map f) = { tmps := #[x0, x1, x2, x3, x4, x5, f 6, x7, x8, x9, x10, x11, x12, x13, x14, x15, x16, x17, x18, x19, x20, x21, x22, x23, x24, x25, x26, x27, x28, x29, x30, x31, x32, x33, x34, x35, x36, x37, x38, x39, x40, x41, x42, x43, x44, x45, x46, x47, x48, x49, x50, x51, x52, x53, x54, x55, x56, x57, x58, x59, x60, x61, x62, x63, x64, x65, x66, x67, x68, x69, x70, x71, x72, x73, x74, x75, x76, x77, x78, x79, x80, x81, x82, x83, x84, x85, x86, x87, x88, x89, x90, x91, x92, x93, x94, x95, x96, x97, x98, x99, x100, x101, x102, x103, x104, x105, x106, x107, x108, x109, x110, x111, x112, x113, x114, x115, x116, x117, x118, x119, x120, x121, x122, x123, x124, x125, x126, x127, x128, x129, x130, x131, x132, x133, x134, x135, x136, x137, x138, x139, x140, x141, x142, x143, x144, x145, x146, x147, x148, x149, x150, x151, x152, x153, x154, x155, x156, x157, x158, x159, x160, x161, x162, x163, x164, x165, x166, x167, x168, x169, x170, x171, x172, x173, x174, x175, x176, x177, x178, x179, x180, x181, x182, x183, x184, x185, x186, x187, x188, x189, x190, x191, x192, x193, x194, x195, x196, x197, x198, x199, x200, x201, x202, x203, x204, x205, x206, x207, x208, x209, x210, x211, x212, x213, x214, x215, x216, x217, x218, x219, x220, x221, x222, x223, x224, x225, x226, x227, x228, x229, x230, x231, x232, x233, x234, x235, x236, x237, x238, x239, x240, x241, x242, x243, x244, x245, x246, x247, x248, x249, x250, x251, x252, x253, x254, x255, x256, x257, x258, x259, x260, x261, x262, x263, x264, x265, x266, x267, x268, x269, x270, x271, x272, x273, x274, x275, x276, x277, x278, f 279, f 280, f 281, f 282, f 283, f 284, f 285, f 286, f 287, f 288, f 289, f 290, f 291, f 292, f 293, f 294, f 295, f 296, f 297, f 298, f 299, f 300, f 301, f 302, f 303, f 304, f 305, f 306, f 307, f 308, f 309, f 310, f 311, f 312, f 313, f 314, f 315, f 316, f 317, f 318, f 319, f 320, f 321, f 322, f 323, f 324, f 325, f 326, f 327, f 328, f 329, f 330], defers := D } := by kernel_rfl
end Go.Proofs.YtgmgoaencaldmaaGreat
namespace Go.Proofs.YtgmgoaencaldmaaGreat
open Go.RowKit Go.Sort
set_option linter.unusedVariables false
set_option linter.unusedSimpArgs false
set_option maxRecDepth 20000

theorem parts_small (d : Nd) : ∀ x ∈ partsN d, x.kids.length ≤ d.kids.length ∧ x.pivs.length ≤ d.pivs.length ∧ x.ms.length ≤ d.ms.length := by
  intro x hx
  unfold partsN at hx
  split at hx
  · simp only [List.mem_singleton] at hx
    subst hx
    exact ⟨Nat.le_refl _, Nat.le_refl _, Nat.le_refl _⟩
  · obtain ⟨i, _, rfl⟩ := List.mem_map.1 hx
    unfold partN partKids partPivs
    refine ⟨?_, ?_, takeM_len _ _⟩
    · simp only [List.length_drop, List.length_take]; omega
    · simp only [List.length_drop, List.length_take]; omega

set_option maxHeartbeats 8000000 in
theorem innerParts_any (ks1 : List Int) (hkl1 : ks1.length ≤ maxLen) (ka1 : Option Addr) (kc1 : Nat) (hkc1 : ka1 = none → kc1 = 0) (hkn1 : ks1.length ≤ kc1) (ps1 : List (List UInt8)) (hpl1 : ps1.length ≤ maxLen) (hpq1 : ∀ x ∈ ps1, x.length ≤ maxLen) (pa1 : Option Addr) (pc1 : Nat) (hpc1 : pa1 = none → pc1 = 0) (hpn1 : ps1.length ≤ pc1)
    (ms1 : List Mg) (hml1 : ms1.length ≤ maxLen) (hmq1 : ∀ m ∈ ms1, m.key.length ≤ maxLen ∧ m.val.length ≤ maxLen) (a1 : Option Addr) (c1 : Nat) (hc1 : a1 = none → c1 = 0)
    (ks2 : List Int) (hkl2 : ks2.length ≤ maxLen) (ka2 : Option Addr) (kc2 : Nat) (hkc2 : ka2 = none → kc2 = 0) (hkn2 : ks2.length ≤ kc2) (ps2 : List (List UInt8)) (hpl2 : ps2.length ≤ maxLen) (hpq2 : ∀ x ∈ ps2, x.length ≤ maxLen) (pa2 : Option Addr) (pc2 : Nat) (hpc2 : pa2 = none → pc2 = 0) (hpn2 : ps2.length ≤ pc2)
    (ms2 : List Mg) (hml2 : ms2.length ≤ maxLen) (hmq2 : ∀ m ∈ ms2, m.key.length ≤ maxLen ∧ m.val.length ≤ maxLen) (a2 : Option Addr) (c2 : Nat) (hc2 : a2 = none → c2 = 0) (pv : List UInt8) (hpv : pv.length ≤ maxLen)
    (w : World) (hK1 : RowAt w noF ka1 (intsOf ks1)) (hP1 : RowAt w noF pa1 (texts ps1)) (hM1 : MsgsAt w noF a1 ms1) (hK2 : RowAt w noF ka2 (intsOf ks2)) (hP2 : RowAt w noF pa2 (texts ps2)) (hM2 : MsgsAt w noF a2 ms2) :
    Calls Tryz.prog 5 #[.agg #[.slice ka1 ks1.length kc1, .slice pa1 ps1.length pc1, .slice a1 ms1.length c1], .agg #[.slice ka2 ks2.length kc2, .slice pa2 ps2.length pc2, .slice a2 ms2.length c2], .string (str pv)] w fun e w' => e = .returned (.bool true) ∧ Step noF w w' := by
  have hz := str_size
  have h0 := nil_str
  have cG1 := greatN_any ks1 hkl1 ps1 hpl1 hpq1 ms1 hml1 hmq1 ka1 pa1 a1 kc1 pc1 c1
  have cG2 := greatN_any ks2 hkl2 ps2 hpl2 hpq2 ms2 hml2 hmq2 ka2 pa2 a2 kc2 pc2 c2
  unfold maxLen at hpv
  have HK1 := hid hK1
  have HP1 := hid hP1
  have HM1 := hid hM1
  have HK2 := hid hK2
  have HP2 := hid hP2
  have HM2 := hid hM2
  have HC1 := hid (And.intro (And.intro hkc1 hkn1) (And.intro (And.intro hpc1 hpn1) hc1))
  have HC2 := hid (And.intro (And.intro hkc2 hkn2) (And.intro (And.intro hpc2 hpn2) hc2))
  have HQ1 := hid hmq1
  have HQ2 := hid hmq2
  have BA := hid ((box_new w (.slice ka1 ks1.length kc1) (.slice pa1 ps1.length pc1) (.slice a1 ms1.length c1)).alloc (.cells #[.slice ka2 ks2.length kc2, .slice pa2 ps2.length pc2, .slice a2 ms2.length c2] 34))
  have BB0 := box_new (w.alloc (.cells #[.slice ka1 ks1.length kc1, .slice pa1 ps1.length pc1, .slice a1 ms1.length c1] 34)) (.slice ka2 ks2.length kc2) (.slice pa2 ps2.length pc2) (.slice a2 ms2.length c2)
  rw [World.size_alloc] at BB0
  have BB := hid BB0
  have S0 := hid (((Step.refl noF w).alloc (.cells #[.slice ka1 ks1.length kc1, .slice pa1 ps1.length pc1, .slice a1 ms1.length c1] 34)).alloc (.cells #[.slice ka2 ks2.length kc2, .slice pa2 ps2.length pc2, .slice a2 ms2.length c2] 34))
  clear hK1 hP1 hM1 hK2 hP2 hM2 hkc1 hkn1 hpc1 hpn1 hc1 hkc2 hkn2 hpc2 hpn2 hc2 hmq1 hmq2 hpq1 hpq2 BB0 hkl1 hkl2 hpl1 hpl2 hml1 hml2
  go_enter Tryz.func5, Tryz.ntmps5
  go_wp2_with fail
  refine (awakeN_any _).mono ?_
  rintro e w1 ⟨rfl, s1⟩
  have S1 := hid (S0.out.trans s1)
  have BA1 := hid (BA.out.step s1)
  have BB1 := hid (BB.out.step s1)
  clear s1 BA BB S0
  obtain ⟨u0, u1, u2, _, _, _⟩ := BA1.out.all
  obtain ⟨v0, v1, v2, _, _, _⟩ := BB1.out.all
  go_wp2_with fail
  refine (cG1 w1 (rowAt_step HP1.out S1.out (fun _ _ h => h)) (HM1.out.stepB S1.out)).mono ?_
  rintro e w1' ⟨hg, rfl⟩
  rcases hg with rfl | ⟨rfl, hk1, hp1, hm1, _, _⟩
  · go_wp2_with fail
    go_ret
    exact ⟨rfl, S1.out⟩
  go_wp2_with fail
  refine (cG2 w1 (rowAt_step HP2.out S1.out (fun _ _ h => h)) (HM2.out.stepB S1.out)).mono ?_
  rintro e w1' ⟨hg, rfl⟩
  rcases hg with rfl | ⟨rfl, hk2, hp2, hm2, _, _⟩
  · go_wp2_with fail
    go_ret
    exact ⟨rfl, S1.out⟩
  by_cases gk : 512 < pv.length
  · have gkz : (512 : Int) < (pv.length : Int) := by omega
    go_wp2_with fail
    go_ret
    exact ⟨rfl, S1.out⟩
  have gkz : ¬ (512 : Int) < (pv.length : Int) := by omega
  have cO1 := ofN_any ks1 ps1 ms1 (by omega) (by omega) (by omega) (fun m hm => (HQ1.out m hm).2) ka1 pa1 a1 kc1 pc1 c1 HC1.out.1.1 HC1.out.2.1.1 HC1.out.2.2 w1 (rowAt_step HK1.out S1.out (fun _ _ h => h)) (rowAt_step HP1.out S1.out (fun _ _ h => h)) (HM1.out.stepB S1.out)
  have cO2 := fun w' (hs : Step noF w w') => ofN_any ks2 ps2 ms2 (by omega) (by omega) (by omega) (fun m hm => (HQ2.out m hm).2) ka2 pa2 a2 kc2 pc2 c2 HC2.out.1.1 HC2.out.2.1.1 HC2.out.2.2 w' (rowAt_step HK2.out hs (fun _ _ h => h)) (rowAt_step HP2.out hs (fun _ _ h => h)) (HM2.out.stepB hs)
  go_wp2_with fail
  refine cO1.mono ?_
  rintro e w2 ⟨ho, s2⟩
  have S2 := hid (S1.out.trans s2)
  have co2 := cO2 w2 S2.out
  clear u0 u1 u2 v0 v1 v2
  obtain ⟨v0, v1, v2, _, _, _⟩ := (BB1.out.step s2).all
  clear cO1 cO2 cG1 cG2 gkz gk
  rcases ho with ⟨hf, rfl⟩ | ⟨hf, p, rfl, hi⟩
  · clear hf
    go_wp2_with fail
    refine co2.mono ?_
    rintro e w3 ⟨ho, s3⟩
    have S3 := hid (S2.out.trans s3)
    rcases ho with ⟨_, rfl⟩ | ⟨_, p2, rfl, _⟩
    · go_wp2_with fail
      go_ret
      exact ⟨rfl, S3.out⟩
    · go_wp2_with fail
      go_ret
      exact ⟨rfl, S3.out⟩
  have hok := ndOk_of hf (by omega) (by omega)
  have HAL1 := hid hf
  have HI1 := hid hi
  clear hf hi
  go_wp2_with fail
  refine co2.mono ?_
  rintro e w3 ⟨ho, s3⟩
  have S3 := hid (S2.out.trans s3)
  rcases ho with ⟨_, rfl⟩ | ⟨hf, p2, rfl, hi⟩
  · go_wp2_with fail
    go_ret
    exact ⟨rfl, S3.out⟩
  have hok2 := ndOk_of hf (by omega) (by omega)
  have HAL2 := hid hf
  have I1 := hid (HI1.out.step s3)
  have I2 := hid hi
  have BA3 := hid (BA1.out.step (s2.trans s3))
  have BB3 := hid (BB1.out.step (s2.trans s3))
  have OK1 := hid hok
  have OK2 := hid hok2
  have hul1 := putsM_len ms1 []
  have hul2 := putsM_len ms2 []
  have cv1 := refOfN_any ks1 ps1 ms1 (by omega) (by omega) (by omega) ka1 pa1 a1 kc1 pc1 c1 w3 (rowAt_step HK1.out S3.out (fun _ _ h => h)) HC1.out.1.1 HC1.out.1.2 (rowAt_step HP1.out S3.out (fun _ _ h => h)) HC1.out.2.1.1 HC1.out.2.1.2 (HM1.out.stepB S3.out)
  have cV2 := fun w' (hs : Step noF w w') => refOfN_any ks2 ps2 ms2 (by omega) (by omega) (by omega) ka2 pa2 a2 kc2 pc2 c2 w' (rowAt_step HK2.out hs (fun _ _ h => h)) HC2.out.1.1 HC2.out.1.2 (rowAt_step HP2.out hs (fun _ _ h => h)) HC2.out.2.1.1 HC2.out.2.1.2 (HM2.out.stepB hs)
  have hlen1 := hok.len
  have hlen2 := hok2.len
  simp only at hlen1 hlen2
  clear v0 v1 v2 hf hi hok hok2 s2 s3 co2 HI1 S1 S2 BA1 BB1
  obtain ⟨u0, u1, u2, _, _, _⟩ := BA3.out.all
  obtain ⟨D1, hD1⟩ : ∃ D : Nd, Nd.mk ks1 ps1 (putsM ms1 []) = D := ⟨_, rfl⟩
  obtain ⟨D2, hD2⟩ : ∃ D : Nd, Nd.mk ks2 ps2 (putsM ms2 []) = D := ⟨_, rfl⟩
  have hdk1 : D1.kids.length ≤ 30 := by rw [← hD1]; exact hk1
  have hdk2 : D2.kids.length ≤ 30 := by rw [← hD2]; exact hk2
  have hdm1 : D1.ms.length ≤ 40 := by rw [← hD1]; simp at hul1 ⊢; omega
  have hdm2 : D2.ms.length ≤ 40 := by rw [← hD2]; simp at hul2 ⊢; omega
  rw [hD1] at cv1 I1 OK1
  rw [hD2] at cV2 I2 OK2
  have hdp1 := OK1.out.len
  have hdp2 := OK2.out.len
  clear hul1 hul2 hlen1 hlen2
  go_wp2_with fail
  refine cv1.mono ?_
  rintro e w4 ⟨hv, s4⟩
  rcases hv with ⟨h2, _⟩ | ⟨_, v, rfl, hv⟩
  · rw [HAL1.out] at h2
    cases h2
  have HDP1 := hid hdp1
  have HDP2 := hid hdp2
  clear hdp1 hdp2
  have hv1 := hv
  obtain ⟨ka', pa', a', kc', pc', c', rfl, _⟩ := hv
  have BX := box_new w4 (.slice ka' D1.kids.length kc') (.slice pa' D1.pivs.length pc') (.slice a' D1.ms.length c')
  have st5 := s4.trans ((Step.refl noF w4).alloc (.cells #[.slice ka' D1.kids.length kc', .slice pa' D1.pivs.length pc', .slice a' D1.ms.length c'] 34))
  have V1 := hid (NdV.step hv1 ((Step.refl noF w4).alloc (.cells #[.slice ka' D1.kids.length kc', .slice pa' D1.pivs.length pc', .slice a' D1.ms.length c'] 34)))
  have S5 := hid (S3.out.trans st5)
  have I15 := hid (I1.out.step st5)
  have I25 := hid (I2.out.step st5)
  have BB5 := hid (BB3.out.step st5)
  obtain ⟨W5, hW5⟩ : ∃ W, w4.alloc (.cells #[.slice ka' D1.kids.length kc', .slice pa' D1.pivs.length pc', .slice a' D1.ms.length c'] 34) = W := ⟨_, rfl⟩
  rw [hW5] at BX V1 S5 I15 I25 BB5
  obtain ⟨g1, hg1⟩ : ∃ g, w4.heap.size = g := ⟨_, rfl⟩
  rw [hg1] at BX
  have BX1 := hid BX
  have cv2 := cV2 W5 S5.out
  obtain ⟨v0, v1, v2, _, _, _⟩ := BB5.out.all
  clear BX st5 u0 u1 u2 hv1 s4 I1 I2 S3 BA3 BB3 cv1 cV2
  go_wp2_with fail
  clear hW5 hg1
  refine cv2.mono ?_
  rintro e w6 ⟨hv, s6⟩
  rcases hv with ⟨h2, _⟩ | ⟨_, v, rfl, hv⟩
  · rw [HAL2.out] at h2
    cases h2
  have hv1 := hv
  obtain ⟨kb', pb', b', kd', pd', e', rfl, _⟩ := hv
  have BY := box_new w6 (.slice kb' D2.kids.length kd') (.slice pb' D2.pivs.length pd') (.slice b' D2.ms.length e')
  have st7 := s6.trans ((Step.refl noF w6).alloc (.cells #[.slice kb' D2.kids.length kd', .slice pb' D2.pivs.length pd', .slice b' D2.ms.length e'] 34))
  have V2 := hid (NdV.step hv1 ((Step.refl noF w6).alloc (.cells #[.slice kb' D2.kids.length kd', .slice pb' D2.pivs.length pd', .slice b' D2.ms.length e'] 34)))
  have S7 := hid (S5.out.trans st7)
  have I1 := hid (I15.out.step st7)
  have I2 := hid (I25.out.step st7)
  have BX7 := hid (BX1.out.step st7)
  have V17 := hid (V1.out.step st7)
  obtain ⟨W7, hW7⟩ : ∃ W, w6.alloc (.cells #[.slice kb' D2.kids.length kd', .slice pb' D2.pivs.length pd', .slice b' D2.ms.length e'] 34) = W := ⟨_, rfl⟩
  rw [hW7] at BY V2 S7 I1 I2 BX7 V17
  obtain ⟨g2, hg2⟩ : ∃ g, w6.heap.size = g := ⟨_, rfl⟩
  rw [hg2] at BY
  have BY7 := hid BY
  have hCne : D1.kids ≠ [] := ((goodN_iff _ _).1 OK1.out.1).1
  have hPL := partsN_len D1 hCne
  have hBL := betweenN_len D1 hCne
  have cP := partsNd_any p D1 OK1.out W7 I1.out
  have cQ := fun w' (hs : Step noF W7 w') => refPartsN_any D1 OK1.out _ w' (V17.out.step hs)
  have HPS := hid (parts_small D1)
  obtain ⟨C, hC⟩ : ∃ C, countN D1.kids.length = C := ⟨_, rfl⟩
  have hC6 : C ≤ 10 := by rw [← hC]; unfold countN; omega
  have hC0 : 0 < C := by
    have : 0 < D1.kids.length := List.length_pos_iff.2 hCne
    rw [← hC]; unfold countN; omega
  obtain ⟨cm, hcm⟩ : ∃ x, C - 1 = x := ⟨_, rfl⟩
  rw [hC] at hPL hBL cP
  rw [hcm] at hBL cP
  have HPL := hid hPL
  have HBL := hid hBL
  clear BY st7 v0 v1 v2 hv1 s6 I15 I25 BB5 cv2 BX1 V1 S5 hCne hPL hBL hC
  go_wp2_with fail
  clear hW7 hg2
  refine cP.mono ?_
  rintro e w8 ⟨y1, y2, rfl, hy1, hy2, s8⟩
  obtain ⟨g, qs, rfl, hql, hrow, hat⟩ := hy1.out
  obtain ⟨ta, tc, rfl, trow⟩ := hy2.out
  have cq := cQ w8 s8.out
  obtain ⟨x0, x1, x2, _, _, _⟩ := (BX7.out.step s8.out).all
  have HQL := hid hql
  have HROW := hid hrow
  have HAT := hid hat
  have HTR := hid trow
  have S8 := s8
  clear hy1 hy2 cP cQ hql hrow hat trow s8
  go_wp2_with fail
  refine cq.mono ?_
  rintro e w9 ⟨z1, z2, rfl, hz1, hz2, s9⟩
  obtain ⟨gr, gc, rfl, hcel⟩ := hz1
  obtain ⟨sa, sc, rfl, srow⟩ := hz2
  rw [HPL.out, HBL.out]
  have S9 := hid (S8.out.trans s9)
  have HCEL := hid hcel
  have HSR := hid srow
  have T9 := hid s9
  clear hcel srow s9 cq x0 x1 x2
  go_wp2_with fail
  go_loopg [19] C (fun kx s19 wr => ∃ j : Nat, s19 = .int .i64 j ∧ j ≤ C ∧ C - j ≤ kx ∧ Hid (Step noF w9 wr))
  case atStart => exact ⟨0, rfl, Nat.zero_le _, by omega, Step.refl _ _⟩
  case round =>
    obtain ⟨j, rfl, hjC, hkx, SW⟩ := hrel
    by_cases hjl : j < C
    · have hjz : (j : Int) < (C : Int) := by omega
      have wj : IntKind.i64.wrap ((j : Int) + 1) = (j : Int) + 1 := by rw [IntKind.wrap_i64]; omega
      have hjq : j < qs.length := by rw [HQL.out]; exact hjl
      have hjp : j < (partsN D1).length := by rw [HPL.out]; exact hjl
      obtain ⟨b', off', e', k1⟩ := RowAt.at (f := fun q : Nat => Value.pointer (some ⟨q, 0, none⟩)) (rowAt_step HROW.out (T9.out.trans SW.out) (fun _ _ h => h)) j hjq
      injection e' with e'
      injection e' with e1 e2 _
      subst e1 e2
      rw [Nat.zero_add] at k1
      obtain ⟨P0, P1, P2, m0, m1, m2, hndv⟩ := HCEL.out j hjp
      have y0 := SW.out.after m0
      have y1 := SW.out.after m1
      have y2 := SW.out.after m2
      have HNV := hid (hndv.step SW.out)
      have hps := HPS.out _ (List.getElem_mem hjp)
      have IQ := hid ((HAT.out j hjq hjp).step (T9.out.trans SW.out))
      obtain ⟨DJ, hDJ⟩ : ∃ x, (partsN D1)[j] = x := ⟨_, rfl⟩
      obtain ⟨q, hq⟩ : ∃ x, qs[j] = x := ⟨_, rfl⟩
      rw [hDJ] at hps IQ HNV
      rw [hq] at IQ k1
      have hdp1 := HDP1.out
      have c153 := fun w' (hs : Step noF wr w') => formV_any q DJ ⟨by omega, by omega, by omega⟩ w' (IQ.out.step hs)
      have c158 := fun x w' (hs : Step noF wr w') (hx : NdV w' DJ x) => sameV_any DJ ⟨by omega, by omega, by omega⟩ x _ w' hx (HNV.out.step hs)
      clear hDJ hq hndv m0 m1 m2 hdp1
      by_cases hj0 : j = 0
      · subst hj0
        go_upto_region 18 with fail
        change Code.wp _ (Code.region 18 ((Tryz.f5.body.bind (regionOps 18)).getD #[]) true) _ _ _
        refine ipta_go _ gr q C gc 0 P0 P1 P2 DJ wr k1 y0 y1 y2 hjz c153 c158 (hid rfl) _ rfl rfl rfl rfl ?_
        intro ff wz sz e177
        have e177' : ff 177 = .bool false := e177
        have SZ := hid (SW.out.trans sz)
        clear sz e177 c153 c158 y0 y1 y2 k1
        rw [ipta_lit, e177']
        go_wp2_with fail
        go_roundg (C - (0 + 1))
        case measure => omega
        case rel => exact ⟨0 + 1, by simp, by omega, Nat.le_refl _, SZ.out⟩
      · obtain ⟨jm, hjm⟩ : ∃ x, j - 1 = x := ⟨_, rfl⟩
        have hjb : jm < (betweenN D1).length := by rw [HBL.out]; omega
        obtain ⟨tb, tf, rfl, t1⟩ := texts_get (rowAt_step HTR.out (T9.out.trans SW.out) (fun _ _ h => h)) jm hjb
        obtain ⟨sb, sf, rfl, s1⟩ := texts_get (rowAt_step HSR.out SW.out (fun _ _ h => h)) jm hjb
        have gt0 : (0 : Int) < (j : Int) := by omega
        have ejm : (j : Int) - 1 = (jm : Int) := by omega
        have wjm : IntKind.i64.wrap (jm : Int) = (jm : Int) := by rw [IntKind.wrap_i64]; omega
        have ljm : (jm : Int) < (cm : Int) := by omega
        go_upto_region 18 with fail
        change Code.wp _ (Code.region 18 ((Tryz.f5.body.bind (regionOps 18)).getD #[]) true) _ _ _
        refine iptb_go _ gr q C gc j P0 P1 P2 DJ tb tf tc sb sf sc cm jm _ wr k1 y0 y1 y2 hjz c153 c158 t1 s1 gt0 ejm wjm ljm _ rfl rfl rfl rfl rfl rfl ?_
        intro ff wz sz e177
        have e177' : ff 177 = .bool false := e177
        have SZ := hid (SW.out.trans sz)
        clear sz e177 c153 c158 y0 y1 y2 k1 t1 s1
        rw [iptb_lit, e177']
        go_wp2_with fail
        go_roundg (C - (j + 1))
        case measure => omega
        case rel => exact ⟨j + 1, by simp, by omega, Nat.le_refl _, SZ.out⟩
    · obtain rfl : j = C := by omega
      have hjz : ¬ (j : Int) < (j : Int) := by omega
      have SX := hid (S9.out.trans SW.out)
      have cJ := joinN_any p p2 D1 D2 OK1.out OK2.out pv wr (I1.out.step SX.out) (I2.out.step SX.out)
      have cRJ := fun w' (hs : Step noF W7 w') => refJoinN_any D1 D2 OK1.out OK2.out (by omega) pv _ _ w' (V17.out.step hs) (V2.out.step hs)
      obtain ⟨JD, hJD⟩ : ∃ x, joinN D1 pv D2 = x := ⟨_, rfl⟩
      have hdp1 := HDP1.out
      have hdp2 := HDP2.out
      have hjs : JD.kids.length ≤ 1000 ∧ JD.pivs.length ≤ 1000 ∧ JD.ms.length ≤ 1000 := by
        have h := putsM_len D2.ms D1.ms
        rw [← hJD]
        unfold joinN
        refine ⟨?_, ?_, ?_⟩
        · show (D1.kids ++ D2.kids).length ≤ 1000
          rw [List.length_append]; omega
        · show (D1.pivs ++ pv :: D2.pivs).length ≤ 1000
          rw [List.length_append, List.length_cons]; omega
        · show (putsM D2.ms D1.ms).length ≤ 1000
          omega
      obtain ⟨hjk, hjv, hjm⟩ := hjs
      rw [hJD] at cJ cRJ
      obtain ⟨GD, hGD⟩ : ∃ x, goodN JD.kids JD.pivs = x := ⟨_, rfl⟩
      rw [hGD] at cRJ
      clear hJD hdp1 hdp2
      go_wp2_with fail
      refine cJ.mono ?_
      rintro e w10 ⟨hmd, s10⟩
      obtain ⟨x, f, rfl, hz1⟩ := made_swap hmd
      rw [hGD] at hz1
      have HZ := hid hz1
      have S10 := hid (SX.out.trans s10)
      have crj := cRJ w10 S10.out
      obtain ⟨x0, x1, x2, _, _, _⟩ := (BX7.out.step S10.out).all
      obtain ⟨t0, t1, t2, _, _, _⟩ := (BY7.out.step S10.out).all
      clear hmd hz1 s10 cJ cRJ hGD
      go_wp2_with fail
      refine crj.mono ?_
      rintro e w11 ⟨hq, s11⟩
      obtain ⟨b1, b2, b3, l1, l2, l3, k1, k2, k3, rfl, hnv⟩ := refMade_open hq
      have st8 := (Step.refl noF w11).alloc (.cells #[.slice b1 l1 k1, .slice b2 l2 k2, .slice b3 l3 k3] 34)
      have BX8 := box_new w11 (.slice b1 l1 k1) (.slice b2 l2 k2) (.slice b3 l3 k3)
      have N8 : Hid (GD = true → NdV (w11.alloc (.cells #[.slice b1 l1 k1, .slice b2 l2 k2, .slice b3 l3 k3] 34)) JD (.agg #[.slice b1 l1 k1, .slice b2 l2 k2, .slice b3 l3 k3])) := fun h => NdV.step (hnv h) st8
      have S12 := hid (S10.out.trans (s11.trans st8))
      have Y8 := hid (s11.trans st8)
      obtain ⟨W8, hW8⟩ : ∃ W8, w11.alloc (.cells #[.slice b1 l1 k1, .slice b2 l2 k2, .slice b3 l3 k3] 34) = W8 := ⟨_, rfl⟩
      rw [hW8] at BX8 N8 S12 Y8
      obtain ⟨g8, hg8⟩ : ∃ g, w11.heap.size = g := ⟨_, rfl⟩
      rw [hg8] at BX8
      clear x0 x1 x2 t0 t1 t2
      obtain ⟨u0, u1, u2, _, _, _⟩ := BX8.all
      clear BX8 crj hq hnv s11 st8
      go_upto_region 22 with fail
      clear hW8 hg8
      go_cut [219] from 192 (fun s219 wx => s219 = .bool false ∧ Hid (Step noF W8 wx))
      case first =>
        cases GD
        · obtain ⟨rfl, rfl⟩ := HZ.out.1 rfl
          change Code.wp _ (Code.region 22 ((Tryz.f5.body.bind (regionOps 22)).getD #[]) true) _ _ _
          refine iptd_go g8 W8 _ rfl rfl rfl rfl rfl ?_
          intro ff wz sz e219
          have e219' : ff 219 = .bool false := e219
          have SZ := hid sz
          clear sz e219
          rw [iptd_lit, e219']
          go_wp2_with fail
          go_meet
          exact ⟨rfl, SZ.out⟩
        · obtain ⟨rfl, q, rfl, hin8⟩ := HZ.out.2 rfl
          have I8 := hid (hin8.step Y8.out)
          have c202 := fun w' (hs : Step noF W8 w') => formV_any q JD ⟨by omega, by omega, by omega⟩ w' (I8.out.step hs)
          have c204 := fun x w' (hs : Step noF W8 w') (hx : NdV w' JD x) => sameV_any JD ⟨by omega, by omega, by omega⟩ x _ w' hx (NdV.step (N8.out rfl) hs)
          change Code.wp _ (Code.region 22 ((Tryz.f5.body.bind (regionOps 22)).getD #[]) true) _ _ _
          refine iptc_go q g8 _ _ _ JD W8 u0 u1 u2 c202 c204 _ rfl rfl rfl rfl rfl ?_
          intro ff wz sz e219
          have e219' : ff 219 = .bool false := e219
          have SZ := hid sz
          clear sz e219 c202 c204
          rw [iptc_lit, e219']
          go_wp2_with fail
          go_meet
          exact ⟨rfl, SZ.out⟩
      case rest =>
        obtain ⟨rfl, SC⟩ := hcut
        have S13 := hid (S12.out.trans SC.out)
        clear u0 u1 u2 HZ N8
        go_wp2_with fail
        refine (putN_nil none 0 0 wc).mono ?_
        rintro e w' ⟨rfl, rfl⟩
        go_wp2_with fail
        refine (flushN_nil 0 wc).mono ?_
        rintro e w' ⟨rfl, rfl⟩
        go_wp2_with fail
        refine (swapN_nil 0 none 0 0 wc).mono ?_
        rintro e w' ⟨rfl, rfl⟩
        go_wp2_with fail
        refine (fuseN_nil 0 0 wc).mono ?_
        rintro e w' ⟨rfl, rfl⟩
        go_wp2_with fail
        refine (joinN_nil _ _ wc).mono ?_
        rintro e w' ⟨rfl, rfl⟩
        go_wp2_with fail
        refine (joinN_none _ _ wc).mono ?_
        rintro e w' ⟨rfl, rfl⟩
        go_wp2_with fail
        refine (partsNd_nil wc).mono ?_
        rintro e w' ⟨rfl, rfl⟩
        obtain ⟨u0, u1, u2, _, _, _⟩ := (BX7.out.step S13.out).all
        obtain ⟨t0, t1, t2, _, _, _⟩ := (BY7.out.step S13.out).all
        have hdp1 := HDP1.out
        have hdp2 := HDP2.out
        have c288 := fun w' (_ : Step noF wc w') => pure_calls (lenN_nil w')
        have c291 := fun w' (_ : Step noF wc w') => pure_calls (kidsN_nil w')
        have c295 := fun w' (_ : Step noF wc w') => pure_calls (pivotsN_nil w')
        have c299 : ∀ w', Step noF wc w' → Calls Tryz.prog 13 #[.pointer none, .string ⟨#[97]⟩] w' fun e w'' => e = .returned (.int .i64 0) ∧ Step noF w' w'' := fun w' _ => kidOfN_nil [97] w'
        have c304 := fun w' (_ : Step noF wc w') => pure_calls (buffN_nil w')
        have c310 : ∀ w', Step noF wc w' → Calls Tryz.prog 15 #[.pointer none, .int .i64 0, .agg #[.string ⟨#[97]⟩, .string ⟨#[]⟩]] w' fun e w'' => e = .returned (.agg #[.string (str []), .string (str [])]) ∧ Step noF w' w'' := fun w' _ => rangeN_no (.pointer none) 0 ⟨[97], []⟩ w' (fun w => hasN_nil 0 w)
        have c317 := fun w' (hs : Step noF wc w') => sameNd_any p p2 D1 D2 ⟨⟨by omega, by omega, by omega⟩, by omega, by omega, by omega⟩ w' (I1.out.step (S13.out.trans hs)) (I2.out.step (S13.out.trans hs))
        have c320 := fun w' (hs : Step noF wc w') => refSameN_any D1 D2 ⟨by omega, by omega⟩ ⟨by omega, by omega⟩ _ _ w' (V17.out.step (S13.out.trans hs)) (V2.out.step (S13.out.trans hs))
        have c324 := fun w' (_ : Step noF wc w') => pure_calls (sameNd_nil w')
        have c328 := fun w' (_ : Step noF wc w') => pure_calls (sameNd_none p w')
        go_upto_region 34 with fail
        change Code.wp _ (Code.region 34 ((Tryz.f5.body.bind (regionOps 34)).getD #[]) true) _ _ _
        refine ipte_go p p2 g1 g2 _ _ _ _ _ _ (sameN D1 D2) wc u0 u1 u2 t0 t1 t2 c288 c291 c295 c299 c304 c310 c317 c320 c324 c328 _ rfl rfl rfl rfl rfl rfl rfl rfl rfl ?_
        intro fg wy sy e6
        have e6' : fg 6 = .bool true := e6
        have SY := hid (S7.out.trans (S13.out.trans sy))
        clear sy e6 c288 c291 c295 c299 c304 c310 c317 c320 c324 c328 u0 u1 u2 t0 t1 t2
        rw [ipte_lit, e6']
        go_wp2_with fail
        go_ret
        exact ⟨rfl, SY.out⟩
end Go.Proofs.YtgmgoaencaldmaaGreat
namespace Go.Proofs.YtgmgoaencaldmaaGreat.innerPartsDone
open Go.ChangeShapes Go.WideShapes Go.ChangeAt Go.RowKit
open Go.ChangeMaps (open_string shut_string)
set_option linter.unusedVariables false

set_option maxRecDepth 100000 in
theorem lifted (os : Os) (started : os.Started) (H : Type) (enc : TypeId × Value → H) :
    ReturnsInHanded {} Tryz.checked os 5 .any (Rows.innerPartsSpec.pre6 enc Tryz.prog Tryz.f5 Rows.innerPartsRow.domain false) (Rows.innerPartsSpec.post enc Tryz.prog Tryz.f5 false true false false) := by
  refine returnsInHanded_of_change (C := Tryz.checked) own_okM started (by kernel_rfl) Tryz.func5
    (ChangeSpec.witness6 (enc := enc) (C := Tryz.checked) false ⟨#[], #[.agg #[.slice none 0 0, .slice none 0 0, .slice none 0 0], .agg #[.slice none 0 0, .slice none 0 0, .slice none 0 0], .string ⟨#[]⟩], []⟩ 8 (by kernel_rfl) (by kernel_rfl) (by kernel_rfl) (by kernel_rfl)) ?_
  intro W base args ds gs before hval0 hW hcnd _
  have hval : ∀ (j : Nat) t v, Tryz.f5.params[j]? = some t → args[j]? = some v → Value.okWide Tryz.prog W .any base t v := hval0
  have hW' := hW
  obtain ⟨p, q, hA0, hV, rfl, hfz, hnd⟩ := hW
  have hA : DataW.TrodAll enc Tryz.prog W 0 (fun _ => true) true Tryz.f5.params.toList args.toList ds p := hA0
  rw [Tryz.params5] at hA hval
  obtain ⟨v0, vs0, d0, ds0, p0, q0, hargs, rfl, rfl, h0, r0_⟩ := trodAll_cons hA
  obtain ⟨v1, vs1, d1, ds1, p1, q1, rfl, rfl, rfl, h1, r1_⟩ := trodAll_cons r0_
  obtain ⟨v2, vs2, d2, ds2, p2, q2, rfl, rfl, rfl, h2, r2_⟩ := trodAll_cons r1_
  obtain ⟨rfl, rfl, rfl⟩ := trodAll_nil r2_
  obtain rfl : args = #[v0, v1, v2] := by cases args; simp_all
  obtain ⟨rfl, rfl⟩ := trodVars_none hV
  have k0 := h0
  have lt0 : ∀ x ∈ p0, x.block < W.heap.size := by obtain ⟨m, hm⟩ := k0; exact DataW.trod_lt m _ _ _ hm
  obtain ⟨ka0, kc0, ks0, pa0, pc0, ps0, a0, cap0, ms0, rfl, ⟨hkl0, hkc0, hkn0, hks0⟩, ⟨hpl0, hpc0, hpn0, hps0, hpq0⟩, ⟨hml0, hc0, hms0, hmq0⟩⟩ := open_nd2 (hval 0 34 v0 rfl rfl) h0
  have k1 := h1
  have lt1 : ∀ x ∈ p1, x.block < W.heap.size := by obtain ⟨m, hm⟩ := k1; exact DataW.trod_lt m _ _ _ hm
  obtain ⟨ka1, kc1, ks1, pa1, pc1, ps1, a1, cap1, ms1, rfl, ⟨hkl1, hkc1, hkn1, hks1⟩, ⟨hpl1, hpc1, hpn1, hps1, hpq1⟩, ⟨hml1, hc1, hms1, hmq1⟩⟩ := open_nd2 (hval 1 34 v1 rfl rfl) h1
  obtain ⟨s2, rfl, rfl, rfl, hs2⟩ := open_string Tryz.underlying9 (hval 2 9 v2 rfl rfl) h2
  clear hA0 hval0
  have hw := innerParts_any ks0 hkl0 ka0 kc0 hkc0 hkn0 ps0 hpl0 hpq0 pa0 pc0 hpc0 hpn0 ms0 hml0 hmq0 a0 cap0 hc0 ks1 hkl1 ka1 kc1 hkc1 hkn1 ps1 hpl1 hpq1 pa1 pc1 hpc1 hpn1 ms1 hml1 hmq1 a1 cap1 hc1 s2.data.toList (by rw [list_len]; exact hs2) W hks0 hps0 hms0 hks1 hps1 hms1
  rw [← str_of s2] at hw
  refine hw.mono fun e W' ⟨he, hst⟩ => ?_
  subst he
  have bel : Below W.heap.size W W' := hst.below (fun k hk => hk.elim)
  exact ⟨_, rfl, _, _, _, [], _, [], hW', trodAll_mk1 (shut_bool Tryz.underlying4 _),
    (trodAll_cons_mk (Below.trod laidOutM (by kernel_rfl) (of_decide_eq_true (by kernel_rfl)) k0 bel lt0) (trodAll_cons_mk (Below.trod laidOutM (by kernel_rfl) (of_decide_eq_true (by kernel_rfl)) k1 bel lt1) (trodAll_cons_mk (shut_string Tryz.underlying9 hs2) trodAll_mk0))), rfl, bel.frame _, fun h => by cases h⟩

theorem over : Rows.innerPartsRow.holds Tryz.pinned (OpenSpec.ofChange Rows.innerPartsSpec) :=
  OpenClaim.holds_of_wide 5 Tryz.f5 rfl rfl rfl rfl rfl rfl rfl ⟨rfl, rfl, rfl, rfl, rfl⟩ rfl rfl rfl rfl rfl (by kernel_rfl) Tryz.func5 (by kernel_rfl)
    (of_decide_eq_true (by kernel_rfl)) (by unfold Func.isWrapper; first | (rw [if_pos (by decide +kernel)]; kernel_rfl) | (rw [if_neg (by decide +kernel)]; exact ⟨rfl, rfl⟩))
    (fun os started H enc _ => lifted os started H enc)
end Go.Proofs.YtgmgoaencaldmaaGreat.innerPartsDone
namespace Go.Proofs.YtgmgoaencaldmaaGreat
theorem innerParts_holds : Rows.InnerPartsSaid := innerPartsDone.over
end Go.Proofs.YtgmgoaencaldmaaGreat
