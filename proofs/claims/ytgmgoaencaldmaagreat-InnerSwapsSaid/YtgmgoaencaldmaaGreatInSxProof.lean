/-
  Of every node and parts the node with them in a kid's place, and with a kid in the place of two, are the document's: for every input, with no condition.
  The region that draws in grangerlaw11.InnerSwaps (number 23), operation by operation. Written by draw6.py.
  The region that draws in grangerlaw11.InnerSwaps (number 23), operation by operation. Written by draw6.py.
  The region that draws in grangerlaw11.InnerSwaps (number 29), operation by operation. Written by draw6.py.
  What the law InnerSwaps asks, walked.
-/
import Derived.Test.YtgmgoaencaldmaaGreatDraw
import Derived.Test.YtgmgoaencaldmaaGreatInRA
import Derived.Test.YtgmgoaencaldmaaGreatInRS
import Derived.Deep.LoopGhost
import Derived.Test.YtgmgoaencaldmaaGreatInOpen
namespace Go.Proofs.YtgmgoaencaldmaaGreat
open Go.RowKit
set_option linter.unusedVariables false
set_option linter.unusedSimpArgs false


def insaDs : List Nat := [130, 131, 132, 133, 134, 135, 136, 137, 138, 139, 140, 141, 142, 143, 144, 145, 146, 147, 148, 149, 150, 151, 152, 153, 154, 155, 156, 157]
def insaDl : List (Option Nat) := [some 130, some 131, some 132, some 133, some 134, some 135, some 136, some 137, some 138, some 139, some 140, some 141, some 142, some 143, some 144, some 145, some 146, some 147, some 148, some 149, some 150, some 151, some 152, some 153, some 154, some 155, some 156, some 157]
theorem insa_dl : ((Tryz.f4.body.bind (regionOps 23)).getD #[]).toList.map (·.dst) = insaDl := by kernel_rfl
theorem insa_back : backB ((Tryz.f4.body.bind (regionOps 23)).getD #[]) = true := by kernel_rfl
theorem insa_size : ((Tryz.f4.body.bind (regionOps 23)).getD #[]).size = 28 := by kernel_rfl
theorem insa_nd : insaDl.Pairwise (fun x y => x = none ∨ x ≠ y) := by decide
theorem insa_lt (d : Nat) (h : some d ∈ insaDl) : d < 198 := by
  have hh : insaDl.all (fun o => o.all (fun d => decide (d < 198))) = true := by decide
  simpa using List.all_eq_true.1 hh _ h
theorem insaOp0 : opIs ((Tryz.f4.body.bind (regionOps 23)).getD #[]) 0 (some 130) (Op.move (Operand.tmp 25)) (none) := opIs_of (by kernel_rfl)
theorem insaOp1 : opIs ((Tryz.f4.body.bind (regionOps 23)).getD #[]) 1 (some 131) (Op.move (Operand.tmp 130)) (none) := opIs_of (by kernel_rfl)
theorem insaOp2 : opIs ((Tryz.f4.body.bind (regionOps 23)).getD #[]) 2 (some 132) (Op.move (Operand.tmp 21)) (some (1, true)) := opIs_of (by kernel_rfl)
theorem insaOp3 : opIs ((Tryz.f4.body.bind (regionOps 23)).getD #[]) 3 (some 133) (Op.binOp BinOp.neq 30 (Operand.tmp 132) (Operand.const (Value.int IntKind.i64 0)) 30) (some (1, true)) := opIs_of (by kernel_rfl)
theorem insaOp4 : opIs ((Tryz.f4.body.bind (regionOps 23)).getD #[]) 4 (some 134) (Op.move (Operand.tmp 133)) (some (1, true)) := opIs_of (by kernel_rfl)
theorem insaOp5 : opIs ((Tryz.f4.body.bind (regionOps 23)).getD #[]) 5 (some 135) (Op.move (Operand.tmp 20)) (some (4, false)) := opIs_of (by kernel_rfl)
theorem insaOp6 : opIs ((Tryz.f4.body.bind (regionOps 23)).getD #[]) 6 (some 136) (Op.binOp BinOp.eql 29 (Operand.tmp 135) (Operand.const (Value.pointer none)) 29) (some (4, false)) := opIs_of (by kernel_rfl)
theorem insaOp7 : opIs ((Tryz.f4.body.bind (regionOps 23)).getD #[]) 7 (some 137) (Op.pick (Operand.tmp 134) (Operand.const (Value.bool true)) (Operand.tmp 136)) (some (1, true)) := opIs_of (by kernel_rfl)
theorem insaOp8 : opIs ((Tryz.f4.body.bind (regionOps 23)).getD #[]) 8 (some 138) (Op.move (Operand.tmp 137)) (some (1, true)) := opIs_of (by kernel_rfl)
theorem insaOp9 : opIs ((Tryz.f4.body.bind (regionOps 23)).getD #[]) 9 (some 139) (Op.move (Operand.tmp 20)) (some (8, false)) := opIs_of (by kernel_rfl)
theorem insaOp10 : opIs ((Tryz.f4.body.bind (regionOps 23)).getD #[]) 10 (some 140) (Op.call { callee := Callee.value (Operand.func 11), args := #[Operand.tmp 139], argTypes := #[29] }) (some (8, false)) := opIs_of (by kernel_rfl)
theorem insaOp11 : opIs ((Tryz.f4.body.bind (regionOps 23)).getD #[]) 11 (some 141) (Op.load 34 (Operand.tmp 24)) (some (8, false)) := opIs_of (by kernel_rfl)
theorem insaOp12 : opIs ((Tryz.f4.body.bind (regionOps 23)).getD #[]) 12 (some 142) (Op.call { callee := Callee.value (Operand.func 10), args := #[Operand.tmp 140, Operand.tmp 141], argTypes := #[34, 34] }) (some (8, false)) := opIs_of (by kernel_rfl)
theorem insaOp13 : opIs ((Tryz.f4.body.bind (regionOps 23)).getD #[]) 13 (some 143) (Op.unOp UnOp.not 4 (Operand.tmp 142)) (some (8, false)) := opIs_of (by kernel_rfl)
theorem insaOp14 : opIs ((Tryz.f4.body.bind (regionOps 23)).getD #[]) 14 (some 144) (Op.pick (Operand.tmp 138) (Operand.const (Value.bool true)) (Operand.tmp 143)) (some (1, true)) := opIs_of (by kernel_rfl)
theorem insaOp15 : opIs ((Tryz.f4.body.bind (regionOps 23)).getD #[]) 15 (some 145) (Op.pick (Operand.tmp 131) (Operand.tmp 144) (Operand.const (Value.bool false))) (none) := opIs_of (by kernel_rfl)
theorem insaOp16 : opIs ((Tryz.f4.body.bind (regionOps 23)).getD #[]) 16 (some 146) (Op.move (Operand.tmp 145)) (none) := opIs_of (by kernel_rfl)
theorem insaOp17 : opIs ((Tryz.f4.body.bind (regionOps 23)).getD #[]) 17 (some 147) (Op.move (Operand.tmp 25)) (some (16, false)) := opIs_of (by kernel_rfl)
theorem insaOp18 : opIs ((Tryz.f4.body.bind (regionOps 23)).getD #[]) 18 (some 148) (Op.unOp UnOp.not 4 (Operand.tmp 147)) (some (16, false)) := opIs_of (by kernel_rfl)
theorem insaOp19 : opIs ((Tryz.f4.body.bind (regionOps 23)).getD #[]) 19 (some 149) (Op.move (Operand.tmp 148)) (some (16, false)) := opIs_of (by kernel_rfl)
theorem insaOp20 : opIs ((Tryz.f4.body.bind (regionOps 23)).getD #[]) 20 (some 150) (Op.move (Operand.tmp 21)) (some (19, true)) := opIs_of (by kernel_rfl)
theorem insaOp21 : opIs ((Tryz.f4.body.bind (regionOps 23)).getD #[]) 21 (some 151) (Op.binOp BinOp.neq 30 (Operand.tmp 150) (Operand.const (Value.int IntKind.i64 1)) 30) (some (19, true)) := opIs_of (by kernel_rfl)
theorem insaOp22 : opIs ((Tryz.f4.body.bind (regionOps 23)).getD #[]) 22 (some 152) (Op.move (Operand.tmp 151)) (some (19, true)) := opIs_of (by kernel_rfl)
theorem insaOp23 : opIs ((Tryz.f4.body.bind (regionOps 23)).getD #[]) 23 (some 153) (Op.move (Operand.tmp 20)) (some (22, false)) := opIs_of (by kernel_rfl)
theorem insaOp24 : opIs ((Tryz.f4.body.bind (regionOps 23)).getD #[]) 24 (some 154) (Op.binOp BinOp.neq 29 (Operand.tmp 153) (Operand.const (Value.pointer none)) 29) (some (22, false)) := opIs_of (by kernel_rfl)
theorem insaOp25 : opIs ((Tryz.f4.body.bind (regionOps 23)).getD #[]) 25 (some 155) (Op.pick (Operand.tmp 152) (Operand.const (Value.bool true)) (Operand.tmp 154)) (some (19, true)) := opIs_of (by kernel_rfl)
theorem insaOp26 : opIs ((Tryz.f4.body.bind (regionOps 23)).getD #[]) 26 (some 156) (Op.pick (Operand.tmp 149) (Operand.tmp 155) (Operand.const (Value.bool false))) (some (16, false)) := opIs_of (by kernel_rfl)
theorem insaOp27 : opIs ((Tryz.f4.body.bind (regionOps 23)).getD #[]) 27 (some 157) (Op.pick (Operand.tmp 146) (Operand.const (Value.bool true)) (Operand.tmp 156)) (none) := opIs_of (by kernel_rfl)
/-- What is said of each slot. -/
def insaSp (p g : Nat) (SK SP SM : Value) (D : Nd) (i : Nat) (w : World) (v : Value) : Prop := match i with
  | 0 => v = .bool true
  | 1 => v = .bool true
  | 2 => v = .int .i64 0
  | 3 => v = .bool false
  | 4 => v = .bool false
  | 5 => v = .pointer (some ⟨p, 0, none⟩)
  | 6 => v = .bool false
  | 7 => v = .bool false
  | 8 => v = .bool false
  | 9 => v = .pointer (some ⟨p, 0, none⟩)
  | 10 => ∃ x, v = x ∧ NdV w D x
  | 11 => v = .agg #[SK, SP, SM]
  | 12 => v = .bool true
  | 13 => v = .bool false
  | 14 => v = .bool false
  | 15 => v = .bool false
  | 16 => v = .bool false
  | 17 => v = .bool true
  | 18 => v = .bool false
  | 19 => v = .bool false
  | 20 => v = undef
  | 21 => v = undef
  | 22 => v = undef
  | 23 => v = undef
  | 24 => v = undef
  | 25 => v = undef
  | 26 => v = .bool false
  | 27 => v = .bool false
  | _ => True
theorem insaKeep140 (p g : Nat) (SK SP SM : Value) (D : Nd) {w w' : World} {v : Value} (hs : Step noF w w') (h : ∃ x, v = x ∧ NdV w D x) : ∃ x, v = x ∧ NdV w' D x := by
  obtain ⟨x, h1, h2⟩ := h; exact ⟨x, h1, h2.step hs⟩
theorem insaSp_mono (p g : Nat) (SK SP SM : Value) (D : Nd) : ∀ i w w' v, Step noF w w' → insaSp p g SK SP SM D i w v → insaSp p g SK SP SM D i w' v := by
  intro i w w' v hs h
  match i with
  | 0 => exact h
  | 1 => exact h
  | 2 => exact h
  | 3 => exact h
  | 4 => exact h
  | 5 => exact h
  | 6 => exact h
  | 7 => exact h
  | 8 => exact h
  | 9 => exact h
  | 10 => exact insaKeep140 p g SK SP SM D hs h
  | 11 => exact h
  | 12 => exact h
  | 13 => exact h
  | 14 => exact h
  | 15 => exact h
  | 16 => exact h
  | 17 => exact h
  | 18 => exact h
  | 19 => exact h
  | 20 => exact h
  | 21 => exact h
  | 22 => exact h
  | 23 => exact h
  | 24 => exact h
  | 25 => exact h
  | 26 => exact h
  | 27 => exact h
  | k + 28 => exact h

set_option maxHeartbeats 4000000 in
set_option maxRecDepth 100000 in
theorem insa_go (p g : Nat) (SK SP SM : Value) (D : Nd) (w0 : World) (u00 : w0.cell? ⟨g, 0, none⟩ = some SK) (u10 : w0.cell? ⟨g, 1, none⟩ = some SP) (u20 : w0.cell? ⟨g, 2, none⟩ = some SM) (c1400 : ∀ w0', Step noF w0 w0' → Calls Tryz.prog 11 #[.pointer (some ⟨p, 0, none⟩)] w0' fun e w0'' => ∃ v, e = .returned v ∧ Step noF w0' w0'' ∧ ∃ x, v = x ∧ NdV w0'' D x) (c1420 : ∀ x w0', Step noF w0 w0' → NdV w0' D x → Calls Tryz.prog 10 #[x, .agg #[SK, SP, SM]] w0' fun e w0'' => e = .returned (.bool true) ∧ Step noF w0' w0'')
    {Q : Exit → Act → World → Prop} (a0 : Act) (hsz : a0.tmps.size = 198) (h20 : a0.tmps.getD 20 undef = .pointer (some ⟨p, 0, none⟩)) (h21 : a0.tmps.getD 21 undef = .int .i64 0) (h24 : a0.tmps.getD 24 undef = .pointer (some ⟨g, 0, none⟩)) (h25 : a0.tmps.getD 25 undef = .bool true)
    (hend : ∀ (f : Nat → Value) (w : World), Step noF w0 w → insaSp p g SK SP SM D 27 w (f 157) → Q .normal (putAll a0 (insaDs.map some) (insaDs.map f)) w) :
    (Code.region 23 ((Tryz.f4.body.bind (regionOps 23)).getD #[]) true).wp Tryz.prog Q a0 w0 := by
  refine wp_region_preds (insaSp p g SK SP SM D) (insaSp_mono p g SK SP SM D) insaDl (by kernel_rfl) insa_back insa_dl insa_nd (fun d h => by rw [hsz]; exact insa_lt d h) ?_ ?_
  · intro i hi a w hs hfr hat
    rw [insa_size] at hi
    have n20 := (hfr 20 (by decide)).trans h20
    have n21 := (hfr 21 (by decide)).trans h21
    have n24 := (hfr 24 (by decide)).trans h24
    have n25 := (hfr 25 (by decide)).trans h25
    have u0 : w.cell? ⟨g, 0, none⟩ = some SK := hs.after u00
    have u1 : w.cell? ⟨g, 1, none⟩ = some SP := hs.after u10
    have u2 : w.cell? ⟨g, 2, none⟩ = some SM := hs.after u20
    have c140 : ∀ w', Step noF w w' → Calls Tryz.prog 11 #[.pointer (some ⟨p, 0, none⟩)] w' fun e w'' => ∃ v, e = .returned v ∧ Step noF w' w'' ∧ ∃ x, v = x ∧ NdV w'' D x := fun w' s' => c1400 w' (hs.trans s')
    have c142 : ∀ x w', Step noF w w' → NdV w' D x → Calls Tryz.prog 10 #[x, .agg #[SK, SP, SM]] w' fun e w'' => e = .returned (.bool true) ∧ Step noF w' w'' := fun x w' s' => c1420 x w' (hs.trans s')
    match i, hi with
    | 0, _ =>
      refine op_runs (d := some 130) insaOp0 (wants_none a) (v := .bool true) (w' := w) ?_ ⟨130, _, rfl, rfl, Step.refl _ _, rfl⟩
      intro oo hoo
      simp only [execOp, hoo, Act.eval, n25]
      go_simp
    | 1, _ =>
      have n130 : a.tmps.getD 130 undef = _ := hat 0 (lc (by kernel_rfl)) 130 rfl
      refine op_runs (d := some 131) insaOp1 (wants_none a) (v := .bool true) (w' := w) ?_ ⟨131, _, rfl, rfl, Step.refl _ _, rfl⟩
      intro oo hoo
      simp only [execOp, hoo, Act.eval, n130]
      go_simp
    | 2, _ =>
      have n131 : a.tmps.getD 131 undef = _ := hat 1 (lc (by kernel_rfl)) 131 rfl
      refine op_runs (d := some 132) insaOp2 (wants_some (d := 131) (b := true) (by kernel_rfl) n131) (v := .int .i64 0) (w' := w) ?_ ⟨132, _, rfl, rfl, Step.refl _ _, rfl⟩
      intro oo hoo
      simp only [execOp, hoo, Act.eval, n21]
      go_simp
    | 3, _ =>
      have n132 : a.tmps.getD 132 undef = _ := hat 2 (lc (by kernel_rfl)) 132 rfl
      have n131 : a.tmps.getD 131 undef = _ := hat 1 (lc (by kernel_rfl)) 131 rfl
      refine op_runs (d := some 133) insaOp3 (wants_some (d := 131) (b := true) (by kernel_rfl) n131) (v := .bool false) (w' := w) ?_ ⟨133, _, rfl, rfl, Step.refl _ _, rfl⟩
      intro oo hoo
      simp only [execOp, hoo, Act.eval, n132]
      go_simp
    | 4, _ =>
      have n133 : a.tmps.getD 133 undef = _ := hat 3 (lc (by kernel_rfl)) 133 rfl
      have n131 : a.tmps.getD 131 undef = _ := hat 1 (lc (by kernel_rfl)) 131 rfl
      refine op_runs (d := some 134) insaOp4 (wants_some (d := 131) (b := true) (by kernel_rfl) n131) (v := .bool false) (w' := w) ?_ ⟨134, _, rfl, rfl, Step.refl _ _, rfl⟩
      intro oo hoo
      simp only [execOp, hoo, Act.eval, n133]
      go_simp
    | 5, _ =>
      have n134 : a.tmps.getD 134 undef = _ := hat 4 (lc (by kernel_rfl)) 134 rfl
      refine op_runs (d := some 135) insaOp5 (wants_some (d := 134) (b := false) (by kernel_rfl) n134) (v := .pointer (some ⟨p, 0, none⟩)) (w' := w) ?_ ⟨135, _, rfl, rfl, Step.refl _ _, rfl⟩
      intro oo hoo
      simp only [execOp, hoo, Act.eval, n20]
      go_simp
    | 6, _ =>
      have n135 : a.tmps.getD 135 undef = _ := hat 5 (lc (by kernel_rfl)) 135 rfl
      have n134 : a.tmps.getD 134 undef = _ := hat 4 (lc (by kernel_rfl)) 134 rfl
      refine op_runs (d := some 136) insaOp6 (wants_some (d := 134) (b := false) (by kernel_rfl) n134) (v := .bool false) (w' := w) ?_ ⟨136, _, rfl, rfl, Step.refl _ _, rfl⟩
      intro oo hoo
      simp only [execOp, hoo, Act.eval, n135]
      go_simp
    | 7, _ =>
      have n134 : a.tmps.getD 134 undef = _ := hat 4 (lc (by kernel_rfl)) 134 rfl
      have n136 : a.tmps.getD 136 undef = _ := hat 6 (lc (by kernel_rfl)) 136 rfl
      have n131 : a.tmps.getD 131 undef = _ := hat 1 (lc (by kernel_rfl)) 131 rfl
      refine op_runs (d := some 137) insaOp7 (wants_some (d := 131) (b := true) (by kernel_rfl) n131) (v := .bool false) (w' := w) ?_ ⟨137, _, rfl, rfl, Step.refl _ _, rfl⟩
      intro oo hoo
      simp only [execOp, hoo, Act.eval, n134, n136]
      go_simp
    | 8, _ =>
      have n137 : a.tmps.getD 137 undef = _ := hat 7 (lc (by kernel_rfl)) 137 rfl
      have n131 : a.tmps.getD 131 undef = _ := hat 1 (lc (by kernel_rfl)) 131 rfl
      refine op_runs (d := some 138) insaOp8 (wants_some (d := 131) (b := true) (by kernel_rfl) n131) (v := .bool false) (w' := w) ?_ ⟨138, _, rfl, rfl, Step.refl _ _, rfl⟩
      intro oo hoo
      simp only [execOp, hoo, Act.eval, n137]
      go_simp
    | 9, _ =>
      have n138 : a.tmps.getD 138 undef = _ := hat 8 (lc (by kernel_rfl)) 138 rfl
      refine op_runs (d := some 139) insaOp9 (wants_some (d := 138) (b := false) (by kernel_rfl) n138) (v := .pointer (some ⟨p, 0, none⟩)) (w' := w) ?_ ⟨139, _, rfl, rfl, Step.refl _ _, rfl⟩
      intro oo hoo
      simp only [execOp, hoo, Act.eval, n20]
      go_simp
    | 10, _ =>
      have n139 : a.tmps.getD 139 undef = _ := hat 9 (lc (by kernel_rfl)) 139 rfl
      have n138 : a.tmps.getD 138 undef = _ := hat 8 (lc (by kernel_rfl)) 138 rfl
      refine op_calls insaOp10 (wants_some (d := 138) (b := false) (by kernel_rfl) n138) Tryz.func11 (by kernel_rfl) (by kernel_rfl) (args := #[.pointer (some ⟨p, 0, none⟩)]) (by simp [Act.eval, n139]) ((c140 w (Step.refl _ _)).mono ?_)
      rintro e w' ⟨v, rfl, s', hv⟩
      exact ⟨_, rfl, 140, _, rfl, rfl, s', hv⟩
    | 11, _ =>
      have n138 : a.tmps.getD 138 undef = _ := hat 8 (lc (by kernel_rfl)) 138 rfl
      refine op_runs (d := some 141) insaOp11 (wants_some (d := 138) (b := false) (by kernel_rfl) n138) (v := .agg #[SK, SP, SM]) (w' := w) ?_ ⟨141, _, rfl, rfl, Step.refl _ _, rfl⟩
      intro oo hoo
      simp only [execOp, hoo, Act.eval, n24]
      go_simp
    | 12, _ =>
      have hp140 : insaSp p g SK SP SM D 10 w (a.tmps.getD 140 undef) := hat 10 (lc (by kernel_rfl)) 140 rfl
      have hq140 := hp140
      obtain ⟨x140, n140, r140⟩ := hq140
      have n141 : a.tmps.getD 141 undef = _ := hat 11 (lc (by kernel_rfl)) 141 rfl
      have n138 : a.tmps.getD 138 undef = _ := hat 8 (lc (by kernel_rfl)) 138 rfl
      refine op_calls insaOp12 (wants_some (d := 138) (b := false) (by kernel_rfl) n138) Tryz.func10 (by kernel_rfl) (by kernel_rfl) (args := #[x140, .agg #[SK, SP, SM]]) (by simp [Act.eval, n140, n141]) ((c142 _ w (Step.refl _ _) r140).mono ?_)
      rintro e w' ⟨rfl, s'⟩
      exact ⟨_, rfl, 142, _, rfl, rfl, s', rfl⟩
    | 13, _ =>
      have n142 : a.tmps.getD 142 undef = _ := hat 12 (lc (by kernel_rfl)) 142 rfl
      have n138 : a.tmps.getD 138 undef = _ := hat 8 (lc (by kernel_rfl)) 138 rfl
      refine op_runs (d := some 143) insaOp13 (wants_some (d := 138) (b := false) (by kernel_rfl) n138) (v := .bool false) (w' := w) ?_ ⟨143, _, rfl, rfl, Step.refl _ _, rfl⟩
      intro oo hoo
      simp only [execOp, hoo, Act.eval, n142]
      go_simp
    | 14, _ =>
      have n138 : a.tmps.getD 138 undef = _ := hat 8 (lc (by kernel_rfl)) 138 rfl
      have n143 : a.tmps.getD 143 undef = _ := hat 13 (lc (by kernel_rfl)) 143 rfl
      have n131 : a.tmps.getD 131 undef = _ := hat 1 (lc (by kernel_rfl)) 131 rfl
      refine op_runs (d := some 144) insaOp14 (wants_some (d := 131) (b := true) (by kernel_rfl) n131) (v := .bool false) (w' := w) ?_ ⟨144, _, rfl, rfl, Step.refl _ _, rfl⟩
      intro oo hoo
      simp only [execOp, hoo, Act.eval, n138, n143]
      go_simp
    | 15, _ =>
      have n131 : a.tmps.getD 131 undef = _ := hat 1 (lc (by kernel_rfl)) 131 rfl
      have n144 : a.tmps.getD 144 undef = _ := hat 14 (lc (by kernel_rfl)) 144 rfl
      refine op_runs (d := some 145) insaOp15 (wants_none a) (v := .bool false) (w' := w) ?_ ⟨145, _, rfl, rfl, Step.refl _ _, rfl⟩
      intro oo hoo
      simp only [execOp, hoo, Act.eval, n131, n144]
      go_simp
    | 16, _ =>
      have n145 : a.tmps.getD 145 undef = _ := hat 15 (lc (by kernel_rfl)) 145 rfl
      refine op_runs (d := some 146) insaOp16 (wants_none a) (v := .bool false) (w' := w) ?_ ⟨146, _, rfl, rfl, Step.refl _ _, rfl⟩
      intro oo hoo
      simp only [execOp, hoo, Act.eval, n145]
      go_simp
    | 17, _ =>
      have n146 : a.tmps.getD 146 undef = _ := hat 16 (lc (by kernel_rfl)) 146 rfl
      refine op_runs (d := some 147) insaOp17 (wants_some (d := 146) (b := false) (by kernel_rfl) n146) (v := .bool true) (w' := w) ?_ ⟨147, _, rfl, rfl, Step.refl _ _, rfl⟩
      intro oo hoo
      simp only [execOp, hoo, Act.eval, n25]
      go_simp
    | 18, _ =>
      have n147 : a.tmps.getD 147 undef = _ := hat 17 (lc (by kernel_rfl)) 147 rfl
      have n146 : a.tmps.getD 146 undef = _ := hat 16 (lc (by kernel_rfl)) 146 rfl
      refine op_runs (d := some 148) insaOp18 (wants_some (d := 146) (b := false) (by kernel_rfl) n146) (v := .bool false) (w' := w) ?_ ⟨148, _, rfl, rfl, Step.refl _ _, rfl⟩
      intro oo hoo
      simp only [execOp, hoo, Act.eval, n147]
      go_simp
    | 19, _ =>
      have n148 : a.tmps.getD 148 undef = _ := hat 18 (lc (by kernel_rfl)) 148 rfl
      have n146 : a.tmps.getD 146 undef = _ := hat 16 (lc (by kernel_rfl)) 146 rfl
      refine op_runs (d := some 149) insaOp19 (wants_some (d := 146) (b := false) (by kernel_rfl) n146) (v := .bool false) (w' := w) ?_ ⟨149, _, rfl, rfl, Step.refl _ _, rfl⟩
      intro oo hoo
      simp only [execOp, hoo, Act.eval, n148]
      go_simp
    | 20, _ =>
      have n149 : a.tmps.getD 149 undef = _ := hat 19 (lc (by kernel_rfl)) 149 rfl
      exact op_skip insaOp20 (dj := 149) (by kernel_rfl) n149 (by decide) ⟨150, undef, rfl, rfl, Step.refl _ _, rfl⟩
    | 21, _ =>
      have n149 : a.tmps.getD 149 undef = _ := hat 19 (lc (by kernel_rfl)) 149 rfl
      exact op_skip insaOp21 (dj := 149) (by kernel_rfl) n149 (by decide) ⟨151, undef, rfl, rfl, Step.refl _ _, rfl⟩
    | 22, _ =>
      have n149 : a.tmps.getD 149 undef = _ := hat 19 (lc (by kernel_rfl)) 149 rfl
      exact op_skip insaOp22 (dj := 149) (by kernel_rfl) n149 (by decide) ⟨152, undef, rfl, rfl, Step.refl _ _, rfl⟩
    | 23, _ =>
      have n152 : a.tmps.getD 152 undef = _ := hat 22 (lc (by kernel_rfl)) 152 rfl
      exact op_skipU insaOp23 (dj := 152) (by kernel_rfl) n152 ⟨153, undef, rfl, rfl, Step.refl _ _, rfl⟩
    | 24, _ =>
      have n152 : a.tmps.getD 152 undef = _ := hat 22 (lc (by kernel_rfl)) 152 rfl
      exact op_skipU insaOp24 (dj := 152) (by kernel_rfl) n152 ⟨154, undef, rfl, rfl, Step.refl _ _, rfl⟩
    | 25, _ =>
      have n149 : a.tmps.getD 149 undef = _ := hat 19 (lc (by kernel_rfl)) 149 rfl
      exact op_skip insaOp25 (dj := 149) (by kernel_rfl) n149 (by decide) ⟨155, undef, rfl, rfl, Step.refl _ _, rfl⟩
    | 26, _ =>
      have n149 : a.tmps.getD 149 undef = _ := hat 19 (lc (by kernel_rfl)) 149 rfl
      have n155 : a.tmps.getD 155 undef = _ := hat 25 (lc (by kernel_rfl)) 155 rfl
      have n146 : a.tmps.getD 146 undef = _ := hat 16 (lc (by kernel_rfl)) 146 rfl
      refine op_runs (d := some 156) insaOp26 (wants_some (d := 146) (b := false) (by kernel_rfl) n146) (v := .bool false) (w' := w) ?_ ⟨156, _, rfl, rfl, Step.refl _ _, rfl⟩
      intro oo hoo
      simp only [execOp, hoo, Act.eval, n149, n155]
      go_simp
    | 27, _ =>
      have n146 : a.tmps.getD 146 undef = _ := hat 16 (lc (by kernel_rfl)) 146 rfl
      have n156 : a.tmps.getD 156 undef = _ := hat 26 (lc (by kernel_rfl)) 156 rfl
      refine op_runs (d := some 157) insaOp27 (wants_none a) (v := .bool false) (w' := w) ?_ ⟨157, _, rfl, rfl, Step.refl _ _, rfl⟩
      intro oo hoo
      simp only [execOp, hoo, Act.eval, n146, n156]
      go_simp
    | k + 28, h => exact absurd h (by omega)
  · intro a w hs hdf hs2 hfr hat
    rw [insa_size] at hat
    have e := act_vals (a := a) (a0 := a0) insaDs (by decide) (fun d hd => by rw [hsz]; exact insa_lt d (by revert hd; revert d; decide)) hdf hs2 (fun k hk => hfr k (fun hk2 => hk (by revert hk2; simp [insaDl, insaDs])))
    rw [e]
    exact hend (fun d => a.tmps.getD d undef) w hs (hat 27 (by omega) 157 rfl)
set_option maxRecDepth 100000 in
theorem insa_lit (f : Nat → Value) (D : List Deferred) (x0 x1 x2 x3 x4 x5 x6 x7 x8 x9 x10 x11 x12 x13 x14 x15 x16 x17 x18 x19 x20 x21 x22 x23 x24 x25 x26 x27 x28 x29 x30 x31 x32 x33 x34 x35 x36 x37 x38 x39 x40 x41 x42 x43 x44 x45 x46 x47 x48 x49 x50 x51 x52 x53 x54 x55 x56 x57 x58 x59 x60 x61 x62 x63 x64 x65 x66 x67 x68 x69 x70 x71 x72 x73 x74 x75 x76 x77 x78 x79 x80 x81 x82 x83 x84 x85 x86 x87 x88 x89 x90 x91 x92 x93 x94 x95 x96 x97 x98 x99 x100 x101 x102 x103 x104 x105 x106 x107 x108 x109 x110 x111 x112 x113 x114 x115 x116 x117 x118 x119 x120 x121 x122 x123 x124 x125 x126 x127 x128 x129 x130 x131 x132 x133 x134 x135 x136 x137 x138 x139 x140 x141 x142 x143 x144 x145 x146 x147 x148 x149 x150 x151 x152 x153 x154 x155 x156 x157 x158 x159 x160 x161 x162 x163 x164 x165 x166 x167 x168 x169 x170 x171 x172 x173 x174 x175 x176 x177 x178 x179 x180 x181 x182 x183 x184 x185 x186 x187 x188 x189 x190 x191 x192 x193 x194 x195 x196 x197 : Value) : putAll { tmps := #[x0, x1, x2, x3, x4, x5, x6, x7, x8, x9, x10, x11, x12, x13, x14, x15, x16, x17, x18, x19, x20, x21, x22, x23, x24, x25, x26, x27, x28, x29, x30, x31, x32, x33, x34, x35, x36, x37, x38, x39, x40, x41, x42, x43, x44, x45, x46, x47, x48, x49, x50, x51, x52, x53, x54, x55, x56, x57, x58, x59, x60, x61, x62, x63, x64, x65, x66, x67, x68, x69, x70, x71, x72, x73, x74, x75, x76, x77, x78, x79, x80, x81, x82, x83, x84, x85, x86, x87, x88, x89, x90, x91, x92, x93, x94, x95, x96, x97, x98, x99, x100, x101, x102, x103, x104, x105, x106, x107, x108, x109, x110, x111, x112, x113, x114, x115, x116, x117, x118, x119, x120, x121, x122, x123, x124, x125, x126, x127, x128, x129, x130, x131, x132, x133, x134, x135, x136, x137, x138, x139, x140, x141, x142, x143, x144, x145, x146, x147, x148, x149, x150, x151, x152, x153, x154, x155, x156, x157, x158, x159, x160, x161, x162, x163, x164, x165, x166, x167, x168, x169, x170, x171, x172, x173, x174, x175, x176, x177, x178, x179, x180, x181, x182, x183, x184, x185, x186, x187, x188, x189, x190, x191, x192, x193, x194, x195, x196, x197], defers := D } (insaDs.map some) (insaDs.map f) = { tmps := #[x0, x1, x2, x3, x4, x5, x6, x7, x8, x9, x10, x11, x12, x13, x14, x15, x16, x17, x18, x19, x20, x21, x22, x23, x24, x25, x26, x27, x28, x29, x30, x31, x32, x33, x34, x35, x36, x37, x38, x39, x40, x41, x42, x43, x44, x45, x46, x47, x48, x49, x50, x51, x52, x53, x54, x55, x56, x57, x58, x59, x60, x61, x62, x63, x64, x65, x66, x67, x68, x69, x70, x71, x72, x73, x74, x75, x76, x77, x78, x79, x80, x81, x82, x83, x84, x85, x86, x87, x88, x89, x90, x91, x92, x93, x94, x95, x96, x97, x98, x99, x100, x101, x102, x103, x104, x105, x106, x107, x108, x109, x110, x111, x112, x113, x114, x115, x116, x117, x118, x119, x120, x121, x122, x123, x124, x125, x126, x127, x128, x129, f 130, f 131, f 132, f 133, f 134, f 135, f 136, f 137, f 138, f 139, f 140, f 141, f 142, f 143, f 144, f 145, f 146, f 147, f 148, f 149, f 150, f 151, f 152, f 153, f 154, f 155, f 156, f 157, x158, x159, x160, x161, x162, x163, x164, x165, x166, x167, x168, x169, x170, x171, x172, x173, x174, x175, x176, x177, x178, x179, x180, x181, x182, x183, x184, x185, x186, x187, x188, x189, x190, x191, x192, x193, x194, x195, x196, x197], defers := D } := by kernel_rfl
end Go.Proofs.YtgmgoaencaldmaaGreat
namespace Go.Proofs.YtgmgoaencaldmaaGreat
open Go.RowKit
set_option linter.unusedVariables false
set_option linter.unusedSimpArgs false


def insbDs : List Nat := [130, 131, 132, 133, 134, 135, 136, 137, 138, 139, 140, 141, 142, 143, 144, 145, 146, 147, 148, 149, 150, 151, 152, 153, 154, 155, 156, 157]
def insbDl : List (Option Nat) := [some 130, some 131, some 132, some 133, some 134, some 135, some 136, some 137, some 138, some 139, some 140, some 141, some 142, some 143, some 144, some 145, some 146, some 147, some 148, some 149, some 150, some 151, some 152, some 153, some 154, some 155, some 156, some 157]
theorem insb_dl : ((Tryz.f4.body.bind (regionOps 23)).getD #[]).toList.map (·.dst) = insbDl := by kernel_rfl
theorem insb_back : backB ((Tryz.f4.body.bind (regionOps 23)).getD #[]) = true := by kernel_rfl
theorem insb_size : ((Tryz.f4.body.bind (regionOps 23)).getD #[]).size = 28 := by kernel_rfl
theorem insb_nd : insbDl.Pairwise (fun x y => x = none ∨ x ≠ y) := by decide
theorem insb_lt (d : Nat) (h : some d ∈ insbDl) : d < 198 := by
  have hh : insbDl.all (fun o => o.all (fun d => decide (d < 198))) = true := by decide
  simpa using List.all_eq_true.1 hh _ h
theorem insbOp0 : opIs ((Tryz.f4.body.bind (regionOps 23)).getD #[]) 0 (some 130) (Op.move (Operand.tmp 25)) (none) := opIs_of (by kernel_rfl)
theorem insbOp1 : opIs ((Tryz.f4.body.bind (regionOps 23)).getD #[]) 1 (some 131) (Op.move (Operand.tmp 130)) (none) := opIs_of (by kernel_rfl)
theorem insbOp2 : opIs ((Tryz.f4.body.bind (regionOps 23)).getD #[]) 2 (some 132) (Op.move (Operand.tmp 21)) (some (1, true)) := opIs_of (by kernel_rfl)
theorem insbOp3 : opIs ((Tryz.f4.body.bind (regionOps 23)).getD #[]) 3 (some 133) (Op.binOp BinOp.neq 30 (Operand.tmp 132) (Operand.const (Value.int IntKind.i64 0)) 30) (some (1, true)) := opIs_of (by kernel_rfl)
theorem insbOp4 : opIs ((Tryz.f4.body.bind (regionOps 23)).getD #[]) 4 (some 134) (Op.move (Operand.tmp 133)) (some (1, true)) := opIs_of (by kernel_rfl)
theorem insbOp5 : opIs ((Tryz.f4.body.bind (regionOps 23)).getD #[]) 5 (some 135) (Op.move (Operand.tmp 20)) (some (4, false)) := opIs_of (by kernel_rfl)
theorem insbOp6 : opIs ((Tryz.f4.body.bind (regionOps 23)).getD #[]) 6 (some 136) (Op.binOp BinOp.eql 29 (Operand.tmp 135) (Operand.const (Value.pointer none)) 29) (some (4, false)) := opIs_of (by kernel_rfl)
theorem insbOp7 : opIs ((Tryz.f4.body.bind (regionOps 23)).getD #[]) 7 (some 137) (Op.pick (Operand.tmp 134) (Operand.const (Value.bool true)) (Operand.tmp 136)) (some (1, true)) := opIs_of (by kernel_rfl)
theorem insbOp8 : opIs ((Tryz.f4.body.bind (regionOps 23)).getD #[]) 8 (some 138) (Op.move (Operand.tmp 137)) (some (1, true)) := opIs_of (by kernel_rfl)
theorem insbOp9 : opIs ((Tryz.f4.body.bind (regionOps 23)).getD #[]) 9 (some 139) (Op.move (Operand.tmp 20)) (some (8, false)) := opIs_of (by kernel_rfl)
theorem insbOp10 : opIs ((Tryz.f4.body.bind (regionOps 23)).getD #[]) 10 (some 140) (Op.call { callee := Callee.value (Operand.func 11), args := #[Operand.tmp 139], argTypes := #[29] }) (some (8, false)) := opIs_of (by kernel_rfl)
theorem insbOp11 : opIs ((Tryz.f4.body.bind (regionOps 23)).getD #[]) 11 (some 141) (Op.load 34 (Operand.tmp 24)) (some (8, false)) := opIs_of (by kernel_rfl)
theorem insbOp12 : opIs ((Tryz.f4.body.bind (regionOps 23)).getD #[]) 12 (some 142) (Op.call { callee := Callee.value (Operand.func 10), args := #[Operand.tmp 140, Operand.tmp 141], argTypes := #[34, 34] }) (some (8, false)) := opIs_of (by kernel_rfl)
theorem insbOp13 : opIs ((Tryz.f4.body.bind (regionOps 23)).getD #[]) 13 (some 143) (Op.unOp UnOp.not 4 (Operand.tmp 142)) (some (8, false)) := opIs_of (by kernel_rfl)
theorem insbOp14 : opIs ((Tryz.f4.body.bind (regionOps 23)).getD #[]) 14 (some 144) (Op.pick (Operand.tmp 138) (Operand.const (Value.bool true)) (Operand.tmp 143)) (some (1, true)) := opIs_of (by kernel_rfl)
theorem insbOp15 : opIs ((Tryz.f4.body.bind (regionOps 23)).getD #[]) 15 (some 145) (Op.pick (Operand.tmp 131) (Operand.tmp 144) (Operand.const (Value.bool false))) (none) := opIs_of (by kernel_rfl)
theorem insbOp16 : opIs ((Tryz.f4.body.bind (regionOps 23)).getD #[]) 16 (some 146) (Op.move (Operand.tmp 145)) (none) := opIs_of (by kernel_rfl)
theorem insbOp17 : opIs ((Tryz.f4.body.bind (regionOps 23)).getD #[]) 17 (some 147) (Op.move (Operand.tmp 25)) (some (16, false)) := opIs_of (by kernel_rfl)
theorem insbOp18 : opIs ((Tryz.f4.body.bind (regionOps 23)).getD #[]) 18 (some 148) (Op.unOp UnOp.not 4 (Operand.tmp 147)) (some (16, false)) := opIs_of (by kernel_rfl)
theorem insbOp19 : opIs ((Tryz.f4.body.bind (regionOps 23)).getD #[]) 19 (some 149) (Op.move (Operand.tmp 148)) (some (16, false)) := opIs_of (by kernel_rfl)
theorem insbOp20 : opIs ((Tryz.f4.body.bind (regionOps 23)).getD #[]) 20 (some 150) (Op.move (Operand.tmp 21)) (some (19, true)) := opIs_of (by kernel_rfl)
theorem insbOp21 : opIs ((Tryz.f4.body.bind (regionOps 23)).getD #[]) 21 (some 151) (Op.binOp BinOp.neq 30 (Operand.tmp 150) (Operand.const (Value.int IntKind.i64 1)) 30) (some (19, true)) := opIs_of (by kernel_rfl)
theorem insbOp22 : opIs ((Tryz.f4.body.bind (regionOps 23)).getD #[]) 22 (some 152) (Op.move (Operand.tmp 151)) (some (19, true)) := opIs_of (by kernel_rfl)
theorem insbOp23 : opIs ((Tryz.f4.body.bind (regionOps 23)).getD #[]) 23 (some 153) (Op.move (Operand.tmp 20)) (some (22, false)) := opIs_of (by kernel_rfl)
theorem insbOp24 : opIs ((Tryz.f4.body.bind (regionOps 23)).getD #[]) 24 (some 154) (Op.binOp BinOp.neq 29 (Operand.tmp 153) (Operand.const (Value.pointer none)) 29) (some (22, false)) := opIs_of (by kernel_rfl)
theorem insbOp25 : opIs ((Tryz.f4.body.bind (regionOps 23)).getD #[]) 25 (some 155) (Op.pick (Operand.tmp 152) (Operand.const (Value.bool true)) (Operand.tmp 154)) (some (19, true)) := opIs_of (by kernel_rfl)
theorem insbOp26 : opIs ((Tryz.f4.body.bind (regionOps 23)).getD #[]) 26 (some 156) (Op.pick (Operand.tmp 149) (Operand.tmp 155) (Operand.const (Value.bool false))) (some (16, false)) := opIs_of (by kernel_rfl)
theorem insbOp27 : opIs ((Tryz.f4.body.bind (regionOps 23)).getD #[]) 27 (some 157) (Op.pick (Operand.tmp 146) (Operand.const (Value.bool true)) (Operand.tmp 156)) (none) := opIs_of (by kernel_rfl)
/-- What is said of each slot. -/
def insbSp (g : Nat) (i : Nat) (w : World) (v : Value) : Prop := match i with
  | 0 => v = .bool false
  | 1 => v = .bool false
  | 2 => v = undef
  | 3 => v = undef
  | 4 => v = undef
  | 5 => v = undef
  | 6 => v = undef
  | 7 => v = undef
  | 8 => v = undef
  | 9 => v = undef
  | 10 => v = undef
  | 11 => v = undef
  | 12 => v = undef
  | 13 => v = undef
  | 14 => v = undef
  | 15 => v = .bool false
  | 16 => v = .bool false
  | 17 => v = .bool false
  | 18 => v = .bool true
  | 19 => v = .bool true
  | 20 => v = .int .i64 1
  | 21 => v = .bool false
  | 22 => v = .bool false
  | 23 => v = .pointer none
  | 24 => v = .bool false
  | 25 => v = .bool false
  | 26 => v = .bool false
  | 27 => v = .bool false
  | _ => True
theorem insbSp_mono (g : Nat) : ∀ i w w' v, Step noF w w' → insbSp g i w v → insbSp g i w' v := by
  intro i w w' v hs h
  match i with
  | 0 => exact h
  | 1 => exact h
  | 2 => exact h
  | 3 => exact h
  | 4 => exact h
  | 5 => exact h
  | 6 => exact h
  | 7 => exact h
  | 8 => exact h
  | 9 => exact h
  | 10 => exact h
  | 11 => exact h
  | 12 => exact h
  | 13 => exact h
  | 14 => exact h
  | 15 => exact h
  | 16 => exact h
  | 17 => exact h
  | 18 => exact h
  | 19 => exact h
  | 20 => exact h
  | 21 => exact h
  | 22 => exact h
  | 23 => exact h
  | 24 => exact h
  | 25 => exact h
  | 26 => exact h
  | 27 => exact h
  | k + 28 => exact h

set_option maxHeartbeats 4000000 in
set_option maxRecDepth 100000 in
theorem insb_go (g : Nat) (w0 : World) 
    {Q : Exit → Act → World → Prop} (a0 : Act) (hsz : a0.tmps.size = 198) (h20 : a0.tmps.getD 20 undef = .pointer none) (h21 : a0.tmps.getD 21 undef = .int .i64 1) (h24 : a0.tmps.getD 24 undef = .pointer (some ⟨g, 0, none⟩)) (h25 : a0.tmps.getD 25 undef = .bool false)
    (hend : ∀ (f : Nat → Value) (w : World), Step noF w0 w → insbSp g 27 w (f 157) → Q .normal (putAll a0 (insbDs.map some) (insbDs.map f)) w) :
    (Code.region 23 ((Tryz.f4.body.bind (regionOps 23)).getD #[]) true).wp Tryz.prog Q a0 w0 := by
  refine wp_region_preds (insbSp g) (insbSp_mono g) insbDl (by kernel_rfl) insb_back insb_dl insb_nd (fun d h => by rw [hsz]; exact insb_lt d h) ?_ ?_
  · intro i hi a w hs hfr hat
    rw [insb_size] at hi
    have n20 := (hfr 20 (by decide)).trans h20
    have n21 := (hfr 21 (by decide)).trans h21
    have n24 := (hfr 24 (by decide)).trans h24
    have n25 := (hfr 25 (by decide)).trans h25
    match i, hi with
    | 0, _ =>
      refine op_runs (d := some 130) insbOp0 (wants_none a) (v := .bool false) (w' := w) ?_ ⟨130, _, rfl, rfl, Step.refl _ _, rfl⟩
      intro oo hoo
      simp only [execOp, hoo, Act.eval, n25]
      go_simp
    | 1, _ =>
      have n130 : a.tmps.getD 130 undef = _ := hat 0 (lc (by kernel_rfl)) 130 rfl
      refine op_runs (d := some 131) insbOp1 (wants_none a) (v := .bool false) (w' := w) ?_ ⟨131, _, rfl, rfl, Step.refl _ _, rfl⟩
      intro oo hoo
      simp only [execOp, hoo, Act.eval, n130]
      go_simp
    | 2, _ =>
      have n131 : a.tmps.getD 131 undef = _ := hat 1 (lc (by kernel_rfl)) 131 rfl
      exact op_skip insbOp2 (dj := 131) (by kernel_rfl) n131 (by decide) ⟨132, undef, rfl, rfl, Step.refl _ _, rfl⟩
    | 3, _ =>
      have n131 : a.tmps.getD 131 undef = _ := hat 1 (lc (by kernel_rfl)) 131 rfl
      exact op_skip insbOp3 (dj := 131) (by kernel_rfl) n131 (by decide) ⟨133, undef, rfl, rfl, Step.refl _ _, rfl⟩
    | 4, _ =>
      have n131 : a.tmps.getD 131 undef = _ := hat 1 (lc (by kernel_rfl)) 131 rfl
      exact op_skip insbOp4 (dj := 131) (by kernel_rfl) n131 (by decide) ⟨134, undef, rfl, rfl, Step.refl _ _, rfl⟩
    | 5, _ =>
      have n134 : a.tmps.getD 134 undef = _ := hat 4 (lc (by kernel_rfl)) 134 rfl
      exact op_skipU insbOp5 (dj := 134) (by kernel_rfl) n134 ⟨135, undef, rfl, rfl, Step.refl _ _, rfl⟩
    | 6, _ =>
      have n134 : a.tmps.getD 134 undef = _ := hat 4 (lc (by kernel_rfl)) 134 rfl
      exact op_skipU insbOp6 (dj := 134) (by kernel_rfl) n134 ⟨136, undef, rfl, rfl, Step.refl _ _, rfl⟩
    | 7, _ =>
      have n131 : a.tmps.getD 131 undef = _ := hat 1 (lc (by kernel_rfl)) 131 rfl
      exact op_skip insbOp7 (dj := 131) (by kernel_rfl) n131 (by decide) ⟨137, undef, rfl, rfl, Step.refl _ _, rfl⟩
    | 8, _ =>
      have n131 : a.tmps.getD 131 undef = _ := hat 1 (lc (by kernel_rfl)) 131 rfl
      exact op_skip insbOp8 (dj := 131) (by kernel_rfl) n131 (by decide) ⟨138, undef, rfl, rfl, Step.refl _ _, rfl⟩
    | 9, _ =>
      have n138 : a.tmps.getD 138 undef = _ := hat 8 (lc (by kernel_rfl)) 138 rfl
      exact op_skipU insbOp9 (dj := 138) (by kernel_rfl) n138 ⟨139, undef, rfl, rfl, Step.refl _ _, rfl⟩
    | 10, _ =>
      have n138 : a.tmps.getD 138 undef = _ := hat 8 (lc (by kernel_rfl)) 138 rfl
      exact op_skipU insbOp10 (dj := 138) (by kernel_rfl) n138 ⟨140, undef, rfl, rfl, Step.refl _ _, rfl⟩
    | 11, _ =>
      have n138 : a.tmps.getD 138 undef = _ := hat 8 (lc (by kernel_rfl)) 138 rfl
      exact op_skipU insbOp11 (dj := 138) (by kernel_rfl) n138 ⟨141, undef, rfl, rfl, Step.refl _ _, rfl⟩
    | 12, _ =>
      have n138 : a.tmps.getD 138 undef = _ := hat 8 (lc (by kernel_rfl)) 138 rfl
      exact op_skipU insbOp12 (dj := 138) (by kernel_rfl) n138 ⟨142, undef, rfl, rfl, Step.refl _ _, rfl⟩
    | 13, _ =>
      have n138 : a.tmps.getD 138 undef = _ := hat 8 (lc (by kernel_rfl)) 138 rfl
      exact op_skipU insbOp13 (dj := 138) (by kernel_rfl) n138 ⟨143, undef, rfl, rfl, Step.refl _ _, rfl⟩
    | 14, _ =>
      have n131 : a.tmps.getD 131 undef = _ := hat 1 (lc (by kernel_rfl)) 131 rfl
      exact op_skip insbOp14 (dj := 131) (by kernel_rfl) n131 (by decide) ⟨144, undef, rfl, rfl, Step.refl _ _, rfl⟩
    | 15, _ =>
      have n131 : a.tmps.getD 131 undef = _ := hat 1 (lc (by kernel_rfl)) 131 rfl
      have n144 : a.tmps.getD 144 undef = _ := hat 14 (lc (by kernel_rfl)) 144 rfl
      refine op_runs (d := some 145) insbOp15 (wants_none a) (v := .bool false) (w' := w) ?_ ⟨145, _, rfl, rfl, Step.refl _ _, rfl⟩
      intro oo hoo
      simp only [execOp, hoo, Act.eval, n131, n144]
      go_simp
    | 16, _ =>
      have n145 : a.tmps.getD 145 undef = _ := hat 15 (lc (by kernel_rfl)) 145 rfl
      refine op_runs (d := some 146) insbOp16 (wants_none a) (v := .bool false) (w' := w) ?_ ⟨146, _, rfl, rfl, Step.refl _ _, rfl⟩
      intro oo hoo
      simp only [execOp, hoo, Act.eval, n145]
      go_simp
    | 17, _ =>
      have n146 : a.tmps.getD 146 undef = _ := hat 16 (lc (by kernel_rfl)) 146 rfl
      refine op_runs (d := some 147) insbOp17 (wants_some (d := 146) (b := false) (by kernel_rfl) n146) (v := .bool false) (w' := w) ?_ ⟨147, _, rfl, rfl, Step.refl _ _, rfl⟩
      intro oo hoo
      simp only [execOp, hoo, Act.eval, n25]
      go_simp
    | 18, _ =>
      have n147 : a.tmps.getD 147 undef = _ := hat 17 (lc (by kernel_rfl)) 147 rfl
      have n146 : a.tmps.getD 146 undef = _ := hat 16 (lc (by kernel_rfl)) 146 rfl
      refine op_runs (d := some 148) insbOp18 (wants_some (d := 146) (b := false) (by kernel_rfl) n146) (v := .bool true) (w' := w) ?_ ⟨148, _, rfl, rfl, Step.refl _ _, rfl⟩
      intro oo hoo
      simp only [execOp, hoo, Act.eval, n147]
      go_simp
    | 19, _ =>
      have n148 : a.tmps.getD 148 undef = _ := hat 18 (lc (by kernel_rfl)) 148 rfl
      have n146 : a.tmps.getD 146 undef = _ := hat 16 (lc (by kernel_rfl)) 146 rfl
      refine op_runs (d := some 149) insbOp19 (wants_some (d := 146) (b := false) (by kernel_rfl) n146) (v := .bool true) (w' := w) ?_ ⟨149, _, rfl, rfl, Step.refl _ _, rfl⟩
      intro oo hoo
      simp only [execOp, hoo, Act.eval, n148]
      go_simp
    | 20, _ =>
      have n149 : a.tmps.getD 149 undef = _ := hat 19 (lc (by kernel_rfl)) 149 rfl
      refine op_runs (d := some 150) insbOp20 (wants_some (d := 149) (b := true) (by kernel_rfl) n149) (v := .int .i64 1) (w' := w) ?_ ⟨150, _, rfl, rfl, Step.refl _ _, rfl⟩
      intro oo hoo
      simp only [execOp, hoo, Act.eval, n21]
      go_simp
    | 21, _ =>
      have n150 : a.tmps.getD 150 undef = _ := hat 20 (lc (by kernel_rfl)) 150 rfl
      have n149 : a.tmps.getD 149 undef = _ := hat 19 (lc (by kernel_rfl)) 149 rfl
      refine op_runs (d := some 151) insbOp21 (wants_some (d := 149) (b := true) (by kernel_rfl) n149) (v := .bool false) (w' := w) ?_ ⟨151, _, rfl, rfl, Step.refl _ _, rfl⟩
      intro oo hoo
      simp only [execOp, hoo, Act.eval, n150]
      go_simp
    | 22, _ =>
      have n151 : a.tmps.getD 151 undef = _ := hat 21 (lc (by kernel_rfl)) 151 rfl
      have n149 : a.tmps.getD 149 undef = _ := hat 19 (lc (by kernel_rfl)) 149 rfl
      refine op_runs (d := some 152) insbOp22 (wants_some (d := 149) (b := true) (by kernel_rfl) n149) (v := .bool false) (w' := w) ?_ ⟨152, _, rfl, rfl, Step.refl _ _, rfl⟩
      intro oo hoo
      simp only [execOp, hoo, Act.eval, n151]
      go_simp
    | 23, _ =>
      have n152 : a.tmps.getD 152 undef = _ := hat 22 (lc (by kernel_rfl)) 152 rfl
      refine op_runs (d := some 153) insbOp23 (wants_some (d := 152) (b := false) (by kernel_rfl) n152) (v := .pointer none) (w' := w) ?_ ⟨153, _, rfl, rfl, Step.refl _ _, rfl⟩
      intro oo hoo
      simp only [execOp, hoo, Act.eval, n20]
      go_simp
    | 24, _ =>
      have n153 : a.tmps.getD 153 undef = _ := hat 23 (lc (by kernel_rfl)) 153 rfl
      have n152 : a.tmps.getD 152 undef = _ := hat 22 (lc (by kernel_rfl)) 152 rfl
      refine op_runs (d := some 154) insbOp24 (wants_some (d := 152) (b := false) (by kernel_rfl) n152) (v := .bool false) (w' := w) ?_ ⟨154, _, rfl, rfl, Step.refl _ _, rfl⟩
      intro oo hoo
      simp only [execOp, hoo, Act.eval, n153]
      go_simp
    | 25, _ =>
      have n152 : a.tmps.getD 152 undef = _ := hat 22 (lc (by kernel_rfl)) 152 rfl
      have n154 : a.tmps.getD 154 undef = _ := hat 24 (lc (by kernel_rfl)) 154 rfl
      have n149 : a.tmps.getD 149 undef = _ := hat 19 (lc (by kernel_rfl)) 149 rfl
      refine op_runs (d := some 155) insbOp25 (wants_some (d := 149) (b := true) (by kernel_rfl) n149) (v := .bool false) (w' := w) ?_ ⟨155, _, rfl, rfl, Step.refl _ _, rfl⟩
      intro oo hoo
      simp only [execOp, hoo, Act.eval, n152, n154]
      go_simp
    | 26, _ =>
      have n149 : a.tmps.getD 149 undef = _ := hat 19 (lc (by kernel_rfl)) 149 rfl
      have n155 : a.tmps.getD 155 undef = _ := hat 25 (lc (by kernel_rfl)) 155 rfl
      have n146 : a.tmps.getD 146 undef = _ := hat 16 (lc (by kernel_rfl)) 146 rfl
      refine op_runs (d := some 156) insbOp26 (wants_some (d := 146) (b := false) (by kernel_rfl) n146) (v := .bool false) (w' := w) ?_ ⟨156, _, rfl, rfl, Step.refl _ _, rfl⟩
      intro oo hoo
      simp only [execOp, hoo, Act.eval, n149, n155]
      go_simp
    | 27, _ =>
      have n146 : a.tmps.getD 146 undef = _ := hat 16 (lc (by kernel_rfl)) 146 rfl
      have n156 : a.tmps.getD 156 undef = _ := hat 26 (lc (by kernel_rfl)) 156 rfl
      refine op_runs (d := some 157) insbOp27 (wants_none a) (v := .bool false) (w' := w) ?_ ⟨157, _, rfl, rfl, Step.refl _ _, rfl⟩
      intro oo hoo
      simp only [execOp, hoo, Act.eval, n146, n156]
      go_simp
    | k + 28, h => exact absurd h (by omega)
  · intro a w hs hdf hs2 hfr hat
    rw [insb_size] at hat
    have e := act_vals (a := a) (a0 := a0) insbDs (by decide) (fun d hd => by rw [hsz]; exact insb_lt d (by revert hd; revert d; decide)) hdf hs2 (fun k hk => hfr k (fun hk2 => hk (by revert hk2; simp [insbDl, insbDs])))
    rw [e]
    exact hend (fun d => a.tmps.getD d undef) w hs (hat 27 (by omega) 157 rfl)
set_option maxRecDepth 100000 in
theorem insb_lit (f : Nat → Value) (D : List Deferred) (x0 x1 x2 x3 x4 x5 x6 x7 x8 x9 x10 x11 x12 x13 x14 x15 x16 x17 x18 x19 x20 x21 x22 x23 x24 x25 x26 x27 x28 x29 x30 x31 x32 x33 x34 x35 x36 x37 x38 x39 x40 x41 x42 x43 x44 x45 x46 x47 x48 x49 x50 x51 x52 x53 x54 x55 x56 x57 x58 x59 x60 x61 x62 x63 x64 x65 x66 x67 x68 x69 x70 x71 x72 x73 x74 x75 x76 x77 x78 x79 x80 x81 x82 x83 x84 x85 x86 x87 x88 x89 x90 x91 x92 x93 x94 x95 x96 x97 x98 x99 x100 x101 x102 x103 x104 x105 x106 x107 x108 x109 x110 x111 x112 x113 x114 x115 x116 x117 x118 x119 x120 x121 x122 x123 x124 x125 x126 x127 x128 x129 x130 x131 x132 x133 x134 x135 x136 x137 x138 x139 x140 x141 x142 x143 x144 x145 x146 x147 x148 x149 x150 x151 x152 x153 x154 x155 x156 x157 x158 x159 x160 x161 x162 x163 x164 x165 x166 x167 x168 x169 x170 x171 x172 x173 x174 x175 x176 x177 x178 x179 x180 x181 x182 x183 x184 x185 x186 x187 x188 x189 x190 x191 x192 x193 x194 x195 x196 x197 : Value) : putAll { tmps := #[x0, x1, x2, x3, x4, x5, x6, x7, x8, x9, x10, x11, x12, x13, x14, x15, x16, x17, x18, x19, x20, x21, x22, x23, x24, x25, x26, x27, x28, x29, x30, x31, x32, x33, x34, x35, x36, x37, x38, x39, x40, x41, x42, x43, x44, x45, x46, x47, x48, x49, x50, x51, x52, x53, x54, x55, x56, x57, x58, x59, x60, x61, x62, x63, x64, x65, x66, x67, x68, x69, x70, x71, x72, x73, x74, x75, x76, x77, x78, x79, x80, x81, x82, x83, x84, x85, x86, x87, x88, x89, x90, x91, x92, x93, x94, x95, x96, x97, x98, x99, x100, x101, x102, x103, x104, x105, x106, x107, x108, x109, x110, x111, x112, x113, x114, x115, x116, x117, x118, x119, x120, x121, x122, x123, x124, x125, x126, x127, x128, x129, x130, x131, x132, x133, x134, x135, x136, x137, x138, x139, x140, x141, x142, x143, x144, x145, x146, x147, x148, x149, x150, x151, x152, x153, x154, x155, x156, x157, x158, x159, x160, x161, x162, x163, x164, x165, x166, x167, x168, x169, x170, x171, x172, x173, x174, x175, x176, x177, x178, x179, x180, x181, x182, x183, x184, x185, x186, x187, x188, x189, x190, x191, x192, x193, x194, x195, x196, x197], defers := D } (insbDs.map some) (insbDs.map f) = { tmps := #[x0, x1, x2, x3, x4, x5, x6, x7, x8, x9, x10, x11, x12, x13, x14, x15, x16, x17, x18, x19, x20, x21, x22, x23, x24, x25, x26, x27, x28, x29, x30, x31, x32, x33, x34, x35, x36, x37, x38, x39, x40, x41, x42, x43, x44, x45, x46, x47, x48, x49, x50, x51, x52, x53, x54, x55, x56, x57, x58, x59, x60, x61, x62, x63, x64, x65, x66, x67, x68, x69, x70, x71, x72, x73, x74, x75, x76, x77, x78, x79, x80, x81, x82, x83, x84, x85, x86, x87, x88, x89, x90, x91, x92, x93, x94, x95, x96, x97, x98, x99, x100, x101, x102, x103, x104, x105, x106, x107, x108, x109, x110, x111, x112, x113, x114, x115, x116, x117, x118, x119, x120, x121, x122, x123, x124, x125, x126, x127, x128, x129, f 130, f 131, f 132, f 133, f 134, f 135, f 136, f 137, f 138, f 139, f 140, f 141, f 142, f 143, f 144, f 145, f 146, f 147, f 148, f 149, f 150, f 151, f 152, f 153, f 154, f 155, f 156, f 157, x158, x159, x160, x161, x162, x163, x164, x165, x166, x167, x168, x169, x170, x171, x172, x173, x174, x175, x176, x177, x178, x179, x180, x181, x182, x183, x184, x185, x186, x187, x188, x189, x190, x191, x192, x193, x194, x195, x196, x197], defers := D } := by kernel_rfl
end Go.Proofs.YtgmgoaencaldmaaGreat
namespace Go.Proofs.YtgmgoaencaldmaaGreat
open Go.RowKit
set_option linter.unusedVariables false
set_option linter.unusedSimpArgs false


def inscDs : List Nat := [177, 178, 179, 180, 181, 182, 183, 184, 185, 186, 187, 188, 189, 190, 191, 192, 193, 194, 195, 196, 197, 12]
def inscDl : List (Option Nat) := [some 177, some 178, some 179, some 180, some 181, some 182, some 183, some 184, some 185, some 186, some 187, some 188, some 189, some 190, some 191, some 192, some 193, some 194, some 195, some 196, some 197, some 12]
theorem insc_dl : ((Tryz.f4.body.bind (regionOps 29)).getD #[]).toList.map (·.dst) = inscDl := by kernel_rfl
theorem insc_back : backB ((Tryz.f4.body.bind (regionOps 29)).getD #[]) = true := by kernel_rfl
theorem insc_size : ((Tryz.f4.body.bind (regionOps 29)).getD #[]).size = 22 := by kernel_rfl
theorem insc_nd : inscDl.Pairwise (fun x y => x = none ∨ x ≠ y) := by decide
theorem insc_lt (d : Nat) (h : some d ∈ inscDl) : d < 198 := by
  have hh : inscDl.all (fun o => o.all (fun d => decide (d < 198))) = true := by decide
  simpa using List.all_eq_true.1 hh _ h
theorem inscOp0 : opIs ((Tryz.f4.body.bind (regionOps 29)).getD #[]) 0 (some 177) (Op.move (Operand.tmp 23)) (none) := opIs_of (by kernel_rfl)
theorem inscOp1 : opIs ((Tryz.f4.body.bind (regionOps 29)).getD #[]) 1 (some 178) (Op.binOp BinOp.eql 30 (Operand.tmp 177) (Operand.const (Value.int IntKind.i64 0)) 30) (none) := opIs_of (by kernel_rfl)
theorem inscOp2 : opIs ((Tryz.f4.body.bind (regionOps 29)).getD #[]) 2 (some 179) (Op.move (Operand.tmp 178)) (none) := opIs_of (by kernel_rfl)
theorem inscOp3 : opIs ((Tryz.f4.body.bind (regionOps 29)).getD #[]) 3 (some 180) (Op.move (Operand.tmp 22)) (some (2, true)) := opIs_of (by kernel_rfl)
theorem inscOp4 : opIs ((Tryz.f4.body.bind (regionOps 29)).getD #[]) 4 (some 181) (Op.binOp BinOp.neq 29 (Operand.tmp 180) (Operand.const (Value.pointer none)) 29) (some (2, true)) := opIs_of (by kernel_rfl)
theorem inscOp5 : opIs ((Tryz.f4.body.bind (regionOps 29)).getD #[]) 5 (some 182) (Op.pick (Operand.tmp 179) (Operand.tmp 181) (Operand.const (Value.bool false))) (none) := opIs_of (by kernel_rfl)
theorem inscOp6 : opIs ((Tryz.f4.body.bind (regionOps 29)).getD #[]) 6 (some 183) (Op.move (Operand.tmp 182)) (none) := opIs_of (by kernel_rfl)
theorem inscOp7 : opIs ((Tryz.f4.body.bind (regionOps 29)).getD #[]) 7 (some 184) (Op.move (Operand.tmp 22)) (some (6, true)) := opIs_of (by kernel_rfl)
theorem inscOp8 : opIs ((Tryz.f4.body.bind (regionOps 29)).getD #[]) 8 (some 185) (Op.call { callee := Callee.value (Operand.func 11), args := #[Operand.tmp 184], argTypes := #[29] }) (some (6, true)) := opIs_of (by kernel_rfl)
theorem inscOp9 : opIs ((Tryz.f4.body.bind (regionOps 29)).getD #[]) 9 (some 186) (Op.load 34 (Operand.tmp 18)) (some (6, true)) := opIs_of (by kernel_rfl)
theorem inscOp10 : opIs ((Tryz.f4.body.bind (regionOps 29)).getD #[]) 10 (some 187) (Op.move (Operand.tmp 3)) (some (6, true)) := opIs_of (by kernel_rfl)
theorem inscOp11 : opIs ((Tryz.f4.body.bind (regionOps 29)).getD #[]) 11 (some 188) (Op.move (Operand.tmp 5)) (some (6, true)) := opIs_of (by kernel_rfl)
theorem inscOp12 : opIs ((Tryz.f4.body.bind (regionOps 29)).getD #[]) 12 (some 189) (Op.call { callee := Callee.value (Operand.func 25), args := #[Operand.tmp 186, Operand.tmp 187, Operand.tmp 188], argTypes := #[34, 3, 3] }) (some (6, true)) := opIs_of (by kernel_rfl)
theorem inscOp13 : opIs ((Tryz.f4.body.bind (regionOps 29)).getD #[]) 13 (some 190) (Op.call { callee := Callee.value (Operand.func 10), args := #[Operand.tmp 185, Operand.tmp 189], argTypes := #[34, 34] }) (some (6, true)) := opIs_of (by kernel_rfl)
theorem inscOp14 : opIs ((Tryz.f4.body.bind (regionOps 29)).getD #[]) 14 (some 191) (Op.pick (Operand.tmp 183) (Operand.tmp 190) (Operand.const (Value.bool false))) (none) := opIs_of (by kernel_rfl)
theorem inscOp15 : opIs ((Tryz.f4.body.bind (regionOps 29)).getD #[]) 15 (some 192) (Op.move (Operand.tmp 191)) (none) := opIs_of (by kernel_rfl)
theorem inscOp16 : opIs ((Tryz.f4.body.bind (regionOps 29)).getD #[]) 16 (some 193) (Op.move (Operand.tmp 16)) (some (15, true)) := opIs_of (by kernel_rfl)
theorem inscOp17 : opIs ((Tryz.f4.body.bind (regionOps 29)).getD #[]) 17 (some 194) (Op.call { callee := Callee.value (Operand.func 11), args := #[Operand.tmp 193], argTypes := #[29] }) (some (15, true)) := opIs_of (by kernel_rfl)
theorem inscOp18 : opIs ((Tryz.f4.body.bind (regionOps 29)).getD #[]) 18 (some 195) (Op.load 34 (Operand.tmp 18)) (some (15, true)) := opIs_of (by kernel_rfl)
theorem inscOp19 : opIs ((Tryz.f4.body.bind (regionOps 29)).getD #[]) 19 (some 196) (Op.call { callee := Callee.value (Operand.func 10), args := #[Operand.tmp 194, Operand.tmp 195], argTypes := #[34, 34] }) (some (15, true)) := opIs_of (by kernel_rfl)
theorem inscOp20 : opIs ((Tryz.f4.body.bind (regionOps 29)).getD #[]) 20 (some 197) (Op.pick (Operand.tmp 192) (Operand.tmp 196) (Operand.const (Value.bool false))) (none) := opIs_of (by kernel_rfl)
theorem inscOp21 : opIs ((Tryz.f4.body.bind (regionOps 29)).getD #[]) 21 (some 12) (Op.assign (Operand.tmp 197)) (none) := opIs_of (by kernel_rfl)
/-- What is said of each slot. -/
def inscSp (p p2 g z : Nat) (rf : Int) (SK SP SM : Value) (D D2 : Nd) (i : Nat) (w : World) (v : Value) : Prop := match i with
  | 0 => v = .int .i64 0
  | 1 => v = .bool true
  | 2 => v = .bool true
  | 3 => v = .pointer (some ⟨p2, 0, none⟩)
  | 4 => v = .bool true
  | 5 => v = .bool true
  | 6 => v = .bool true
  | 7 => v = .pointer (some ⟨p2, 0, none⟩)
  | 8 => ∃ x, v = x ∧ NdV w D2 x
  | 9 => v = .agg #[SK, SP, SM]
  | 10 => v = .int .i64 z
  | 11 => v = .int .i64 rf
  | 12 => ∃ x, v = x ∧ NdV w D2 x
  | 13 => v = .bool true
  | 14 => v = .bool true
  | 15 => v = .bool true
  | 16 => v = .pointer (some ⟨p, 0, none⟩)
  | 17 => ∃ x, v = x ∧ NdV w D x
  | 18 => v = .agg #[SK, SP, SM]
  | 19 => v = .bool true
  | 20 => v = .bool true
  | 21 => v = .bool true
  | _ => True
theorem inscKeep185 (p p2 g z : Nat) (rf : Int) (SK SP SM : Value) (D D2 : Nd) {w w' : World} {v : Value} (hs : Step noF w w') (h : ∃ x, v = x ∧ NdV w D2 x) : ∃ x, v = x ∧ NdV w' D2 x := by
  obtain ⟨x, h1, h2⟩ := h; exact ⟨x, h1, h2.step hs⟩
theorem inscKeep189 (p p2 g z : Nat) (rf : Int) (SK SP SM : Value) (D D2 : Nd) {w w' : World} {v : Value} (hs : Step noF w w') (h : ∃ x, v = x ∧ NdV w D2 x) : ∃ x, v = x ∧ NdV w' D2 x := by
  obtain ⟨x, h1, h2⟩ := h; exact ⟨x, h1, h2.step hs⟩
theorem inscKeep194 (p p2 g z : Nat) (rf : Int) (SK SP SM : Value) (D D2 : Nd) {w w' : World} {v : Value} (hs : Step noF w w') (h : ∃ x, v = x ∧ NdV w D x) : ∃ x, v = x ∧ NdV w' D x := by
  obtain ⟨x, h1, h2⟩ := h; exact ⟨x, h1, h2.step hs⟩
theorem inscSp_mono (p p2 g z : Nat) (rf : Int) (SK SP SM : Value) (D D2 : Nd) : ∀ i w w' v, Step noF w w' → inscSp p p2 g z rf SK SP SM D D2 i w v → inscSp p p2 g z rf SK SP SM D D2 i w' v := by
  intro i w w' v hs h
  match i with
  | 0 => exact h
  | 1 => exact h
  | 2 => exact h
  | 3 => exact h
  | 4 => exact h
  | 5 => exact h
  | 6 => exact h
  | 7 => exact h
  | 8 => exact inscKeep185 p p2 g z rf SK SP SM D D2 hs h
  | 9 => exact h
  | 10 => exact h
  | 11 => exact h
  | 12 => exact inscKeep189 p p2 g z rf SK SP SM D D2 hs h
  | 13 => exact h
  | 14 => exact h
  | 15 => exact h
  | 16 => exact h
  | 17 => exact inscKeep194 p p2 g z rf SK SP SM D D2 hs h
  | 18 => exact h
  | 19 => exact h
  | 20 => exact h
  | 21 => exact h
  | k + 22 => exact h

set_option maxHeartbeats 4000000 in
set_option maxRecDepth 100000 in
theorem insc_go (p p2 g z : Nat) (rf : Int) (SK SP SM : Value) (D D2 : Nd) (w0 : World) (u00 : w0.cell? ⟨g, 0, none⟩ = some SK) (u10 : w0.cell? ⟨g, 1, none⟩ = some SP) (u20 : w0.cell? ⟨g, 2, none⟩ = some SM) (c1850 : ∀ w0', Step noF w0 w0' → Calls Tryz.prog 11 #[.pointer (some ⟨p2, 0, none⟩)] w0' fun e w0'' => ∃ v, e = .returned v ∧ Step noF w0' w0'' ∧ ∃ x, v = x ∧ NdV w0'' D2 x) (c1890 : ∀ w0', Step noF w0 w0' → Calls Tryz.prog 25 #[.agg #[SK, SP, SM], .int .i64 z, .int .i64 rf] w0' fun e w0'' => ∃ v, e = .returned v ∧ Step noF w0' w0'' ∧ ∃ x, v = x ∧ NdV w0'' D2 x) (c1900 : ∀ x y w0', Step noF w0 w0' → NdV w0' D2 x → NdV w0' D2 y → Calls Tryz.prog 10 #[x, y] w0' fun e w0'' => e = .returned (.bool true) ∧ Step noF w0' w0'') (c1940 : ∀ w0', Step noF w0 w0' → Calls Tryz.prog 11 #[.pointer (some ⟨p, 0, none⟩)] w0' fun e w0'' => ∃ v, e = .returned v ∧ Step noF w0' w0'' ∧ ∃ x, v = x ∧ NdV w0'' D x) (c1960 : ∀ x w0', Step noF w0 w0' → NdV w0' D x → Calls Tryz.prog 10 #[x, .agg #[SK, SP, SM]] w0' fun e w0'' => e = .returned (.bool true) ∧ Step noF w0' w0'')
    {Q : Exit → Act → World → Prop} (a0 : Act) (hsz : a0.tmps.size = 198) (h3 : a0.tmps.getD 3 undef = .int .i64 z) (h5 : a0.tmps.getD 5 undef = .int .i64 rf) (h16 : a0.tmps.getD 16 undef = .pointer (some ⟨p, 0, none⟩)) (h18 : a0.tmps.getD 18 undef = .pointer (some ⟨g, 0, none⟩)) (h22 : a0.tmps.getD 22 undef = .pointer (some ⟨p2, 0, none⟩)) (h23 : a0.tmps.getD 23 undef = .int .i64 0)
    (hend : ∀ (f : Nat → Value) (w : World), Step noF w0 w → inscSp p p2 g z rf SK SP SM D D2 21 w (f 12) → Q .normal (putAll a0 (inscDs.map some) (inscDs.map f)) w) :
    (Code.region 29 ((Tryz.f4.body.bind (regionOps 29)).getD #[]) true).wp Tryz.prog Q a0 w0 := by
  refine wp_region_preds (inscSp p p2 g z rf SK SP SM D D2) (inscSp_mono p p2 g z rf SK SP SM D D2) inscDl (by kernel_rfl) insc_back insc_dl insc_nd (fun d h => by rw [hsz]; exact insc_lt d h) ?_ ?_
  · intro i hi a w hs hfr hat
    rw [insc_size] at hi
    have n3 := (hfr 3 (by decide)).trans h3
    have n5 := (hfr 5 (by decide)).trans h5
    have n16 := (hfr 16 (by decide)).trans h16
    have n18 := (hfr 18 (by decide)).trans h18
    have n22 := (hfr 22 (by decide)).trans h22
    have n23 := (hfr 23 (by decide)).trans h23
    have u0 : w.cell? ⟨g, 0, none⟩ = some SK := hs.after u00
    have u1 : w.cell? ⟨g, 1, none⟩ = some SP := hs.after u10
    have u2 : w.cell? ⟨g, 2, none⟩ = some SM := hs.after u20
    have c185 : ∀ w', Step noF w w' → Calls Tryz.prog 11 #[.pointer (some ⟨p2, 0, none⟩)] w' fun e w'' => ∃ v, e = .returned v ∧ Step noF w' w'' ∧ ∃ x, v = x ∧ NdV w'' D2 x := fun w' s' => c1850 w' (hs.trans s')
    have c189 : ∀ w', Step noF w w' → Calls Tryz.prog 25 #[.agg #[SK, SP, SM], .int .i64 z, .int .i64 rf] w' fun e w'' => ∃ v, e = .returned v ∧ Step noF w' w'' ∧ ∃ x, v = x ∧ NdV w'' D2 x := fun w' s' => c1890 w' (hs.trans s')
    have c190 : ∀ x y w', Step noF w w' → NdV w' D2 x → NdV w' D2 y → Calls Tryz.prog 10 #[x, y] w' fun e w'' => e = .returned (.bool true) ∧ Step noF w' w'' := fun x y w' s' => c1900 x y w' (hs.trans s')
    have c194 : ∀ w', Step noF w w' → Calls Tryz.prog 11 #[.pointer (some ⟨p, 0, none⟩)] w' fun e w'' => ∃ v, e = .returned v ∧ Step noF w' w'' ∧ ∃ x, v = x ∧ NdV w'' D x := fun w' s' => c1940 w' (hs.trans s')
    have c196 : ∀ x w', Step noF w w' → NdV w' D x → Calls Tryz.prog 10 #[x, .agg #[SK, SP, SM]] w' fun e w'' => e = .returned (.bool true) ∧ Step noF w' w'' := fun x w' s' => c1960 x w' (hs.trans s')
    match i, hi with
    | 0, _ =>
      refine op_runs (d := some 177) inscOp0 (wants_none a) (v := .int .i64 0) (w' := w) ?_ ⟨177, _, rfl, rfl, Step.refl _ _, rfl⟩
      intro oo hoo
      simp only [execOp, hoo, Act.eval, n23]
      go_simp
    | 1, _ =>
      have n177 : a.tmps.getD 177 undef = _ := hat 0 (lc (by kernel_rfl)) 177 rfl
      refine op_runs (d := some 178) inscOp1 (wants_none a) (v := .bool true) (w' := w) ?_ ⟨178, _, rfl, rfl, Step.refl _ _, rfl⟩
      intro oo hoo
      simp only [execOp, hoo, Act.eval, n177]
      go_simp
    | 2, _ =>
      have n178 : a.tmps.getD 178 undef = _ := hat 1 (lc (by kernel_rfl)) 178 rfl
      refine op_runs (d := some 179) inscOp2 (wants_none a) (v := .bool true) (w' := w) ?_ ⟨179, _, rfl, rfl, Step.refl _ _, rfl⟩
      intro oo hoo
      simp only [execOp, hoo, Act.eval, n178]
      go_simp
    | 3, _ =>
      have n179 : a.tmps.getD 179 undef = _ := hat 2 (lc (by kernel_rfl)) 179 rfl
      refine op_runs (d := some 180) inscOp3 (wants_some (d := 179) (b := true) (by kernel_rfl) n179) (v := .pointer (some ⟨p2, 0, none⟩)) (w' := w) ?_ ⟨180, _, rfl, rfl, Step.refl _ _, rfl⟩
      intro oo hoo
      simp only [execOp, hoo, Act.eval, n22]
      go_simp
    | 4, _ =>
      have n180 : a.tmps.getD 180 undef = _ := hat 3 (lc (by kernel_rfl)) 180 rfl
      have n179 : a.tmps.getD 179 undef = _ := hat 2 (lc (by kernel_rfl)) 179 rfl
      refine op_runs (d := some 181) inscOp4 (wants_some (d := 179) (b := true) (by kernel_rfl) n179) (v := .bool true) (w' := w) ?_ ⟨181, _, rfl, rfl, Step.refl _ _, rfl⟩
      intro oo hoo
      simp only [execOp, hoo, Act.eval, n180]
      go_simp
    | 5, _ =>
      have n179 : a.tmps.getD 179 undef = _ := hat 2 (lc (by kernel_rfl)) 179 rfl
      have n181 : a.tmps.getD 181 undef = _ := hat 4 (lc (by kernel_rfl)) 181 rfl
      refine op_runs (d := some 182) inscOp5 (wants_none a) (v := .bool true) (w' := w) ?_ ⟨182, _, rfl, rfl, Step.refl _ _, rfl⟩
      intro oo hoo
      simp only [execOp, hoo, Act.eval, n179, n181]
      go_simp
    | 6, _ =>
      have n182 : a.tmps.getD 182 undef = _ := hat 5 (lc (by kernel_rfl)) 182 rfl
      refine op_runs (d := some 183) inscOp6 (wants_none a) (v := .bool true) (w' := w) ?_ ⟨183, _, rfl, rfl, Step.refl _ _, rfl⟩
      intro oo hoo
      simp only [execOp, hoo, Act.eval, n182]
      go_simp
    | 7, _ =>
      have n183 : a.tmps.getD 183 undef = _ := hat 6 (lc (by kernel_rfl)) 183 rfl
      refine op_runs (d := some 184) inscOp7 (wants_some (d := 183) (b := true) (by kernel_rfl) n183) (v := .pointer (some ⟨p2, 0, none⟩)) (w' := w) ?_ ⟨184, _, rfl, rfl, Step.refl _ _, rfl⟩
      intro oo hoo
      simp only [execOp, hoo, Act.eval, n22]
      go_simp
    | 8, _ =>
      have n184 : a.tmps.getD 184 undef = _ := hat 7 (lc (by kernel_rfl)) 184 rfl
      have n183 : a.tmps.getD 183 undef = _ := hat 6 (lc (by kernel_rfl)) 183 rfl
      refine op_calls inscOp8 (wants_some (d := 183) (b := true) (by kernel_rfl) n183) Tryz.func11 (by kernel_rfl) (by kernel_rfl) (args := #[.pointer (some ⟨p2, 0, none⟩)]) (by simp [Act.eval, n184]) ((c185 w (Step.refl _ _)).mono ?_)
      rintro e w' ⟨v, rfl, s', hv⟩
      exact ⟨_, rfl, 185, _, rfl, rfl, s', hv⟩
    | 9, _ =>
      have n183 : a.tmps.getD 183 undef = _ := hat 6 (lc (by kernel_rfl)) 183 rfl
      refine op_runs (d := some 186) inscOp9 (wants_some (d := 183) (b := true) (by kernel_rfl) n183) (v := .agg #[SK, SP, SM]) (w' := w) ?_ ⟨186, _, rfl, rfl, Step.refl _ _, rfl⟩
      intro oo hoo
      simp only [execOp, hoo, Act.eval, n18]
      go_simp
    | 10, _ =>
      have n183 : a.tmps.getD 183 undef = _ := hat 6 (lc (by kernel_rfl)) 183 rfl
      refine op_runs (d := some 187) inscOp10 (wants_some (d := 183) (b := true) (by kernel_rfl) n183) (v := .int .i64 z) (w' := w) ?_ ⟨187, _, rfl, rfl, Step.refl _ _, rfl⟩
      intro oo hoo
      simp only [execOp, hoo, Act.eval, n3]
      go_simp
    | 11, _ =>
      have n183 : a.tmps.getD 183 undef = _ := hat 6 (lc (by kernel_rfl)) 183 rfl
      refine op_runs (d := some 188) inscOp11 (wants_some (d := 183) (b := true) (by kernel_rfl) n183) (v := .int .i64 rf) (w' := w) ?_ ⟨188, _, rfl, rfl, Step.refl _ _, rfl⟩
      intro oo hoo
      simp only [execOp, hoo, Act.eval, n5]
      go_simp
    | 12, _ =>
      have n186 : a.tmps.getD 186 undef = _ := hat 9 (lc (by kernel_rfl)) 186 rfl
      have n187 : a.tmps.getD 187 undef = _ := hat 10 (lc (by kernel_rfl)) 187 rfl
      have n188 : a.tmps.getD 188 undef = _ := hat 11 (lc (by kernel_rfl)) 188 rfl
      have n183 : a.tmps.getD 183 undef = _ := hat 6 (lc (by kernel_rfl)) 183 rfl
      refine op_calls inscOp12 (wants_some (d := 183) (b := true) (by kernel_rfl) n183) Tryz.func25 (by kernel_rfl) (by kernel_rfl) (args := #[.agg #[SK, SP, SM], .int .i64 z, .int .i64 rf]) (by simp [Act.eval, n186, n187, n188]) ((c189 w (Step.refl _ _)).mono ?_)
      rintro e w' ⟨v, rfl, s', hv⟩
      exact ⟨_, rfl, 189, _, rfl, rfl, s', hv⟩
    | 13, _ =>
      have hp185 : inscSp p p2 g z rf SK SP SM D D2 8 w (a.tmps.getD 185 undef) := hat 8 (lc (by kernel_rfl)) 185 rfl
      have hq185 := hp185
      obtain ⟨x185, n185, r185⟩ := hq185
      have hp189 : inscSp p p2 g z rf SK SP SM D D2 12 w (a.tmps.getD 189 undef) := hat 12 (lc (by kernel_rfl)) 189 rfl
      have hq189 := hp189
      obtain ⟨x189, n189, r189⟩ := hq189
      have n183 : a.tmps.getD 183 undef = _ := hat 6 (lc (by kernel_rfl)) 183 rfl
      refine op_calls inscOp13 (wants_some (d := 183) (b := true) (by kernel_rfl) n183) Tryz.func10 (by kernel_rfl) (by kernel_rfl) (args := #[x185, x189]) (by simp [Act.eval, n185, n189]) ((c190 _ _ w (Step.refl _ _) r185 r189).mono ?_)
      rintro e w' ⟨rfl, s'⟩
      exact ⟨_, rfl, 190, _, rfl, rfl, s', rfl⟩
    | 14, _ =>
      have n183 : a.tmps.getD 183 undef = _ := hat 6 (lc (by kernel_rfl)) 183 rfl
      have n190 : a.tmps.getD 190 undef = _ := hat 13 (lc (by kernel_rfl)) 190 rfl
      refine op_runs (d := some 191) inscOp14 (wants_none a) (v := .bool true) (w' := w) ?_ ⟨191, _, rfl, rfl, Step.refl _ _, rfl⟩
      intro oo hoo
      simp only [execOp, hoo, Act.eval, n183, n190]
      go_simp
    | 15, _ =>
      have n191 : a.tmps.getD 191 undef = _ := hat 14 (lc (by kernel_rfl)) 191 rfl
      refine op_runs (d := some 192) inscOp15 (wants_none a) (v := .bool true) (w' := w) ?_ ⟨192, _, rfl, rfl, Step.refl _ _, rfl⟩
      intro oo hoo
      simp only [execOp, hoo, Act.eval, n191]
      go_simp
    | 16, _ =>
      have n192 : a.tmps.getD 192 undef = _ := hat 15 (lc (by kernel_rfl)) 192 rfl
      refine op_runs (d := some 193) inscOp16 (wants_some (d := 192) (b := true) (by kernel_rfl) n192) (v := .pointer (some ⟨p, 0, none⟩)) (w' := w) ?_ ⟨193, _, rfl, rfl, Step.refl _ _, rfl⟩
      intro oo hoo
      simp only [execOp, hoo, Act.eval, n16]
      go_simp
    | 17, _ =>
      have n193 : a.tmps.getD 193 undef = _ := hat 16 (lc (by kernel_rfl)) 193 rfl
      have n192 : a.tmps.getD 192 undef = _ := hat 15 (lc (by kernel_rfl)) 192 rfl
      refine op_calls inscOp17 (wants_some (d := 192) (b := true) (by kernel_rfl) n192) Tryz.func11 (by kernel_rfl) (by kernel_rfl) (args := #[.pointer (some ⟨p, 0, none⟩)]) (by simp [Act.eval, n193]) ((c194 w (Step.refl _ _)).mono ?_)
      rintro e w' ⟨v, rfl, s', hv⟩
      exact ⟨_, rfl, 194, _, rfl, rfl, s', hv⟩
    | 18, _ =>
      have n192 : a.tmps.getD 192 undef = _ := hat 15 (lc (by kernel_rfl)) 192 rfl
      refine op_runs (d := some 195) inscOp18 (wants_some (d := 192) (b := true) (by kernel_rfl) n192) (v := .agg #[SK, SP, SM]) (w' := w) ?_ ⟨195, _, rfl, rfl, Step.refl _ _, rfl⟩
      intro oo hoo
      simp only [execOp, hoo, Act.eval, n18]
      go_simp
    | 19, _ =>
      have hp194 : inscSp p p2 g z rf SK SP SM D D2 17 w (a.tmps.getD 194 undef) := hat 17 (lc (by kernel_rfl)) 194 rfl
      have hq194 := hp194
      obtain ⟨x194, n194, r194⟩ := hq194
      have n195 : a.tmps.getD 195 undef = _ := hat 18 (lc (by kernel_rfl)) 195 rfl
      have n192 : a.tmps.getD 192 undef = _ := hat 15 (lc (by kernel_rfl)) 192 rfl
      refine op_calls inscOp19 (wants_some (d := 192) (b := true) (by kernel_rfl) n192) Tryz.func10 (by kernel_rfl) (by kernel_rfl) (args := #[x194, .agg #[SK, SP, SM]]) (by simp [Act.eval, n194, n195]) ((c196 _ w (Step.refl _ _) r194).mono ?_)
      rintro e w' ⟨rfl, s'⟩
      exact ⟨_, rfl, 196, _, rfl, rfl, s', rfl⟩
    | 20, _ =>
      have n192 : a.tmps.getD 192 undef = _ := hat 15 (lc (by kernel_rfl)) 192 rfl
      have n196 : a.tmps.getD 196 undef = _ := hat 19 (lc (by kernel_rfl)) 196 rfl
      refine op_runs (d := some 197) inscOp20 (wants_none a) (v := .bool true) (w' := w) ?_ ⟨197, _, rfl, rfl, Step.refl _ _, rfl⟩
      intro oo hoo
      simp only [execOp, hoo, Act.eval, n192, n196]
      go_simp
    | 21, _ =>
      have n197 : a.tmps.getD 197 undef = _ := hat 20 (lc (by kernel_rfl)) 197 rfl
      refine op_runs (d := some 12) inscOp21 (wants_none a) (v := .bool true) (w' := w) ?_ ⟨12, _, rfl, rfl, Step.refl _ _, rfl⟩
      intro oo hoo
      simp only [execOp, hoo, Act.eval, n197]
      go_simp
    | k + 22, h => exact absurd h (by omega)
  · intro a w hs hdf hs2 hfr hat
    rw [insc_size] at hat
    have e := act_vals (a := a) (a0 := a0) inscDs (by decide) (fun d hd => by rw [hsz]; exact insc_lt d (by revert hd; revert d; decide)) hdf hs2 (fun k hk => hfr k (fun hk2 => hk (by revert hk2; simp [inscDl, inscDs])))
    rw [e]
    exact hend (fun d => a.tmps.getD d undef) w hs (hat 21 (by omega) 12 rfl)
set_option maxRecDepth 100000 in
theorem insc_lit (f : Nat → Value) (D : List Deferred) (x0 x1 x2 x3 x4 x5 x6 x7 x8 x9 x10 x11 x12 x13 x14 x15 x16 x17 x18 x19 x20 x21 x22 x23 x24 x25 x26 x27 x28 x29 x30 x31 x32 x33 x34 x35 x36 x37 x38 x39 x40 x41 x42 x43 x44 x45 x46 x47 x48 x49 x50 x51 x52 x53 x54 x55 x56 x57 x58 x59 x60 x61 x62 x63 x64 x65 x66 x67 x68 x69 x70 x71 x72 x73 x74 x75 x76 x77 x78 x79 x80 x81 x82 x83 x84 x85 x86 x87 x88 x89 x90 x91 x92 x93 x94 x95 x96 x97 x98 x99 x100 x101 x102 x103 x104 x105 x106 x107 x108 x109 x110 x111 x112 x113 x114 x115 x116 x117 x118 x119 x120 x121 x122 x123 x124 x125 x126 x127 x128 x129 x130 x131 x132 x133 x134 x135 x136 x137 x138 x139 x140 x141 x142 x143 x144 x145 x146 x147 x148 x149 x150 x151 x152 x153 x154 x155 x156 x157 x158 x159 x160 x161 x162 x163 x164 x165 x166 x167 x168 x169 x170 x171 x172 x173 x174 x175 x176 x177 x178 x179 x180 x181 x182 x183 x184 x185 x186 x187 x188 x189 x190 x191 x192 x193 x194 x195 x196 x197 : Value) : putAll { tmps := #[x0, x1, x2, x3, x4, x5, x6, x7, x8, x9, x10, x11, x12, x13, x14, x15, x16, x17, x18, x19, x20, x21, x22, x23, x24, x25, x26, x27, x28, x29, x30, x31, x32, x33, x34, x35, x36, x37, x38, x39, x40, x41, x42, x43, x44, x45, x46, x47, x48, x49, x50, x51, x52, x53, x54, x55, x56, x57, x58, x59, x60, x61, x62, x63, x64, x65, x66, x67, x68, x69, x70, x71, x72, x73, x74, x75, x76, x77, x78, x79, x80, x81, x82, x83, x84, x85, x86, x87, x88, x89, x90, x91, x92, x93, x94, x95, x96, x97, x98, x99, x100, x101, x102, x103, x104, x105, x106, x107, x108, x109, x110, x111, x112, x113, x114, x115, x116, x117, x118, x119, x120, x121, x122, x123, x124, x125, x126, x127, x128, x129, x130, x131, x132, x133, x134, x135, x136, x137, x138, x139, x140, x141, x142, x143, x144, x145, x146, x147, x148, x149, x150, x151, x152, x153, x154, x155, x156, x157, x158, x159, x160, x161, x162, x163, x164, x165, x166, x167, x168, x169, x170, x171, x172, x173, x174, x175, x176, x177, x178, x179, x180, x181, x182, x183, x184, x185, x186, x187, x188, x189, x190, x191, x192, x193, x194, x195, x196, x197], defers := D } (inscDs.map some) (inscDs.map f) = { tmps := #[x0, x1, x2, x3, x4, x5, x6, x7, x8, x9, x10, x11, f 12, x13, x14, x15, x16, x17, x18, x19, x20, x21, x22, x23, x24, x25, x26, x27, x28, x29, x30, x31, x32, x33, x34, x35, x36, x37, x38, x39, x40, x41, x42, x43, x44, x45, x46, x47, x48, x49, x50, x51, x52, x53, x54, x55, x56, x57, x58, x59, x60, x61, x62, x63, x64, x65, x66, x67, x68, x69, x70, x71, x72, x73, x74, x75, x76, x77, x78, x79, x80, x81, x82, x83, x84, x85, x86, x87, x88, x89, x90, x91, x92, x93, x94, x95, x96, x97, x98, x99, x100, x101, x102, x103, x104, x105, x106, x107, x108, x109, x110, x111, x112, x113, x114, x115, x116, x117, x118, x119, x120, x121, x122, x123, x124, x125, x126, x127, x128, x129, x130, x131, x132, x133, x134, x135, x136, x137, x138, x139, x140, x141, x142, x143, x144, x145, x146, x147, x148, x149, x150, x151, x152, x153, x154, x155, x156, x157, x158, x159, x160, x161, x162, x163, x164, x165, x166, x167, x168, x169, x170, x171, x172, x173, x174, x175, x176, f 177, f 178, f 179, f 180, f 181, f 182, f 183, f 184, f 185, f 186, f 187, f 188, f 189, f 190, f 191, f 192, f 193, f 194, f 195, f 196, f 197], defers := D } := by kernel_rfl
end Go.Proofs.YtgmgoaencaldmaaGreat
namespace Go.Proofs.YtgmgoaencaldmaaGreat
open Go.RowKit Go.Sort
set_option linter.unusedVariables false
set_option linter.unusedSimpArgs false
set_option maxRecDepth 20000

theorem swapZ_any (p : Nat) (d : Nd) (hl : d.pivs.length + 1 = d.kids.length) (hk1 : d.kids.length ≤ 1000) (i : Nat) (hi : i < d.kids.length) (pts : List (List UInt8 × Int)) (m : Nat) (hm : pts.length = m) (hm1 : m ≤ 1000) (a0 : Option Addr) (cap0 : Nat) (hcap : m ≤ cap0) (w : World) (h : InnerAt w p d) (hpt : PtsAt w a0 pts) :
    Calls Tryz.prog 22 #[.pointer (some ⟨p, 0, none⟩), .int .i64 i, .slice a0 m cap0] w fun e w' => ∃ x f, e = .returned (.tuple #[.pointer x, .int .i64 f]) ∧ Hid (SwapZ w' (decide (m ≠ 0) && goodN (swapKids d.kids i (pts.map (·.2))) (swapPivs d.pivs i (pts.map (·.1)))) ⟨swapKids d.kids i (pts.map (·.2)), swapPivs d.pivs i (pts.map (·.1)), d.ms⟩ x f) ∧ Hid (Step noF w w') := by
  by_cases hm0 : m = 0
  · subst hm0
    refine (swapN_none p d i (by unfold hasZ; simp; omega) a0 cap0 w h).mono ?_
    rintro e w' ⟨rfl, rfl⟩
    exact ⟨_, _, rfl, ⟨(fun _ => ⟨rfl, rfl⟩), (fun h => by simp at h)⟩, Step.refl _ _⟩
  · refine (swapN_any p d.kids d.pivs d.ms hl hk1 i hi pts m hm (by omega) hm1 a0 cap0 hcap w h hpt).mono ?_
    rintro e w' ⟨hmd, hs⟩
    obtain ⟨x, f, he, hz⟩ := made_swap hmd
    refine ⟨x, f, he, ?_, hs⟩
    rw [decide_eq_true hm0, Bool.true_and]
    exact hz
theorem fuse_bad (ks : List Int) (ps : List (List UInt8)) (i : Nat) (r : Int) (hr : r < 0) : goodN (fuseKids ks i r) ps = false := by
  cases h : goodN (fuseKids ks i r) ps
  · rfl
  · have := ((goodN_iff _ _).1 h).2.2.1 r (by simp [fuseKids])
    omega
/-- What a Fuse answers. -/
def FuseZ (w : World) (d : Nd) (i : Nat) (r : Int) (x : Option Addr) (f : Int) : Prop := (i + 1 = d.kids.length → x = none ∧ f = 3) ∧ (i + 1 < d.kids.length → r < 0 → x = none ∧ f = 1) ∧ (i + 1 < d.kids.length → 0 ≤ r → f = 0 ∧ ∃ q, x = some ⟨q, 0, none⟩ ∧ InnerAt w q ⟨fuseKids d.kids i r, fusePivs d.pivs i, d.ms⟩)
theorem fuseZ_any (p : Nat) (d : Nd) (hd : NdOk d) (i : Nat) (hi : i < d.kids.length) (r : Int) (w : World) (h : InnerAt w p d) :
    Calls Tryz.prog 23 #[.pointer (some ⟨p, 0, none⟩), .int .i64 i, .int .i64 r] w fun e w' => ∃ x f, e = .returned (.tuple #[.pointer x, .int .i64 f]) ∧ Hid (FuseZ w' d i r x f) ∧ Hid (Step noF w w') := by
  have hk1 := hd.2.2.2.1
  by_cases hl : i + 1 = d.kids.length
  · refine (fuseN_last p d i hl (by omega) r w h).mono ?_
    rintro e w' ⟨rfl, rfl⟩
    exact ⟨_, _, rfl, ⟨(fun _ => ⟨rfl, rfl⟩), (fun h => by omega), (fun h => by omega)⟩, Step.refl _ _⟩
  · refine (fuseN_any p d.kids d.pivs d.ms hd.len hk1 i (by omega) r w h).mono ?_
    rintro e w' ⟨hmd, hs⟩
    rcases hmd with ⟨h1, rfl⟩ | ⟨h1, q, rfl, hin⟩
    · refine ⟨_, _, rfl, ⟨(fun h => absurd h hl), (fun _ _ => ⟨rfl, rfl⟩), (fun _ h0 => ?_)⟩, hs⟩
      have := fuse_good d.kids d.pivs hd.1 i (by omega) r h0
      rw [this] at h1
      cases h1
    · refine ⟨_, _, rfl, ⟨(fun h => absurd h hl), (fun _ h0 => ?_), (fun _ _ => ⟨rfl, q, rfl, hin⟩)⟩, hs⟩
      rw [fuse_bad _ _ _ _ h0] at h1
      cases h1
set_option maxHeartbeats 8000000 in
theorem innerSwaps_any (ks : List Int) (hkl : ks.length ≤ maxLen) (ka : Option Addr) (kc : Nat) (hkc : ka = none → kc = 0) (hkn : ks.length ≤ kc) (ps : List (List UInt8)) (hpl : ps.length ≤ maxLen) (hpq : ∀ x ∈ ps, x.length ≤ maxLen) (pa : Option Addr) (pc : Nat) (hpc : pa = none → pc = 0) (hpn : ps.length ≤ pc)
    (ms : List Mg) (hml : ms.length ≤ maxLen) (hmq : ∀ m ∈ ms, m.key.length ≤ maxLen ∧ m.val.length ≤ maxLen) (a : Option Addr) (c : Nat) (hc : a = none → c = 0) (z : Int) (pts : List (List UInt8 × Int)) (hxl : pts.length ≤ maxLen) (hxq : ∀ x ∈ pts, x.1.length ≤ maxLen) (xa : Option Addr) (xc : Nat) (hxn : pts.length ≤ xc) (rf : Int)
    (w : World) (hK : RowAt w noF ka (intsOf ks)) (hP : RowAt w noF pa (texts ps)) (hM : MsgsAt w noF a ms) (hX : PtsAt w xa pts) :
    Calls Tryz.prog 4 #[.slice ka ks.length kc, .slice pa ps.length pc, .slice a ms.length c, .int .i64 z, .slice xa pts.length xc, .int .i64 rf] w fun e w' => e = .returned (.bool true) ∧ Step noF w w' := by
  have hz := str_size
  have h0 := nil_str
  have cG := greatN_any ks hkl ps hpl hpq ms hml hmq ka pa a kc pc c
  obtain ⟨m, hm⟩ : ∃ m, pts.length = m := ⟨_, rfl⟩
  rw [hm] at hxl hxn ⊢
  unfold maxLen at hxl hxq
  have HK := hid hK
  have HP := hid hP
  have HM := hid hM
  have HX := hid hX
  have HCK := hid (And.intro hkc hkn)
  have HCP := hid (And.intro hpc hpn)
  have HC := hid hc
  have HQ := hid hmq
  have HXQ := hid hxq
  have HPM := hid hm
  clear hK hP hM hX hpq hkl hpl hkc hpc hc hml hmq hkn hpn hxq hm
  go_enter Tryz.func4, Tryz.ntmps4
  go_wp2_with fail
  refine (awakeN_any _).mono ?_
  rintro e w1 ⟨rfl, s1⟩
  have S1 := hid s1
  clear s1
  go_wp2_with fail
  refine (cG w1 (rowAt_step HP.out S1.out (fun _ _ h => h)) (HM.out.stepB S1.out)).mono ?_
  rintro e w1' ⟨hg, rfl⟩
  rcases hg with rfl | ⟨rfl, hk30, hp30, hm40, _, _⟩
  · go_wp2_with fail
    go_ret
    exact ⟨rfl, S1.out⟩
  by_cases gx : 20 < m
  · have gxz : (20 : Int) < (m : Int) := by omega
    go_wp2_with fail
    go_ret
    exact ⟨rfl, S1.out⟩
  have gxz : ¬ (20 : Int) < (m : Int) := by omega
  obtain ⟨RS, hRS⟩ : ∃ x, pts.map (·.2) = x := ⟨_, rfl⟩
  obtain ⟨LS, hLS⟩ : ∃ x, pts.map (·.1) = x := ⟨_, rfl⟩
  have HRS := hid hRS
  have HLS := hid hLS
  have HRL : Hid (RS.length = m) := by show _ = _; rw [← hRS, List.length_map, HPM.out]
  have HLL : Hid (LS.length = m) := by show _ = _; rw [← hLS, List.length_map, HPM.out]
  have O0 := hid ((ownI_empty w1).step ((Step.refl noF (w1.alloc (.cells #[] 3))).alloc (.cells #[] 9)))
  have T0 := ownT_empty (w1.alloc (.cells #[] 3))
  rw [World.size_alloc] at T0
  have HT0 := hid (OwnT.weak T0 (Nat.le_succ _))
  have HS0 := hid (((Step.refl noF w1).alloc (.cells #[] 3)).alloc (.cells #[] 9))
  clear T0 hRS hLS cG
  go_wp2_with fail
  go_loopg [13, 14, 15] m (fun kx s13 s14 s15 wr => ∃ j : Nat, s15 = .int .i64 j ∧ j ≤ m ∧ m - j ≤ kx ∧ Hid (OwnI wr w1.heap.size s13 (RS.take j)) ∧ Hid (OwnT wr w1.heap.size s14 (LS.take j)) ∧ Hid (Step noF w1 wr))
  case atStart => exact ⟨0, rfl, Nat.zero_le _, by omega, O0.out, HT0.out, HS0.out⟩
  case round =>
    obtain ⟨j, rfl, hjm, hkx, HO, HT, SW⟩ := hrel
    by_cases hjl : j < m
    · have hjz : (j : Int) < (m : Int) := by omega
      have wj : IntKind.i64.wrap ((j : Int) + 1) = (j : Int) + 1 := by rw [IntKind.wrap_i64]; omega
      have hjp : j < pts.length := by rw [HPM.out]; exact hjl
      have hjr : j < RS.length := by rw [HRL.out]; exact hjl
      have hjs : j < LS.length := by rw [HLL.out]; exact hjl
      obtain ⟨b, off, rfl, y0, y1⟩ := (TwosAt.step HX.out (S1.out.trans SW.out)).at j hjp
      obtain ⟨⟨lw, rz⟩, hx⟩ : ∃ x, pts[j] = x := ⟨_, rfl⟩
      have hlq := HXQ.out pts[j] (List.getElem_mem hjp)
      have er : RS[j] = rz := by simp [← HRS.out, hx]
      have el : LS[j] = lw := by simp [← HLS.out, hx]
      rw [hx] at y0 y1 hlq
      simp only at y0 y1 hlq
      have HRT : Hid (RS.take (j + 1) = RS.take j ++ [rz]) := by show _ = _; rw [take_one RS j hjr, er]
      have HLT : Hid (LS.take (j + 1) = LS.take j ++ [lw]) := by show _ = _; rw [take_one LS j hjs, el]
      have HXJ := hid hx
      clear hx er el
      by_cases gl : 512 < lw.length
      · have glz : (512 : Int) < (lw.length : Int) := by omega
        go_wp2_with fail
        go_ret
        exact ⟨rfl, S1.out.trans SW.out⟩
      have glz : ¬ (512 : Int) < (lw.length : Int) := by omega
      have HOa := hid (OwnI.step HO.out ((Step.refl noF wr).alloc (.cells #[.int .i64 rz] 3)))
      have HTa := hid (OwnT.step HT.out ((Step.refl noF wr).alloc (.cells #[.int .i64 rz] 3)))
      have SWa := hid (SW.out.alloc (.cells #[.int .i64 rz] 3))
      go_wp2_with (at_builtin; refine wpList_append_I rfl _ _ rfl w1.heap.size _ (RS.take j) rfl HOa.out (some ⟨wr.heap.size, 0, none⟩) 1 [rz] rfl (int_one wr rz) (fun e => by cases e) (by simp only [List.length_cons, List.length_nil, List.length_take]; omega) SWa.out.size ?_)
      intro v1 w2 o1 g1
      have HO1 : Hid (OwnI w2 w1.heap.size v1 (RS.take (j + 1))) := by show OwnI _ _ _ _; rw [HRT.out]; exact o1
      have HT1 := hid (OwnT.beside HTa.out HOa.out g1)
      have SW1 := hid (grown1_step SWa.out HOa.out (Nat.le_refl _) g1)
      have y0' := (TwosAt.step HX.out (S1.out.trans SW1.out)).at j hjp
      obtain ⟨b', off', e', y0', _⟩ := y0'
      injection e' with e'
      injection e' with e1 e2 _
      rw [← e1, ← e2] at y0'
      rw [HXJ.out] at y0'
      simp only at y0'
      clear o1 g1 y0 y1 HOa HTa SWa e1 e2
      have HOa := hid (OwnI.step HO1.out ((Step.refl noF w2).alloc (.cells #[.string (str lw)] 9)))
      have HTa := hid (OwnT.step HT1.out ((Step.refl noF w2).alloc (.cells #[.string (str lw)] 9)))
      have SWa := hid (SW1.out.alloc (.cells #[.string (str lw)] 9))
      go_wp2_with (at_builtin; refine wpList_append_T rfl _ _ rfl w1.heap.size _ (LS.take j) rfl HTa.out (some ⟨w2.heap.size, 0, none⟩) 1 [lw] rfl (text_one w2 lw) (fun e => by cases e) (by simp only [List.length_cons, List.length_nil, List.length_take]; omega) SWa.out.size ?_)
      intro v2 w3 o2 g2
      have HT2 : Hid (OwnT w3 w1.heap.size v2 (LS.take (j + 1))) := by show OwnT _ _ _ _; rw [HLT.out]; exact o2
      have HO2 := hid (OwnI.beside HOa.out HTa.out g2)
      have SW2 := hid (grown1_step SWa.out HTa.out (Nat.le_refl _) g2)
      clear o2 g2 HOa HTa SWa y0'
      go_wp2_with fail
      go_roundg (m - (j + 1))
      case measure => omega
      case rel => exact ⟨j + 1, by simp, by omega, Nat.le_refl _, HO2.out, HT2.out, SW2.out⟩
    · obtain rfl : j = m := by omega
      have hjz : ¬ (j : Int) < (j : Int) := by omega
      have ho := HO.out
      rw [List.take_of_length_le (show RS.length ≤ j by rw [HRL.out]; exact Nat.le_refl _)] at ho
      have ht := HT.out
      rw [List.take_of_length_le (show LS.length ≤ j by rw [HLL.out]; exact Nat.le_refl _)] at ht
      obtain ⟨a3, c3, rfl, r3a, r3b, r3c⟩ := OwnI.row ho
      obtain ⟨a5, c5, rfl, r5a, r5b, r5c⟩ := OwnT.row ht
      have HR3 := hid r3c
      have HR5 := hid r5c
      have hrs : RS.length = j := HRL.out
      have hls : LS.length = j := HLL.out
      have S2 := hid (S1.out.trans SW.out)
      clear ho ht HO HT r3a r3b r3c r5a r5b r5c O0 HT0 HS0 SW
      have cO := ofN_any ks ps ms (by omega) (by omega) (by omega) (fun m hm => (HQ.out m hm).2) ka pa a kc pc c HCK.out.1 HCP.out.1 HC.out wr (rowAt_step HK.out S2.out (fun _ _ h => h)) (rowAt_step HP.out S2.out (fun _ _ h => h)) (HM.out.stepB S2.out)
      have cV := fun w' (hs : Step noF w w') => refOfN_any ks ps ms (by omega) (by omega) (by omega) ka pa a kc pc c w' (rowAt_step HK.out hs (fun _ _ h => h)) HCK.out.1 HCK.out.2 (rowAt_step HP.out hs (fun _ _ h => h)) HCP.out.1 HCP.out.2 (HM.out.stepB hs)
      go_wp2_with fail
      refine cO.mono ?_
      rintro e w2 ⟨ho, s2⟩
      have S3 := hid (S2.out.trans s2)
      have cv := cV w2 S3.out
      clear cO cV
      rcases ho with ⟨h1, rfl⟩ | ⟨h1, p, rfl, hi⟩
      · go_wp2_with fail
        go_ret
        exact ⟨rfl, S3.out⟩
      have hok := ndOk_of h1 (by omega) (by omega)
      have HAL := hid h1
      obtain ⟨u, hu⟩ : ∃ u, putsM ms [] = u := ⟨_, rfl⟩
      rw [hu] at hi hok cv
      have hul : u.length ≤ 40 := by
        have := putsM_len ms []
        rw [hu] at this
        simp at this
        omega
      have I2 := hid hi
      have OK := hid hok
      have hlen := hok.len
      simp only at hlen
      obtain ⟨n, hn⟩ : ∃ n, ks.length = n := ⟨_, rfl⟩
      have HNN := hid hn
      have HR3' := hid (rowAt_step HR3.out s2 (fun _ _ h => h))
      have HR5' := hid (rowAt_step HR5.out s2 (fun _ _ h => h))
      rw [hn] at hk30 hlen
      clear hi hok hu s2 HR3 HR5
      rw [hn]
      go_wp2_with fail
      refine (hn ▸ cv).mono ?_
      rintro e w3 ⟨hv, s3⟩
      rcases hv with ⟨h2, _⟩ | ⟨_, v, rfl, hv⟩
      · rw [HAL.out] at h2
        cases h2
      have hv2 := hv
      obtain ⟨ka', pa', a', kc', pc', c', rfl, hr'⟩ := hv
      simp only [hn] at hv2
      simp only at hr'
      obtain ⟨pn, hpn⟩ : ∃ x, ps.length = x := ⟨_, rfl⟩
      obtain ⟨un, hun⟩ : ∃ x, u.length = x := ⟨_, rfl⟩
      rw [hpn, hun] at hv2
      have HPN := hid hpn
      have HUN := hid hun
      have BX := box_new w3 (.slice ka' n kc') (.slice pa' pn pc') (.slice a' un c')
      have S3x := S3.out.trans (s3.trans ((Step.refl noF w3).alloc (.cells #[.slice ka' n kc', .slice pa' pn pc', .slice a' un c'] 34)))
      have S23 := s3.trans ((Step.refl noF w3).alloc (.cells #[.slice ka' n kc', .slice pa' pn pc', .slice a' un c'] 34))
      have HVV := NdV.step hv2 ((Step.refl noF w3).alloc (.cells #[.slice ka' n kc', .slice pa' pn pc', .slice a' un c'] 34))
      obtain ⟨W4, hW4⟩ : ∃ W4, w3.alloc (.cells #[.slice ka' n kc', .slice pa' pn pc', .slice a' un c'] 34) = W4 := ⟨_, rfl⟩
      rw [hW4] at BX S3x S23 HVV
      obtain ⟨g, hgg⟩ : ∃ g, w3.heap.size = g := ⟨_, rfl⟩
      rw [hgg] at BX
      have S4 := hid S3x
      have B4 := hid BX
      have V4 := hid HVV
      have I4 := hid (I2.out.step S23)
      have R3 := hid (rowAt_step HR3'.out S23 (fun _ _ h => h))
      have R5 := hid (rowAt_step HR5'.out S23 (fun _ _ h => h))
      clear BX S3x S23 HVV hv2 hr' s3 I2 cv S2 S1 S3 HR3' HR5' HK HP HM HQ
      go_upto_region 18 with fail
      clear hW4 hgg
      have HX4 := hid (TwosAt.step HX.out S4.out)
      have hjm2 : j ≤ 1000 := by omega
      cases hz1 : hasZ n z
      · have cS := swapN_no p ⟨ks, ps, u⟩ z (by simp only [hn]; exact hz1) xa j xc W4 I4.out
        have cF := fuseN_no p ⟨ks, ps, u⟩ z (by simp only [hn]; exact hz1) rf W4 I4.out
        have HZ1 := hid hz1
        clear hz1
        go_wp2_with fail
        refine cS.mono ?_
        rintro e w5 ⟨rfl, rfl⟩
        go_wp2_with fail
        refine cF.mono ?_
        rintro e w5 ⟨rfl, rfl⟩
        clear cS cF
        by_cases hz0 : z < 0
        · go_wp2_with fail
          go_ret
          exact ⟨rfl, S4.out⟩
        · have hz3 : (n : Int) ≤ z := by
            have h := HZ1.out
            unfold hasZ at h
            rw [decide_eq_true (show 0 ≤ z by omega), Bool.true_and, decide_eq_false_iff_not] at h
            omega
          go_wp2_with fail
          go_ret
          exact ⟨rfl, S4.out⟩
      · obtain ⟨i, rfl, hi⟩ := hasZ_true hz1
        clear hz1
        have cS := swapZ_any p ⟨ks, ps, u⟩ (by simp only; omega) (by simp only; omega) i (by simp only [hn]; exact hi) pts j HPM.out hjm2 xa xc hxn W4 I4.out HX4.out
        have cFu := fun w' (hs : Step noF W4 w') => fuseZ_any p ⟨ks, ps, u⟩ OK.out i (by simp only [hn]; exact hi) rf w' (I4.out.step hs)
        have cQ := fun w' (hs : Step noF W4 w') => refSwapN_any ⟨ks, ps, u⟩ (by simp only; omega) (by simp only; omega) i (by simp only [hn]; exact hi) RS LS j HRL.out HLL.out hjm2 a3 a5 c3 c5 _ w' (V4.out.step hs) (rowAt_step R3.out hs (fun _ _ h => h)) (rowAt_step R5.out hs (fun _ _ h => h))
        rw [HRS.out, HLS.out] at cS
        simp only at cS cQ
        have hkl1 : (swapKids ks i RS).length ≤ 2000 := by unfold swapKids; rw [List.length_append, List.length_append, List.length_take, List.length_drop, HRL.out]; omega
        have hpl1 : (swapPivs ps i LS).length ≤ 2000 := by unfold swapPivs; rw [List.length_append, List.length_append, List.length_take, List.length_drop, List.length_drop, HLL.out]; omega
        obtain ⟨KS, hKS⟩ : ∃ x, swapKids ks i RS = x := ⟨_, rfl⟩
        obtain ⟨PS, hPS⟩ : ∃ x, swapPivs ps i LS = x := ⟨_, rfl⟩
        rw [hKS] at cS cQ hkl1
        rw [hPS] at cS cQ hpl1
        obtain ⟨GD, hGD⟩ : ∃ x, (decide (j ≠ 0) && goodN KS PS) = x := ⟨_, rfl⟩
        rw [hGD] at cS cQ
        clear hKS hPS hGD
        go_wp2_with fail
        refine cS.mono ?_
        rintro e w5 ⟨x, f, rfl, HZ, s5⟩
        have cfu := cFu w5 s5.out
        go_wp2_with fail
        refine cfu.mono ?_
        rintro e w6 ⟨x2, f2, rfl, HF, s6⟩
        have S6 := hid (s5.out.trans s6.out)
        have T6 := s6
        have cq := cQ w6 S6.out
        obtain ⟨u0, u1, u2, _, _, _⟩ := (B4.out.step S6.out).all
        have hi0 : ¬ (i : Int) < 0 := by omega
        have hin : ¬ (n : Int) ≤ (i : Int) := by omega
        clear cS cFu cQ cfu s5 s6
        go_wp2_with fail
        refine cq.mono ?_
        rintro e w7 ⟨hq, s7⟩
        obtain ⟨b1, b2, b3, l1, l2, l3, k1, k2, k3, rfl, hnv⟩ := refMade_open hq
        have HNV := hid hnv
        have st8 := (Step.refl noF w7).alloc (.cells #[.slice b1 l1 k1, .slice b2 l2 k2, .slice b3 l3 k3] 34)
        have BX8 := box_new w7 (.slice b1 l1 k1) (.slice b2 l2 k2) (.slice b3 l3 k3)
        have N8 : Hid (GD = true → NdV (w7.alloc (.cells #[.slice b1 l1 k1, .slice b2 l2 k2, .slice b3 l3 k3] 34)) ⟨KS, PS, u⟩ (.agg #[.slice b1 l1 k1, .slice b2 l2 k2, .slice b3 l3 k3])) := fun h => NdV.step (HNV.out h) st8
        have S8 := hid (S6.out.trans (s7.trans st8))
        have Z8 := hid (T6.out.trans (s7.trans st8))
        have Y8 := hid (s7.trans st8)
        obtain ⟨W8, hW8⟩ : ∃ W8, w7.alloc (.cells #[.slice b1 l1 k1, .slice b2 l2 k2, .slice b3 l3 k3] 34) = W8 := ⟨_, rfl⟩
        rw [hW8] at BX8 N8 S8 Z8 Y8
        obtain ⟨g8, hg8⟩ : ∃ g, w7.heap.size = g := ⟨_, rfl⟩
        rw [hg8] at BX8
        clear u0 u1 u2
        obtain ⟨u0, u1, u2, _, _, _⟩ := BX8.all
        clear BX8 cq hq hnv HNV s7 st8
        go_upto_region 23 with fail
        clear hW8 hg8
        go_cut [157] from 130 (fun s157 wx => s157 = .bool false ∧ Hid (Step noF W8 wx))
        case first =>
          cases GD
          · obtain ⟨rfl, rfl⟩ := HZ.out.1 rfl
            change Code.wp _ (Code.region 23 ((Tryz.f4.body.bind (regionOps 23)).getD #[]) true) _ _ _
            refine insb_go g8 W8 _ rfl rfl rfl rfl rfl ?_
            intro ff wz sz e157
            have e157' : ff 157 = .bool false := e157
            have SZ := hid sz
            clear sz e157
            rw [insb_lit, e157']
            go_wp2_with fail
            go_meet
            exact ⟨rfl, SZ.out⟩
          · obtain ⟨rfl, q, rfl, hin8⟩ := HZ.out.2 rfl
            have I8 := hid (hin8.step Z8.out)
            have c140 := fun w' (hs : Step noF W8 w') => formV_any q ⟨KS, PS, u⟩ ⟨by simp only; omega, by simp only; omega, by simp only; omega⟩ w' (I8.out.step hs)
            have c142 := fun x w' (hs : Step noF W8 w') (hx : NdV w' ⟨KS, PS, u⟩ x) => sameV_any ⟨KS, PS, u⟩ ⟨by simp only; omega, by simp only; omega, by simp only; omega⟩ x _ w' hx (NdV.step (N8.out rfl) hs)
            change Code.wp _ (Code.region 23 ((Tryz.f4.body.bind (regionOps 23)).getD #[]) true) _ _ _
            refine insa_go q g8 _ _ _ ⟨KS, PS, u⟩ W8 u0 u1 u2 c140 c142 _ rfl rfl rfl rfl rfl ?_
            intro ff wz sz e157
            have e157' : ff 157 = .bool false := e157
            have SZ := hid sz
            clear sz e157 c140 c142
            rw [insa_lit, e157']
            go_wp2_with fail
            go_meet
            exact ⟨rfl, SZ.out⟩
        case rest =>
          obtain ⟨rfl, SC⟩ := hcut
          have S9 := hid (S8.out.trans SC.out)
          have SX := hid (S4.out.trans S9.out)
          clear u0 u1 u2 HZ N8
          obtain ⟨u0, u1, u2, _, _, _⟩ := (B4.out.step S9.out).all
          have wn : IntKind.i64.wrap ((n : Int) - 1) = (n : Int) - 1 := by rw [IntKind.wrap_i64]; omega
          by_cases hil : i + 1 = n
          · have hiz : (i : Int) = (n : Int) - 1 := by omega
            have hib : ((i : Int) == (n : Int) - 1) = true := by rw [beq_iff_eq]; exact hiz
            obtain ⟨rfl, rfl⟩ := HF.out.1 (by simp only [hn]; exact hil)
            go_wp2_with fail
            go_ret
            exact ⟨rfl, SX.out⟩
          · have hiz : ¬ (i : Int) = (n : Int) - 1 := by omega
            have hib : ((i : Int) == (n : Int) - 1) = false := by rw [beq_eq_false_iff_ne]; exact hiz
            by_cases hr0 : rf < 0
            · obtain ⟨rfl, rfl⟩ := HF.out.2.1 (by simp only [hn]; omega) hr0
              go_wp2_with fail
              go_ret
              exact ⟨rfl, SX.out⟩
            · obtain ⟨rfl, q2, rfl, hin9⟩ := HF.out.2.2 (by simp only [hn]; omega) (by omega)
              simp only at hin9
              have hfk : (fuseKids ks i rf).length ≤ 2000 := by unfold fuseKids; rw [List.length_append, List.length_append, List.length_take, List.length_drop]; simp; omega
              have hfp : (fusePivs ps i).length ≤ 2000 := by unfold fusePivs; rw [List.length_append, List.length_take, List.length_drop]; omega
              have I9 := hid (hin9.step (Y8.out.trans SC.out))
              obtain ⟨FK, hFK⟩ : ∃ x, fuseKids ks i rf = x := ⟨_, rfl⟩
              obtain ⟨FP, hFP⟩ : ∃ x, fusePivs ps i = x := ⟨_, rfl⟩
              have c189 : ∀ w', Step noF wc w' → Calls Tryz.prog 25 #[.agg #[.slice ka' n kc', .slice pa' pn pc', .slice a' un c'], .int .i64 i, .int .i64 rf] w' fun e w'' => ∃ v, e = .returned v ∧ Step noF w' w'' ∧ ∃ x, v = x ∧ NdV w'' ⟨FK, FP, u⟩ x := fun w' hs => by
                have h := refFuseN_any ⟨ks, ps, u⟩ (by simp only; omega) (by simp only; omega) i (by simp only; omega) rf _ w' (V4.out.step (S9.out.trans hs))
                simp only [hFK, hFP] at h
                refine h.mono ?_
                rintro e w'' ⟨v, rfl, hv, hs2⟩
                exact ⟨v, rfl, hs2, v, rfl, hv⟩
              rw [hFK] at hfk I9
              rw [hFP] at hfp I9
              have c185 := fun w' (hs : Step noF wc w') => formV_any q2 ⟨FK, FP, u⟩ ⟨by simp only; omega, by simp only; omega, by simp only; omega⟩ w' (I9.out.step hs)
              have c190 := fun x y w' (hs : Step noF wc w') (hx : NdV w' ⟨FK, FP, u⟩ x) (hy : NdV w' ⟨FK, FP, u⟩ y) => sameV_any ⟨FK, FP, u⟩ ⟨by simp only; omega, by simp only; omega, by simp only; omega⟩ x y w' hx hy
              have c194 := fun w' (hs : Step noF wc w') => formV_any p ⟨ks, ps, u⟩ ⟨by simp only; omega, by simp only; omega, by simp only; omega⟩ w' (I4.out.step (S9.out.trans hs))
              have c196 := fun x w' (hs : Step noF wc w') (hx : NdV w' ⟨ks, ps, u⟩ x) => sameV_any ⟨ks, ps, u⟩ ⟨by simp only; omega, by simp only; omega, by simp only; omega⟩ x _ w' hx (V4.out.step (S9.out.trans hs))
              clear hFK hFP
              go_upto_region 29 with fail
              change Code.wp _ (Code.region 29 ((Tryz.f4.body.bind (regionOps 29)).getD #[]) true) _ _ _
              refine insc_go p q2 g i rf _ _ _ ⟨ks, ps, u⟩ ⟨FK, FP, u⟩ wc u0 u1 u2 c185 c189 c190 c194 c196 _ rfl rfl rfl rfl rfl rfl rfl ?_
              intro fg wy sy e12
              have e12' : fg 12 = .bool true := e12
              have SY := hid (SX.out.trans sy)
              clear sy e12 c185 c189 c190 c194 c196 u0 u1 u2
              rw [insc_lit, e12']
              go_wp2_with fail
              go_ret
              exact ⟨rfl, SY.out⟩
end Go.Proofs.YtgmgoaencaldmaaGreat
namespace Go.Proofs.YtgmgoaencaldmaaGreat.innerSwapsDone
open Go.ChangeShapes Go.WideShapes Go.ChangeAt Go.RowKit
open Go.ChangeMaps (open_string shut_string)
set_option linter.unusedVariables false

set_option maxRecDepth 100000 in
theorem lifted (os : Os) (started : os.Started) (H : Type) (enc : TypeId × Value → H) :
    ReturnsInHanded {} Tryz.checked os 4 .any (Rows.innerSwapsSpec.pre6 enc Tryz.prog Tryz.f4 Rows.innerSwapsRow.domain false) (Rows.innerSwapsSpec.post enc Tryz.prog Tryz.f4 false true false false) := by
  refine returnsInHanded_of_change (C := Tryz.checked) own_okM started (by kernel_rfl) Tryz.func4
    (ChangeSpec.witness6 (enc := enc) (C := Tryz.checked) false ⟨#[], #[.slice none 0 0, .slice none 0 0, .slice none 0 0, .int .i64 0, .slice none 0 0, .int .i64 0], []⟩ 8 (by kernel_rfl) (by kernel_rfl) (by kernel_rfl) (by kernel_rfl)) ?_
  intro W base args ds gs before hval0 hW hcnd _
  have hval : ∀ (j : Nat) t v, Tryz.f4.params[j]? = some t → args[j]? = some v → Value.okWide Tryz.prog W .any base t v := hval0
  have hW' := hW
  obtain ⟨p, q, hA0, hV, rfl, hfz, hnd⟩ := hW
  have hA : DataW.TrodAll enc Tryz.prog W 0 (fun _ => true) true Tryz.f4.params.toList args.toList ds p := hA0
  rw [Tryz.params4] at hA hval
  obtain ⟨v0, vs0, d0, ds0, p0, q0, hargs, rfl, rfl, h0, r0_⟩ := trodAll_cons hA
  obtain ⟨v1, vs1, d1, ds1, p1, q1, rfl, rfl, rfl, h1, r1_⟩ := trodAll_cons r0_
  obtain ⟨v2, vs2, d2, ds2, p2, q2, rfl, rfl, rfl, h2, r2_⟩ := trodAll_cons r1_
  obtain ⟨v3, vs3, d3, ds3, p3, q3, rfl, rfl, rfl, h3, r3_⟩ := trodAll_cons r2_
  obtain ⟨v4, vs4, d4, ds4, p4, q4, rfl, rfl, rfl, h4, r4_⟩ := trodAll_cons r3_
  obtain ⟨v5, vs5, d5, ds5, p5, q5, rfl, rfl, rfl, h5, r5_⟩ := trodAll_cons r4_
  obtain ⟨rfl, rfl, rfl⟩ := trodAll_nil r5_
  obtain rfl : args = #[v0, v1, v2, v3, v4, v5] := by cases args; simp_all
  obtain ⟨rfl, rfl⟩ := trodVars_none hV
  have k0 := h0
  have lt0 : ∀ x ∈ p0, x.block < W.heap.size := by obtain ⟨m, hm⟩ := k0; exact DataW.trod_lt m _ _ _ hm
  obtain ⟨a0, len0, cap0, rfl⟩ := okWide_slice Tryz.underlying22 (hval 0 22 v0 rfl rfl)
  obtain ⟨⟨hb0, hc0⟩, zs0, hzl0, hzs0⟩ := open_intsN h0
  have hn0 := open_capN Tryz.underlying22 h0
  subst hzl0
  have k1 := h1
  have lt1 : ∀ x ∈ p1, x.block < W.heap.size := by obtain ⟨m, hm⟩ := k1; exact DataW.trod_lt m _ _ _ hm
  obtain ⟨a1, len1, cap1, rfl⟩ := okWide_slice Tryz.underlying23 (hval 1 23 v1 rfl rfl)
  obtain ⟨hb1, ps1, hpl1, hps1, hmb1⟩ := open_textsK h1
  have hc1 := open_cap Tryz.underlying23 h1
  have hn1 := open_capN Tryz.underlying23 h1
  subst hpl1
  have k2 := h2
  have lt2 : ∀ x ∈ p2, x.block < W.heap.size := by obtain ⟨m, hm⟩ := k2; exact DataW.trod_lt m _ _ _ hm
  obtain ⟨a2, len2, cap2, rfl⟩ := okWide_slice Tryz.underlying24 (hval 2 24 v2 rfl rfl)
  obtain ⟨⟨hb2, hc2⟩, ms2, hnl2, hms2, hmb2⟩ := open_mss h2
  subst hnl2
  obtain ⟨z3, rfl, rfl, rfl, wz3⟩ := open_int Tryz.underlying3 (hval 3 3 v3 rfl rfl) h3
  have k4 := h4
  have lt4 : ∀ x ∈ p4, x.block < W.heap.size := by obtain ⟨m, hm⟩ := k4; exact DataW.trod_lt m _ _ _ hm
  obtain ⟨a4, len4, cap4, rfl⟩ := okWide_slice Tryz.underlying53 (hval 4 53 v4 rfl rfl)
  have hn4 := open_capN Tryz.underlying53 h4
  obtain ⟨⟨hb4, hc4⟩, pts4, hpl4, hpt4, hmb4⟩ := open_pts h4
  subst hpl4
  obtain ⟨z5, rfl, rfl, rfl, wz5⟩ := open_int Tryz.underlying3 (hval 5 3 v5 rfl rfl) h5
  clear hA0 hval0
  have hw := innerSwaps_any zs0 hb0 a0 cap0 hc0 hn0 ps1 hb1 hmb1 a1 cap1 hc1 hn1 ms2 hb2 hmb2 a2 cap2 hc2 z3 pts4 hb4 hmb4 a4 cap4 hn4 z5 W hzs0 hps1 hms2 hpt4
  refine hw.mono fun e W' ⟨he, hst⟩ => ?_
  subst he
  have bel : Below W.heap.size W W' := hst.below (fun k hk => hk.elim)
  exact ⟨_, rfl, _, _, _, [], _, [], hW', trodAll_mk1 (shut_bool Tryz.underlying4 _),
    (trodAll_cons_mk (Below.trod laidOutM (by kernel_rfl) (of_decide_eq_true (by kernel_rfl)) k0 bel lt0) (trodAll_cons_mk (Below.trod laidOutM (by kernel_rfl) (of_decide_eq_true (by kernel_rfl)) k1 bel lt1) (trodAll_cons_mk (Below.trod laidOutM (by kernel_rfl) (of_decide_eq_true (by kernel_rfl)) k2 bel lt2) (trodAll_cons_mk (shut_int Tryz.underlying3 wz3) (trodAll_cons_mk (Below.trod laidOutM (by kernel_rfl) (of_decide_eq_true (by kernel_rfl)) k4 bel lt4) (trodAll_cons_mk (shut_int Tryz.underlying3 wz5) trodAll_mk0)))))), rfl, bel.frame _, fun h => by cases h⟩

theorem over : Rows.innerSwapsRow.holds Tryz.pinned (OpenSpec.ofChange Rows.innerSwapsSpec) :=
  OpenClaim.holds_of_wide 4 Tryz.f4 rfl rfl rfl rfl rfl rfl rfl ⟨rfl, rfl, rfl, rfl, rfl⟩ rfl rfl rfl rfl rfl (by kernel_rfl) Tryz.func4 (by kernel_rfl)
    (of_decide_eq_true (by kernel_rfl)) (by unfold Func.isWrapper; first | (rw [if_pos (by decide +kernel)]; kernel_rfl) | (rw [if_neg (by decide +kernel)]; exact ⟨rfl, rfl⟩))
    (fun os started H enc _ => lifted os started H enc)
end Go.Proofs.YtgmgoaencaldmaaGreat.innerSwapsDone
namespace Go.Proofs.YtgmgoaencaldmaaGreat
theorem innerSwaps_holds : Rows.InnerSwapsSaid := innerSwapsDone.over
end Go.Proofs.YtgmgoaencaldmaaGreat
