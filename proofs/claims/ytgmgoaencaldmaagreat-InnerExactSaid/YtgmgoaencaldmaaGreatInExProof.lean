/-
  Of all kids, pivots and messages the node, if there is one, which kid is for a key, each kid's part, and what is put in and flushed, are the document's: for every input, with no condition.
  The region that draws in grangerlaw11.InnerExact (number 9), operation by operation. Written by draw6.py.
  The region that draws in grangerlaw11.InnerExact (number 20), operation by operation. Written by draw6.py.
  The region that draws in grangerlaw11.InnerExact (number 25), operation by operation. Written by draw6.py.
  The region that draws in grangerlaw11.InnerExact (number 26), operation by operation. Written by draw6.py.
  What the law InnerExact asks, walked.
-/
import Derived.Test.YtgmgoaencaldmaaGreatDraw
import Derived.Test.YtgmgoaencaldmaaGreatInRA
import Derived.Test.YtgmgoaencaldmaaGreatInRF
import Derived.Deep.CutRange
import Derived.Test.YtgmgoaencaldmaaGreatInOpen
namespace Go.Proofs.YtgmgoaencaldmaaGreat
open Go.RowKit
set_option linter.unusedVariables false
set_option linter.unusedSimpArgs false


def inxaDs : List Nat := [79, 80, 81, 82, 83, 84, 85, 86, 87, 88, 89, 90, 91, 92, 93, 94, 95, 96, 97, 98, 99, 100, 101, 102, 103, 104, 105, 106, 107]
def inxaDl : List (Option Nat) := [some 79, some 80, some 81, some 82, some 83, some 84, some 85, some 86, some 87, some 88, some 89, some 90, some 91, some 92, some 93, some 94, some 95, some 96, some 97, some 98, some 99, some 100, some 101, some 102, some 103, some 104, some 105, some 106, some 107]
theorem inxa_dl : ((Tryz.f3.body.bind (regionOps 9)).getD #[]).toList.map (·.dst) = inxaDl := by kernel_rfl
theorem inxa_back : backB ((Tryz.f3.body.bind (regionOps 9)).getD #[]) = true := by kernel_rfl
theorem inxa_size : ((Tryz.f3.body.bind (regionOps 9)).getD #[]).size = 29 := by kernel_rfl
theorem inxa_nd : inxaDl.Pairwise (fun x y => x = none ∨ x ≠ y) := by decide
theorem inxa_lt (d : Nat) (h : some d ∈ inxaDl) : d < 231 := by
  have hh : inxaDl.all (fun o => o.all (fun d => decide (d < 231))) = true := by decide
  simpa using List.all_eq_true.1 hh _ h
theorem inxaOp0 : opIs ((Tryz.f3.body.bind (regionOps 9)).getD #[]) 0 (some 79) (Op.move (Operand.tmp 16)) (none) := opIs_of (by kernel_rfl)
theorem inxaOp1 : opIs ((Tryz.f3.body.bind (regionOps 9)).getD #[]) 1 (some 80) (Op.binOp BinOp.neq 30 (Operand.tmp 79) (Operand.const (Value.int IntKind.i64 0)) 30) (none) := opIs_of (by kernel_rfl)
theorem inxaOp2 : opIs ((Tryz.f3.body.bind (regionOps 9)).getD #[]) 2 (some 81) (Op.move (Operand.tmp 80)) (none) := opIs_of (by kernel_rfl)
theorem inxaOp3 : opIs ((Tryz.f3.body.bind (regionOps 9)).getD #[]) 3 (some 82) (Op.move (Operand.tmp 15)) (some (2, false)) := opIs_of (by kernel_rfl)
theorem inxaOp4 : opIs ((Tryz.f3.body.bind (regionOps 9)).getD #[]) 4 (some 83) (Op.binOp BinOp.eql 29 (Operand.tmp 82) (Operand.const (Value.pointer none)) 29) (some (2, false)) := opIs_of (by kernel_rfl)
theorem inxaOp5 : opIs ((Tryz.f3.body.bind (regionOps 9)).getD #[]) 5 (some 84) (Op.pick (Operand.tmp 81) (Operand.const (Value.bool true)) (Operand.tmp 83)) (none) := opIs_of (by kernel_rfl)
theorem inxaOp6 : opIs ((Tryz.f3.body.bind (regionOps 9)).getD #[]) 6 (some 85) (Op.move (Operand.tmp 84)) (none) := opIs_of (by kernel_rfl)
theorem inxaOp7 : opIs ((Tryz.f3.body.bind (regionOps 9)).getD #[]) 7 (some 86) (Op.move (Operand.tmp 15)) (some (6, false)) := opIs_of (by kernel_rfl)
theorem inxaOp8 : opIs ((Tryz.f3.body.bind (regionOps 9)).getD #[]) 8 (some 87) (Op.call { callee := Callee.value (Operand.func 11), args := #[Operand.tmp 86], argTypes := #[29] }) (some (6, false)) := opIs_of (by kernel_rfl)
theorem inxaOp9 : opIs ((Tryz.f3.body.bind (regionOps 9)).getD #[]) 9 (some 88) (Op.load 34 (Operand.tmp 17)) (some (6, false)) := opIs_of (by kernel_rfl)
theorem inxaOp10 : opIs ((Tryz.f3.body.bind (regionOps 9)).getD #[]) 10 (some 89) (Op.call { callee := Callee.value (Operand.func 10), args := #[Operand.tmp 87, Operand.tmp 88], argTypes := #[34, 34] }) (some (6, false)) := opIs_of (by kernel_rfl)
theorem inxaOp11 : opIs ((Tryz.f3.body.bind (regionOps 9)).getD #[]) 11 (some 90) (Op.unOp UnOp.not 4 (Operand.tmp 89)) (some (6, false)) := opIs_of (by kernel_rfl)
theorem inxaOp12 : opIs ((Tryz.f3.body.bind (regionOps 9)).getD #[]) 12 (some 91) (Op.pick (Operand.tmp 85) (Operand.const (Value.bool true)) (Operand.tmp 90)) (none) := opIs_of (by kernel_rfl)
theorem inxaOp13 : opIs ((Tryz.f3.body.bind (regionOps 9)).getD #[]) 13 (some 92) (Op.move (Operand.tmp 91)) (none) := opIs_of (by kernel_rfl)
theorem inxaOp14 : opIs ((Tryz.f3.body.bind (regionOps 9)).getD #[]) 14 (some 93) (Op.move (Operand.tmp 15)) (some (13, false)) := opIs_of (by kernel_rfl)
theorem inxaOp15 : opIs ((Tryz.f3.body.bind (regionOps 9)).getD #[]) 15 (some 94) (Op.call { callee := Callee.value (Operand.func 12), args := #[Operand.tmp 93], argTypes := #[29] }) (some (13, false)) := opIs_of (by kernel_rfl)
theorem inxaOp16 : opIs ((Tryz.f3.body.bind (regionOps 9)).getD #[]) 16 (some 95) (Op.move (Operand.tmp 0)) (some (13, false)) := opIs_of (by kernel_rfl)
theorem inxaOp17 : opIs ((Tryz.f3.body.bind (regionOps 9)).getD #[]) 17 (some 96) (Op.call { callee := Callee.builtin Builtin.len, args := #[Operand.tmp 95], argTypes := #[22] }) (some (13, false)) := opIs_of (by kernel_rfl)
theorem inxaOp18 : opIs ((Tryz.f3.body.bind (regionOps 9)).getD #[]) 18 (some 97) (Op.binOp BinOp.neq 3 (Operand.tmp 94) (Operand.tmp 96) 3) (some (13, false)) := opIs_of (by kernel_rfl)
theorem inxaOp19 : opIs ((Tryz.f3.body.bind (regionOps 9)).getD #[]) 19 (some 98) (Op.pick (Operand.tmp 92) (Operand.const (Value.bool true)) (Operand.tmp 97)) (none) := opIs_of (by kernel_rfl)
theorem inxaOp20 : opIs ((Tryz.f3.body.bind (regionOps 9)).getD #[]) 20 (some 99) (Op.move (Operand.tmp 98)) (none) := opIs_of (by kernel_rfl)
theorem inxaOp21 : opIs ((Tryz.f3.body.bind (regionOps 9)).getD #[]) 21 (some 100) (Op.move (Operand.tmp 15)) (some (20, false)) := opIs_of (by kernel_rfl)
theorem inxaOp22 : opIs ((Tryz.f3.body.bind (regionOps 9)).getD #[]) 22 (some 101) (Op.move (Operand.tmp 4)) (some (20, false)) := opIs_of (by kernel_rfl)
theorem inxaOp23 : opIs ((Tryz.f3.body.bind (regionOps 9)).getD #[]) 23 (some 102) (Op.call { callee := Callee.value (Operand.func 13), args := #[Operand.tmp 100, Operand.tmp 101], argTypes := #[29, 9] }) (some (20, false)) := opIs_of (by kernel_rfl)
theorem inxaOp24 : opIs ((Tryz.f3.body.bind (regionOps 9)).getD #[]) 24 (some 103) (Op.load 34 (Operand.tmp 17)) (some (20, false)) := opIs_of (by kernel_rfl)
theorem inxaOp25 : opIs ((Tryz.f3.body.bind (regionOps 9)).getD #[]) 25 (some 104) (Op.move (Operand.tmp 4)) (some (20, false)) := opIs_of (by kernel_rfl)
theorem inxaOp26 : opIs ((Tryz.f3.body.bind (regionOps 9)).getD #[]) 26 (some 105) (Op.call { callee := Callee.value (Operand.func 14), args := #[Operand.tmp 103, Operand.tmp 104], argTypes := #[34, 9] }) (some (20, false)) := opIs_of (by kernel_rfl)
theorem inxaOp27 : opIs ((Tryz.f3.body.bind (regionOps 9)).getD #[]) 27 (some 106) (Op.binOp BinOp.neq 3 (Operand.tmp 102) (Operand.tmp 105) 3) (some (20, false)) := opIs_of (by kernel_rfl)
theorem inxaOp28 : opIs ((Tryz.f3.body.bind (regionOps 9)).getD #[]) 28 (some 107) (Op.pick (Operand.tmp 99) (Operand.const (Value.bool true)) (Operand.tmp 106)) (none) := opIs_of (by kernel_rfl)
/-- What is said of each slot. -/
def inxaSp (p g n kd : Nat) (ka : Option Addr) (kc : Nat) (SK SP SM : Value) (K : List UInt8) (D : Nd) (i : Nat) (w : World) (v : Value) : Prop := match i with
  | 0 => v = .int .i64 0
  | 1 => v = .bool false
  | 2 => v = .bool false
  | 3 => v = .pointer (some ⟨p, 0, none⟩)
  | 4 => v = .bool false
  | 5 => v = .bool false
  | 6 => v = .bool false
  | 7 => v = .pointer (some ⟨p, 0, none⟩)
  | 8 => ∃ x, v = x ∧ NdV w D x
  | 9 => v = .agg #[SK, SP, SM]
  | 10 => v = .bool true
  | 11 => v = .bool false
  | 12 => v = .bool false
  | 13 => v = .bool false
  | 14 => v = .pointer (some ⟨p, 0, none⟩)
  | 15 => v = .int .i64 n
  | 16 => v = .slice ka n kc
  | 17 => v = .int .i64 n
  | 18 => v = .bool false
  | 19 => v = .bool false
  | 20 => v = .bool false
  | 21 => v = .pointer (some ⟨p, 0, none⟩)
  | 22 => v = .string (str K)
  | 23 => v = .int .i64 kd
  | 24 => v = .agg #[SK, SP, SM]
  | 25 => v = .string (str K)
  | 26 => v = .int .i64 kd
  | 27 => v = .bool false
  | 28 => v = .bool false
  | _ => True
theorem inxaKeep87 (p g n kd : Nat) (ka : Option Addr) (kc : Nat) (SK SP SM : Value) (K : List UInt8) (D : Nd) {w w' : World} {v : Value} (hs : Step noF w w') (h : ∃ x, v = x ∧ NdV w D x) : ∃ x, v = x ∧ NdV w' D x := by
  obtain ⟨x, h1, h2⟩ := h; exact ⟨x, h1, h2.step hs⟩
theorem inxaSp_mono (p g n kd : Nat) (ka : Option Addr) (kc : Nat) (SK SP SM : Value) (K : List UInt8) (D : Nd) : ∀ i w w' v, Step noF w w' → inxaSp p g n kd ka kc SK SP SM K D i w v → inxaSp p g n kd ka kc SK SP SM K D i w' v := by
  intro i w w' v hs h
  match i with
  | 0 => exact h
  | 1 => exact h
  | 2 => exact h
  | 3 => exact h
  | 4 => exact h
  | 5 => exact h
  | 6 => exact h
  | 7 => exact h
  | 8 => exact inxaKeep87 p g n kd ka kc SK SP SM K D hs h
  | 9 => exact h
  | 10 => exact h
  | 11 => exact h
  | 12 => exact h
  | 13 => exact h
  | 14 => exact h
  | 15 => exact h
  | 16 => exact h
  | 17 => exact h
  | 18 => exact h
  | 19 => exact h
  | 20 => exact h
  | 21 => exact h
  | 22 => exact h
  | 23 => exact h
  | 24 => exact h
  | 25 => exact h
  | 26 => exact h
  | 27 => exact h
  | 28 => exact h
  | k + 29 => exact h

set_option maxHeartbeats 4000000 in
set_option maxRecDepth 100000 in
theorem inxa_go (p g n kd : Nat) (ka : Option Addr) (kc : Nat) (SK SP SM : Value) (K : List UInt8) (D : Nd) (w0 : World) (u00 : w0.cell? ⟨g, 0, none⟩ = some SK) (u10 : w0.cell? ⟨g, 1, none⟩ = some SP) (u20 : w0.cell? ⟨g, 2, none⟩ = some SM) (c870 : ∀ w0', Step noF w0 w0' → Calls Tryz.prog 11 #[.pointer (some ⟨p, 0, none⟩)] w0' fun e w0'' => ∃ v, e = .returned v ∧ Step noF w0' w0'' ∧ ∃ x, v = x ∧ NdV w0'' D x) (c890 : ∀ x w0', Step noF w0 w0' → NdV w0' D x → Calls Tryz.prog 10 #[x, .agg #[SK, SP, SM]] w0' fun e w0'' => e = .returned (.bool true) ∧ Step noF w0' w0'') (c940 : ∀ w0', Step noF w0 w0' → Calls Tryz.prog 12 #[.pointer (some ⟨p, 0, none⟩)] w0' fun e w0'' => e = .returned (.int .i64 n) ∧ Step noF w0' w0'') (c1020 : ∀ w0', Step noF w0 w0' → Calls Tryz.prog 13 #[.pointer (some ⟨p, 0, none⟩), .string (str K)] w0' fun e w0'' => e = .returned (.int .i64 kd) ∧ Step noF w0' w0'') (c1050 : ∀ w0', Step noF w0 w0' → Calls Tryz.prog 14 #[.agg #[SK, SP, SM], .string (str K)] w0' fun e w0'' => e = .returned (.int .i64 kd) ∧ Step noF w0' w0'')
    {Q : Exit → Act → World → Prop} (a0 : Act) (hsz : a0.tmps.size = 231) (h0 : a0.tmps.getD 0 undef = .slice ka n kc) (h4 : a0.tmps.getD 4 undef = .string (str K)) (h15 : a0.tmps.getD 15 undef = .pointer (some ⟨p, 0, none⟩)) (h16 : a0.tmps.getD 16 undef = .int .i64 0) (h17 : a0.tmps.getD 17 undef = .pointer (some ⟨g, 0, none⟩))
    (hend : ∀ (f : Nat → Value) (w : World), Step noF w0 w → inxaSp p g n kd ka kc SK SP SM K D 28 w (f 107) → Q .normal (putAll a0 (inxaDs.map some) (inxaDs.map f)) w) :
    (Code.region 9 ((Tryz.f3.body.bind (regionOps 9)).getD #[]) true).wp Tryz.prog Q a0 w0 := by
  refine wp_region_preds (inxaSp p g n kd ka kc SK SP SM K D) (inxaSp_mono p g n kd ka kc SK SP SM K D) inxaDl (by kernel_rfl) inxa_back inxa_dl inxa_nd (fun d h => by rw [hsz]; exact inxa_lt d h) ?_ ?_
  · intro i hi a w hs hfr hat
    rw [inxa_size] at hi
    have n0 := (hfr 0 (by decide)).trans h0
    have n4 := (hfr 4 (by decide)).trans h4
    have n15 := (hfr 15 (by decide)).trans h15
    have n16 := (hfr 16 (by decide)).trans h16
    have n17 := (hfr 17 (by decide)).trans h17
    have u0 : w.cell? ⟨g, 0, none⟩ = some SK := hs.after u00
    have u1 : w.cell? ⟨g, 1, none⟩ = some SP := hs.after u10
    have u2 : w.cell? ⟨g, 2, none⟩ = some SM := hs.after u20
    have c87 : ∀ w', Step noF w w' → Calls Tryz.prog 11 #[.pointer (some ⟨p, 0, none⟩)] w' fun e w'' => ∃ v, e = .returned v ∧ Step noF w' w'' ∧ ∃ x, v = x ∧ NdV w'' D x := fun w' s' => c870 w' (hs.trans s')
    have c89 : ∀ x w', Step noF w w' → NdV w' D x → Calls Tryz.prog 10 #[x, .agg #[SK, SP, SM]] w' fun e w'' => e = .returned (.bool true) ∧ Step noF w' w'' := fun x w' s' => c890 x w' (hs.trans s')
    have c94 : ∀ w', Step noF w w' → Calls Tryz.prog 12 #[.pointer (some ⟨p, 0, none⟩)] w' fun e w'' => e = .returned (.int .i64 n) ∧ Step noF w' w'' := fun w' s' => c940 w' (hs.trans s')
    have c102 : ∀ w', Step noF w w' → Calls Tryz.prog 13 #[.pointer (some ⟨p, 0, none⟩), .string (str K)] w' fun e w'' => e = .returned (.int .i64 kd) ∧ Step noF w' w'' := fun w' s' => c1020 w' (hs.trans s')
    have c105 : ∀ w', Step noF w w' → Calls Tryz.prog 14 #[.agg #[SK, SP, SM], .string (str K)] w' fun e w'' => e = .returned (.int .i64 kd) ∧ Step noF w' w'' := fun w' s' => c1050 w' (hs.trans s')
    match i, hi with
    | 0, _ =>
      refine op_runs (d := some 79) inxaOp0 (wants_none a) (v := .int .i64 0) (w' := w) ?_ ⟨79, _, rfl, rfl, Step.refl _ _, rfl⟩
      intro oo hoo
      simp only [execOp, hoo, Act.eval, n16]
      go_simp
    | 1, _ =>
      have n79 : a.tmps.getD 79 undef = _ := hat 0 (lc (by kernel_rfl)) 79 rfl
      refine op_runs (d := some 80) inxaOp1 (wants_none a) (v := .bool false) (w' := w) ?_ ⟨80, _, rfl, rfl, Step.refl _ _, rfl⟩
      intro oo hoo
      simp only [execOp, hoo, Act.eval, n79]
      go_simp
    | 2, _ =>
      have n80 : a.tmps.getD 80 undef = _ := hat 1 (lc (by kernel_rfl)) 80 rfl
      refine op_runs (d := some 81) inxaOp2 (wants_none a) (v := .bool false) (w' := w) ?_ ⟨81, _, rfl, rfl, Step.refl _ _, rfl⟩
      intro oo hoo
      simp only [execOp, hoo, Act.eval, n80]
      go_simp
    | 3, _ =>
      have n81 : a.tmps.getD 81 undef = _ := hat 2 (lc (by kernel_rfl)) 81 rfl
      refine op_runs (d := some 82) inxaOp3 (wants_some (d := 81) (b := false) (by kernel_rfl) n81) (v := .pointer (some ⟨p, 0, none⟩)) (w' := w) ?_ ⟨82, _, rfl, rfl, Step.refl _ _, rfl⟩
      intro oo hoo
      simp only [execOp, hoo, Act.eval, n15]
      go_simp
    | 4, _ =>
      have n82 : a.tmps.getD 82 undef = _ := hat 3 (lc (by kernel_rfl)) 82 rfl
      have n81 : a.tmps.getD 81 undef = _ := hat 2 (lc (by kernel_rfl)) 81 rfl
      refine op_runs (d := some 83) inxaOp4 (wants_some (d := 81) (b := false) (by kernel_rfl) n81) (v := .bool false) (w' := w) ?_ ⟨83, _, rfl, rfl, Step.refl _ _, rfl⟩
      intro oo hoo
      simp only [execOp, hoo, Act.eval, n82]
      go_simp
    | 5, _ =>
      have n81 : a.tmps.getD 81 undef = _ := hat 2 (lc (by kernel_rfl)) 81 rfl
      have n83 : a.tmps.getD 83 undef = _ := hat 4 (lc (by kernel_rfl)) 83 rfl
      refine op_runs (d := some 84) inxaOp5 (wants_none a) (v := .bool false) (w' := w) ?_ ⟨84, _, rfl, rfl, Step.refl _ _, rfl⟩
      intro oo hoo
      simp only [execOp, hoo, Act.eval, n81, n83]
      go_simp
    | 6, _ =>
      have n84 : a.tmps.getD 84 undef = _ := hat 5 (lc (by kernel_rfl)) 84 rfl
      refine op_runs (d := some 85) inxaOp6 (wants_none a) (v := .bool false) (w' := w) ?_ ⟨85, _, rfl, rfl, Step.refl _ _, rfl⟩
      intro oo hoo
      simp only [execOp, hoo, Act.eval, n84]
      go_simp
    | 7, _ =>
      have n85 : a.tmps.getD 85 undef = _ := hat 6 (lc (by kernel_rfl)) 85 rfl
      refine op_runs (d := some 86) inxaOp7 (wants_some (d := 85) (b := false) (by kernel_rfl) n85) (v := .pointer (some ⟨p, 0, none⟩)) (w' := w) ?_ ⟨86, _, rfl, rfl, Step.refl _ _, rfl⟩
      intro oo hoo
      simp only [execOp, hoo, Act.eval, n15]
      go_simp
    | 8, _ =>
      have n86 : a.tmps.getD 86 undef = _ := hat 7 (lc (by kernel_rfl)) 86 rfl
      have n85 : a.tmps.getD 85 undef = _ := hat 6 (lc (by kernel_rfl)) 85 rfl
      refine op_calls inxaOp8 (wants_some (d := 85) (b := false) (by kernel_rfl) n85) Tryz.func11 (by kernel_rfl) (by kernel_rfl) (args := #[.pointer (some ⟨p, 0, none⟩)]) (by simp [Act.eval, n86]) ((c87 w (Step.refl _ _)).mono ?_)
      rintro e w' ⟨v, rfl, s', hv⟩
      exact ⟨_, rfl, 87, _, rfl, rfl, s', hv⟩
    | 9, _ =>
      have n85 : a.tmps.getD 85 undef = _ := hat 6 (lc (by kernel_rfl)) 85 rfl
      refine op_runs (d := some 88) inxaOp9 (wants_some (d := 85) (b := false) (by kernel_rfl) n85) (v := .agg #[SK, SP, SM]) (w' := w) ?_ ⟨88, _, rfl, rfl, Step.refl _ _, rfl⟩
      intro oo hoo
      simp only [execOp, hoo, Act.eval, n17]
      go_simp
    | 10, _ =>
      have hp87 : inxaSp p g n kd ka kc SK SP SM K D 8 w (a.tmps.getD 87 undef) := hat 8 (lc (by kernel_rfl)) 87 rfl
      have hq87 := hp87
      obtain ⟨x87, n87, r87⟩ := hq87
      have n88 : a.tmps.getD 88 undef = _ := hat 9 (lc (by kernel_rfl)) 88 rfl
      have n85 : a.tmps.getD 85 undef = _ := hat 6 (lc (by kernel_rfl)) 85 rfl
      refine op_calls inxaOp10 (wants_some (d := 85) (b := false) (by kernel_rfl) n85) Tryz.func10 (by kernel_rfl) (by kernel_rfl) (args := #[x87, .agg #[SK, SP, SM]]) (by simp [Act.eval, n87, n88]) ((c89 _ w (Step.refl _ _) r87).mono ?_)
      rintro e w' ⟨rfl, s'⟩
      exact ⟨_, rfl, 89, _, rfl, rfl, s', rfl⟩
    | 11, _ =>
      have n89 : a.tmps.getD 89 undef = _ := hat 10 (lc (by kernel_rfl)) 89 rfl
      have n85 : a.tmps.getD 85 undef = _ := hat 6 (lc (by kernel_rfl)) 85 rfl
      refine op_runs (d := some 90) inxaOp11 (wants_some (d := 85) (b := false) (by kernel_rfl) n85) (v := .bool false) (w' := w) ?_ ⟨90, _, rfl, rfl, Step.refl _ _, rfl⟩
      intro oo hoo
      simp only [execOp, hoo, Act.eval, n89]
      go_simp
    | 12, _ =>
      have n85 : a.tmps.getD 85 undef = _ := hat 6 (lc (by kernel_rfl)) 85 rfl
      have n90 : a.tmps.getD 90 undef = _ := hat 11 (lc (by kernel_rfl)) 90 rfl
      refine op_runs (d := some 91) inxaOp12 (wants_none a) (v := .bool false) (w' := w) ?_ ⟨91, _, rfl, rfl, Step.refl _ _, rfl⟩
      intro oo hoo
      simp only [execOp, hoo, Act.eval, n85, n90]
      go_simp
    | 13, _ =>
      have n91 : a.tmps.getD 91 undef = _ := hat 12 (lc (by kernel_rfl)) 91 rfl
      refine op_runs (d := some 92) inxaOp13 (wants_none a) (v := .bool false) (w' := w) ?_ ⟨92, _, rfl, rfl, Step.refl _ _, rfl⟩
      intro oo hoo
      simp only [execOp, hoo, Act.eval, n91]
      go_simp
    | 14, _ =>
      have n92 : a.tmps.getD 92 undef = _ := hat 13 (lc (by kernel_rfl)) 92 rfl
      refine op_runs (d := some 93) inxaOp14 (wants_some (d := 92) (b := false) (by kernel_rfl) n92) (v := .pointer (some ⟨p, 0, none⟩)) (w' := w) ?_ ⟨93, _, rfl, rfl, Step.refl _ _, rfl⟩
      intro oo hoo
      simp only [execOp, hoo, Act.eval, n15]
      go_simp
    | 15, _ =>
      have n93 : a.tmps.getD 93 undef = _ := hat 14 (lc (by kernel_rfl)) 93 rfl
      have n92 : a.tmps.getD 92 undef = _ := hat 13 (lc (by kernel_rfl)) 92 rfl
      refine op_calls inxaOp15 (wants_some (d := 92) (b := false) (by kernel_rfl) n92) Tryz.func12 (by kernel_rfl) (by kernel_rfl) (args := #[.pointer (some ⟨p, 0, none⟩)]) (by simp [Act.eval, n93]) ((c94 w (Step.refl _ _)).mono ?_)
      rintro e w' ⟨rfl, s'⟩
      exact ⟨_, rfl, 94, _, rfl, rfl, s', rfl⟩
    | 16, _ =>
      have n92 : a.tmps.getD 92 undef = _ := hat 13 (lc (by kernel_rfl)) 92 rfl
      refine op_runs (d := some 95) inxaOp16 (wants_some (d := 92) (b := false) (by kernel_rfl) n92) (v := .slice ka n kc) (w' := w) ?_ ⟨95, _, rfl, rfl, Step.refl _ _, rfl⟩
      intro oo hoo
      simp only [execOp, hoo, Act.eval, n0]
      go_simp
    | 17, _ =>
      have n95 : a.tmps.getD 95 undef = _ := hat 16 (lc (by kernel_rfl)) 95 rfl
      have n92 : a.tmps.getD 92 undef = _ := hat 13 (lc (by kernel_rfl)) 92 rfl
      refine op_runs (d := some 96) inxaOp17 (wants_some (d := 92) (b := false) (by kernel_rfl) n92) (v := .int .i64 n) (w' := w) ?_ ⟨96, _, rfl, rfl, Step.refl _ _, rfl⟩
      intro oo hoo
      simp only [execOp, hoo, Act.eval, n95]
      go_simp
    | 18, _ =>
      have n94 : a.tmps.getD 94 undef = _ := hat 15 (lc (by kernel_rfl)) 94 rfl
      have n96 : a.tmps.getD 96 undef = _ := hat 17 (lc (by kernel_rfl)) 96 rfl
      have n92 : a.tmps.getD 92 undef = _ := hat 13 (lc (by kernel_rfl)) 92 rfl
      refine op_runs (d := some 97) inxaOp18 (wants_some (d := 92) (b := false) (by kernel_rfl) n92) (v := .bool false) (w' := w) ?_ ⟨97, _, rfl, rfl, Step.refl _ _, rfl⟩
      intro oo hoo
      simp only [execOp, hoo, Act.eval, n94, n96]
      go_simp
    | 19, _ =>
      have n92 : a.tmps.getD 92 undef = _ := hat 13 (lc (by kernel_rfl)) 92 rfl
      have n97 : a.tmps.getD 97 undef = _ := hat 18 (lc (by kernel_rfl)) 97 rfl
      refine op_runs (d := some 98) inxaOp19 (wants_none a) (v := .bool false) (w' := w) ?_ ⟨98, _, rfl, rfl, Step.refl _ _, rfl⟩
      intro oo hoo
      simp only [execOp, hoo, Act.eval, n92, n97]
      go_simp
    | 20, _ =>
      have n98 : a.tmps.getD 98 undef = _ := hat 19 (lc (by kernel_rfl)) 98 rfl
      refine op_runs (d := some 99) inxaOp20 (wants_none a) (v := .bool false) (w' := w) ?_ ⟨99, _, rfl, rfl, Step.refl _ _, rfl⟩
      intro oo hoo
      simp only [execOp, hoo, Act.eval, n98]
      go_simp
    | 21, _ =>
      have n99 : a.tmps.getD 99 undef = _ := hat 20 (lc (by kernel_rfl)) 99 rfl
      refine op_runs (d := some 100) inxaOp21 (wants_some (d := 99) (b := false) (by kernel_rfl) n99) (v := .pointer (some ⟨p, 0, none⟩)) (w' := w) ?_ ⟨100, _, rfl, rfl, Step.refl _ _, rfl⟩
      intro oo hoo
      simp only [execOp, hoo, Act.eval, n15]
      go_simp
    | 22, _ =>
      have n99 : a.tmps.getD 99 undef = _ := hat 20 (lc (by kernel_rfl)) 99 rfl
      refine op_runs (d := some 101) inxaOp22 (wants_some (d := 99) (b := false) (by kernel_rfl) n99) (v := .string (str K)) (w' := w) ?_ ⟨101, _, rfl, rfl, Step.refl _ _, rfl⟩
      intro oo hoo
      simp only [execOp, hoo, Act.eval, n4]
      go_simp
    | 23, _ =>
      have n100 : a.tmps.getD 100 undef = _ := hat 21 (lc (by kernel_rfl)) 100 rfl
      have n101 : a.tmps.getD 101 undef = _ := hat 22 (lc (by kernel_rfl)) 101 rfl
      have n99 : a.tmps.getD 99 undef = _ := hat 20 (lc (by kernel_rfl)) 99 rfl
      refine op_calls inxaOp23 (wants_some (d := 99) (b := false) (by kernel_rfl) n99) Tryz.func13 (by kernel_rfl) (by kernel_rfl) (args := #[.pointer (some ⟨p, 0, none⟩), .string (str K)]) (by simp [Act.eval, n100, n101]) ((c102 w (Step.refl _ _)).mono ?_)
      rintro e w' ⟨rfl, s'⟩
      exact ⟨_, rfl, 102, _, rfl, rfl, s', rfl⟩
    | 24, _ =>
      have n99 : a.tmps.getD 99 undef = _ := hat 20 (lc (by kernel_rfl)) 99 rfl
      refine op_runs (d := some 103) inxaOp24 (wants_some (d := 99) (b := false) (by kernel_rfl) n99) (v := .agg #[SK, SP, SM]) (w' := w) ?_ ⟨103, _, rfl, rfl, Step.refl _ _, rfl⟩
      intro oo hoo
      simp only [execOp, hoo, Act.eval, n17]
      go_simp
    | 25, _ =>
      have n99 : a.tmps.getD 99 undef = _ := hat 20 (lc (by kernel_rfl)) 99 rfl
      refine op_runs (d := some 104) inxaOp25 (wants_some (d := 99) (b := false) (by kernel_rfl) n99) (v := .string (str K)) (w' := w) ?_ ⟨104, _, rfl, rfl, Step.refl _ _, rfl⟩
      intro oo hoo
      simp only [execOp, hoo, Act.eval, n4]
      go_simp
    | 26, _ =>
      have n103 : a.tmps.getD 103 undef = _ := hat 24 (lc (by kernel_rfl)) 103 rfl
      have n104 : a.tmps.getD 104 undef = _ := hat 25 (lc (by kernel_rfl)) 104 rfl
      have n99 : a.tmps.getD 99 undef = _ := hat 20 (lc (by kernel_rfl)) 99 rfl
      refine op_calls inxaOp26 (wants_some (d := 99) (b := false) (by kernel_rfl) n99) Tryz.func14 (by kernel_rfl) (by kernel_rfl) (args := #[.agg #[SK, SP, SM], .string (str K)]) (by simp [Act.eval, n103, n104]) ((c105 w (Step.refl _ _)).mono ?_)
      rintro e w' ⟨rfl, s'⟩
      exact ⟨_, rfl, 105, _, rfl, rfl, s', rfl⟩
    | 27, _ =>
      have n102 : a.tmps.getD 102 undef = _ := hat 23 (lc (by kernel_rfl)) 102 rfl
      have n105 : a.tmps.getD 105 undef = _ := hat 26 (lc (by kernel_rfl)) 105 rfl
      have n99 : a.tmps.getD 99 undef = _ := hat 20 (lc (by kernel_rfl)) 99 rfl
      refine op_runs (d := some 106) inxaOp27 (wants_some (d := 99) (b := false) (by kernel_rfl) n99) (v := .bool false) (w' := w) ?_ ⟨106, _, rfl, rfl, Step.refl _ _, rfl⟩
      intro oo hoo
      simp only [execOp, hoo, Act.eval, n102, n105]
      go_simp
    | 28, _ =>
      have n99 : a.tmps.getD 99 undef = _ := hat 20 (lc (by kernel_rfl)) 99 rfl
      have n106 : a.tmps.getD 106 undef = _ := hat 27 (lc (by kernel_rfl)) 106 rfl
      refine op_runs (d := some 107) inxaOp28 (wants_none a) (v := .bool false) (w' := w) ?_ ⟨107, _, rfl, rfl, Step.refl _ _, rfl⟩
      intro oo hoo
      simp only [execOp, hoo, Act.eval, n99, n106]
      go_simp
    | k + 29, h => exact absurd h (by omega)
  · intro a w hs hdf hs2 hfr hat
    rw [inxa_size] at hat
    have e := act_vals (a := a) (a0 := a0) inxaDs (by decide) (fun d hd => by rw [hsz]; exact inxa_lt d (by revert hd; revert d; decide)) hdf hs2 (fun k hk => hfr k (fun hk2 => hk (by revert hk2; simp [inxaDl, inxaDs])))
    rw [e]
    exact hend (fun d => a.tmps.getD d undef) w hs (hat 28 (by omega) 107 rfl)
set_option maxRecDepth 100000 in
theorem inxa_lit (f : Nat → Value) (D : List Deferred) (x0 x1 x2 x3 x4 x5 x6 x7 x8 x9 x10 x11 x12 x13 x14 x15 x16 x17 x18 x19 x20 x21 x22 x23 x24 x25 x26 x27 x28 x29 x30 x31 x32 x33 x34 x35 x36 x37 x38 x39 x40 x41 x42 x43 x44 x45 x46 x47 x48 x49 x50 x51 x52 x53 x54 x55 x56 x57 x58 x59 x60 x61 x62 x63 x64 x65 x66 x67 x68 x69 x70 x71 x72 x73 x74 x75 x76 x77 x78 x79 x80 x81 x82 x83 x84 x85 x86 x87 x88 x89 x90 x91 x92 x93 x94 x95 x96 x97 x98 x99 x100 x101 x102 x103 x104 x105 x106 x107 x108 x109 x110 x111 x112 x113 x114 x115 x116 x117 x118 x119 x120 x121 x122 x123 x124 x125 x126 x127 x128 x129 x130 x131 x132 x133 x134 x135 x136 x137 x138 x139 x140 x141 x142 x143 x144 x145 x146 x147 x148 x149 x150 x151 x152 x153 x154 x155 x156 x157 x158 x159 x160 x161 x162 x163 x164 x165 x166 x167 x168 x169 x170 x171 x172 x173 x174 x175 x176 x177 x178 x179 x180 x181 x182 x183 x184 x185 x186 x187 x188 x189 x190 x191 x192 x193 x194 x195 x196 x197 x198 x199 x200 x201 x202 x203 x204 x205 x206 x207 x208 x209 x210 x211 x212 x213 x214 x215 x216 x217 x218 x219 x220 x221 x222 x223 x224 x225 x226 x227 x228 x229 x230 : Value) : putAll { tmps := #[x0, x1, x2, x3, x4, x5, x6, x7, x8, x9, x10, x11, x12, x13, x14, x15, x16, x17, x18, x19, x20, x21, x22, x23, x24, x25, x26, x27, x28, x29, x30, x31, x32, x33, x34, x35, x36, x37, x38, x39, x40, x41, x42, x43, x44, x45, x46, x47, x48, x49, x50, x51, x52, x53, x54, x55, x56, x57, x58, x59, x60, x61, x62, x63, x64, x65, x66, x67, x68, x69, x70, x71, x72, x73, x74, x75, x76, x77, x78, x79, x80, x81, x82, x83, x84, x85, x86, x87, x88, x89, x90, x91, x92, x93, x94, x95, x96, x97, x98, x99, x100, x101, x102, x103, x104, x105, x106, x107, x108, x109, x110, x111, x112, x113, x114, x115, x116, x117, x118, x119, x120, x121, x122, x123, x124, x125, x126, x127, x128, x129, x130, x131, x132, x133, x134, x135, x136, x137, x138, x139, x140, x141, x142, x143, x144, x145, x146, x147, x148, x149, x150, x151, x152, x153, x154, x155, x156, x157, x158, x159, x160, x161, x162, x163, x164, x165, x166, x167, x168, x169, x170, x171, x172, x173, x174, x175, x176, x177, x178, x179, x180, x181, x182, x183, x184, x185, x186, x187, x188, x189, x190, x191, x192, x193, x194, x195, x196, x197, x198, x199, x200, x201, x202, x203, x204, x205, x206, x207, x208, x209, x210, x211, x212, x213, x214, x215, x216, x217, x218, x219, x220, x221, x222, x223, x224, x225, x226, x227, x228, x229, x230], defers := D } (inxaDs.map some) (inxaDs.map f) = { tmps := #[x0, x1, x2, x3, x4, x5, x6, x7, x8, x9, x10, x11, x12, x13, x14, x15, x16, x17, x18, x19, x20, x21, x22, x23, x24, x25, x26, x27, x28, x29, x30, x31, x32, x33, x34, x35, x36, x37, x38, x39, x40, x41, x42, x43, x44, x45, x46, x47, x48, x49, x50, x51, x52, x53, x54, x55, x56, x57, x58, x59, x60, x61, x62, x63, x64, x65, x66, x67, x68, x69, x70, x71, x72, x73, x74, x75, x76, x77, x78, f 79, f 80, f 81, f 82, f 83, f 84, f 85, f 86, f 87, f 88, f 89, f 90, f 91, f 92, f 93, f 94, f 95, f 96, f 97, f 98, f 99, f 100, f 101, f 102, f 103, f 104, f 105, f 106, f 107, x108, x109, x110, x111, x112, x113, x114, x115, x116, x117, x118, x119, x120, x121, x122, x123, x124, x125, x126, x127, x128, x129, x130, x131, x132, x133, x134, x135, x136, x137, x138, x139, x140, x141, x142, x143, x144, x145, x146, x147, x148, x149, x150, x151, x152, x153, x154, x155, x156, x157, x158, x159, x160, x161, x162, x163, x164, x165, x166, x167, x168, x169, x170, x171, x172, x173, x174, x175, x176, x177, x178, x179, x180, x181, x182, x183, x184, x185, x186, x187, x188, x189, x190, x191, x192, x193, x194, x195, x196, x197, x198, x199, x200, x201, x202, x203, x204, x205, x206, x207, x208, x209, x210, x211, x212, x213, x214, x215, x216, x217, x218, x219, x220, x221, x222, x223, x224, x225, x226, x227, x228, x229, x230], defers := D } := by kernel_rfl
end Go.Proofs.YtgmgoaencaldmaaGreat
namespace Go.Proofs.YtgmgoaencaldmaaGreat
open Go.RowKit
set_option linter.unusedVariables false
set_option linter.unusedSimpArgs false


def inxbDs : List Nat := [164, 165, 166, 167, 168, 169, 170, 171, 172, 173, 174, 175, 176, 177, 178, 179, 180, 181, 182]
def inxbDl : List (Option Nat) := [some 164, some 165, some 166, some 167, some 168, some 169, some 170, some 171, some 172, some 173, some 174, some 175, some 176, some 177, some 178, some 179, some 180, some 181, some 182]
theorem inxb_dl : ((Tryz.f3.body.bind (regionOps 20)).getD #[]).toList.map (·.dst) = inxbDl := by kernel_rfl
theorem inxb_back : backB ((Tryz.f3.body.bind (regionOps 20)).getD #[]) = true := by kernel_rfl
theorem inxb_size : ((Tryz.f3.body.bind (regionOps 20)).getD #[]).size = 19 := by kernel_rfl
theorem inxb_nd : inxbDl.Pairwise (fun x y => x = none ∨ x ≠ y) := by decide
theorem inxb_lt (d : Nat) (h : some d ∈ inxbDl) : d < 231 := by
  have hh : inxbDl.all (fun o => o.all (fun d => decide (d < 231))) = true := by decide
  simpa using List.all_eq_true.1 hh _ h
theorem inxbOp0 : opIs ((Tryz.f3.body.bind (regionOps 20)).getD #[]) 0 (some 164) (Op.move (Operand.tmp 23)) (none) := opIs_of (by kernel_rfl)
theorem inxbOp1 : opIs ((Tryz.f3.body.bind (regionOps 20)).getD #[]) 1 (some 165) (Op.binOp BinOp.neq 30 (Operand.tmp 164) (Operand.const (Value.int IntKind.i64 0)) 30) (none) := opIs_of (by kernel_rfl)
theorem inxbOp2 : opIs ((Tryz.f3.body.bind (regionOps 20)).getD #[]) 2 (some 166) (Op.move (Operand.tmp 165)) (none) := opIs_of (by kernel_rfl)
theorem inxbOp3 : opIs ((Tryz.f3.body.bind (regionOps 20)).getD #[]) 3 (some 167) (Op.move (Operand.tmp 21)) (some (2, false)) := opIs_of (by kernel_rfl)
theorem inxbOp4 : opIs ((Tryz.f3.body.bind (regionOps 20)).getD #[]) 4 (some 168) (Op.binOp BinOp.eql 29 (Operand.tmp 167) (Operand.const (Value.pointer none)) 29) (some (2, false)) := opIs_of (by kernel_rfl)
theorem inxbOp5 : opIs ((Tryz.f3.body.bind (regionOps 20)).getD #[]) 5 (some 169) (Op.pick (Operand.tmp 166) (Operand.const (Value.bool true)) (Operand.tmp 168)) (none) := opIs_of (by kernel_rfl)
theorem inxbOp6 : opIs ((Tryz.f3.body.bind (regionOps 20)).getD #[]) 6 (some 170) (Op.move (Operand.tmp 169)) (none) := opIs_of (by kernel_rfl)
theorem inxbOp7 : opIs ((Tryz.f3.body.bind (regionOps 20)).getD #[]) 7 (some 171) (Op.move (Operand.tmp 21)) (some (6, false)) := opIs_of (by kernel_rfl)
theorem inxbOp8 : opIs ((Tryz.f3.body.bind (regionOps 20)).getD #[]) 8 (some 172) (Op.call { callee := Callee.value (Operand.func 11), args := #[Operand.tmp 171], argTypes := #[29] }) (some (6, false)) := opIs_of (by kernel_rfl)
theorem inxbOp9 : opIs ((Tryz.f3.body.bind (regionOps 20)).getD #[]) 9 (some 173) (Op.load 34 (Operand.tmp 24)) (some (6, false)) := opIs_of (by kernel_rfl)
theorem inxbOp10 : opIs ((Tryz.f3.body.bind (regionOps 20)).getD #[]) 10 (some 174) (Op.call { callee := Callee.value (Operand.func 10), args := #[Operand.tmp 172, Operand.tmp 173], argTypes := #[34, 34] }) (some (6, false)) := opIs_of (by kernel_rfl)
theorem inxbOp11 : opIs ((Tryz.f3.body.bind (regionOps 20)).getD #[]) 11 (some 175) (Op.unOp UnOp.not 4 (Operand.tmp 174)) (some (6, false)) := opIs_of (by kernel_rfl)
theorem inxbOp12 : opIs ((Tryz.f3.body.bind (regionOps 20)).getD #[]) 12 (some 176) (Op.pick (Operand.tmp 170) (Operand.const (Value.bool true)) (Operand.tmp 175)) (none) := opIs_of (by kernel_rfl)
theorem inxbOp13 : opIs ((Tryz.f3.body.bind (regionOps 20)).getD #[]) 13 (some 177) (Op.move (Operand.tmp 176)) (none) := opIs_of (by kernel_rfl)
theorem inxbOp14 : opIs ((Tryz.f3.body.bind (regionOps 20)).getD #[]) 14 (some 178) (Op.move (Operand.tmp 22)) (some (13, false)) := opIs_of (by kernel_rfl)
theorem inxbOp15 : opIs ((Tryz.f3.body.bind (regionOps 20)).getD #[]) 15 (some 179) (Op.move (Operand.tmp 25)) (some (13, false)) := opIs_of (by kernel_rfl)
theorem inxbOp16 : opIs ((Tryz.f3.body.bind (regionOps 20)).getD #[]) 16 (some 180) (Op.call { callee := Callee.value (Operand.func 19), args := #[Operand.tmp 178, Operand.tmp 179], argTypes := #[24, 24] }) (some (13, false)) := opIs_of (by kernel_rfl)
theorem inxbOp17 : opIs ((Tryz.f3.body.bind (regionOps 20)).getD #[]) 17 (some 181) (Op.unOp UnOp.not 4 (Operand.tmp 180)) (some (13, false)) := opIs_of (by kernel_rfl)
theorem inxbOp18 : opIs ((Tryz.f3.body.bind (regionOps 20)).getD #[]) 18 (some 182) (Op.pick (Operand.tmp 177) (Operand.const (Value.bool true)) (Operand.tmp 181)) (none) := opIs_of (by kernel_rfl)
/-- What is said of each slot. -/
def inxbSp (p g : Nat) (SK SP SM S1 S2 : Value) (D : Nd) (i : Nat) (w : World) (v : Value) : Prop := match i with
  | 0 => v = .int .i64 0
  | 1 => v = .bool false
  | 2 => v = .bool false
  | 3 => v = .pointer (some ⟨p, 0, none⟩)
  | 4 => v = .bool false
  | 5 => v = .bool false
  | 6 => v = .bool false
  | 7 => v = .pointer (some ⟨p, 0, none⟩)
  | 8 => ∃ x, v = x ∧ NdV w D x
  | 9 => v = .agg #[SK, SP, SM]
  | 10 => v = .bool true
  | 11 => v = .bool false
  | 12 => v = .bool false
  | 13 => v = .bool false
  | 14 => v = S1
  | 15 => v = S2
  | 16 => v = .bool true
  | 17 => v = .bool false
  | 18 => v = .bool false
  | _ => True
theorem inxbKeep172 (p g : Nat) (SK SP SM S1 S2 : Value) (D : Nd) {w w' : World} {v : Value} (hs : Step noF w w') (h : ∃ x, v = x ∧ NdV w D x) : ∃ x, v = x ∧ NdV w' D x := by
  obtain ⟨x, h1, h2⟩ := h; exact ⟨x, h1, h2.step hs⟩
theorem inxbSp_mono (p g : Nat) (SK SP SM S1 S2 : Value) (D : Nd) : ∀ i w w' v, Step noF w w' → inxbSp p g SK SP SM S1 S2 D i w v → inxbSp p g SK SP SM S1 S2 D i w' v := by
  intro i w w' v hs h
  match i with
  | 0 => exact h
  | 1 => exact h
  | 2 => exact h
  | 3 => exact h
  | 4 => exact h
  | 5 => exact h
  | 6 => exact h
  | 7 => exact h
  | 8 => exact inxbKeep172 p g SK SP SM S1 S2 D hs h
  | 9 => exact h
  | 10 => exact h
  | 11 => exact h
  | 12 => exact h
  | 13 => exact h
  | 14 => exact h
  | 15 => exact h
  | 16 => exact h
  | 17 => exact h
  | 18 => exact h
  | k + 19 => exact h

set_option maxHeartbeats 4000000 in
set_option maxRecDepth 100000 in
theorem inxb_go (p g : Nat) (SK SP SM S1 S2 : Value) (D : Nd) (w0 : World) (u00 : w0.cell? ⟨g, 0, none⟩ = some SK) (u10 : w0.cell? ⟨g, 1, none⟩ = some SP) (u20 : w0.cell? ⟨g, 2, none⟩ = some SM) (c1720 : ∀ w0', Step noF w0 w0' → Calls Tryz.prog 11 #[.pointer (some ⟨p, 0, none⟩)] w0' fun e w0'' => ∃ v, e = .returned v ∧ Step noF w0' w0'' ∧ ∃ x, v = x ∧ NdV w0'' D x) (c1740 : ∀ x w0', Step noF w0 w0' → NdV w0' D x → Calls Tryz.prog 10 #[x, .agg #[SK, SP, SM]] w0' fun e w0'' => e = .returned (.bool true) ∧ Step noF w0' w0'') (c1800 : ∀ w0', Step noF w0 w0' → Calls Tryz.prog 19 #[S1, S2] w0' fun e w0'' => e = .returned (.bool true) ∧ Step noF w0' w0'')
    {Q : Exit → Act → World → Prop} (a0 : Act) (hsz : a0.tmps.size = 231) (h21 : a0.tmps.getD 21 undef = .pointer (some ⟨p, 0, none⟩)) (h22 : a0.tmps.getD 22 undef = S1) (h23 : a0.tmps.getD 23 undef = .int .i64 0) (h24 : a0.tmps.getD 24 undef = .pointer (some ⟨g, 0, none⟩)) (h25 : a0.tmps.getD 25 undef = S2)
    (hend : ∀ (f : Nat → Value) (w : World), Step noF w0 w → inxbSp p g SK SP SM S1 S2 D 18 w (f 182) → Q .normal (putAll a0 (inxbDs.map some) (inxbDs.map f)) w) :
    (Code.region 20 ((Tryz.f3.body.bind (regionOps 20)).getD #[]) true).wp Tryz.prog Q a0 w0 := by
  refine wp_region_preds (inxbSp p g SK SP SM S1 S2 D) (inxbSp_mono p g SK SP SM S1 S2 D) inxbDl (by kernel_rfl) inxb_back inxb_dl inxb_nd (fun d h => by rw [hsz]; exact inxb_lt d h) ?_ ?_
  · intro i hi a w hs hfr hat
    rw [inxb_size] at hi
    have n21 := (hfr 21 (by decide)).trans h21
    have n22 := (hfr 22 (by decide)).trans h22
    have n23 := (hfr 23 (by decide)).trans h23
    have n24 := (hfr 24 (by decide)).trans h24
    have n25 := (hfr 25 (by decide)).trans h25
    have u0 : w.cell? ⟨g, 0, none⟩ = some SK := hs.after u00
    have u1 : w.cell? ⟨g, 1, none⟩ = some SP := hs.after u10
    have u2 : w.cell? ⟨g, 2, none⟩ = some SM := hs.after u20
    have c172 : ∀ w', Step noF w w' → Calls Tryz.prog 11 #[.pointer (some ⟨p, 0, none⟩)] w' fun e w'' => ∃ v, e = .returned v ∧ Step noF w' w'' ∧ ∃ x, v = x ∧ NdV w'' D x := fun w' s' => c1720 w' (hs.trans s')
    have c174 : ∀ x w', Step noF w w' → NdV w' D x → Calls Tryz.prog 10 #[x, .agg #[SK, SP, SM]] w' fun e w'' => e = .returned (.bool true) ∧ Step noF w' w'' := fun x w' s' => c1740 x w' (hs.trans s')
    have c180 : ∀ w', Step noF w w' → Calls Tryz.prog 19 #[S1, S2] w' fun e w'' => e = .returned (.bool true) ∧ Step noF w' w'' := fun w' s' => c1800 w' (hs.trans s')
    match i, hi with
    | 0, _ =>
      refine op_runs (d := some 164) inxbOp0 (wants_none a) (v := .int .i64 0) (w' := w) ?_ ⟨164, _, rfl, rfl, Step.refl _ _, rfl⟩
      intro oo hoo
      simp only [execOp, hoo, Act.eval, n23]
      go_simp
    | 1, _ =>
      have n164 : a.tmps.getD 164 undef = _ := hat 0 (lc (by kernel_rfl)) 164 rfl
      refine op_runs (d := some 165) inxbOp1 (wants_none a) (v := .bool false) (w' := w) ?_ ⟨165, _, rfl, rfl, Step.refl _ _, rfl⟩
      intro oo hoo
      simp only [execOp, hoo, Act.eval, n164]
      go_simp
    | 2, _ =>
      have n165 : a.tmps.getD 165 undef = _ := hat 1 (lc (by kernel_rfl)) 165 rfl
      refine op_runs (d := some 166) inxbOp2 (wants_none a) (v := .bool false) (w' := w) ?_ ⟨166, _, rfl, rfl, Step.refl _ _, rfl⟩
      intro oo hoo
      simp only [execOp, hoo, Act.eval, n165]
      go_simp
    | 3, _ =>
      have n166 : a.tmps.getD 166 undef = _ := hat 2 (lc (by kernel_rfl)) 166 rfl
      refine op_runs (d := some 167) inxbOp3 (wants_some (d := 166) (b := false) (by kernel_rfl) n166) (v := .pointer (some ⟨p, 0, none⟩)) (w' := w) ?_ ⟨167, _, rfl, rfl, Step.refl _ _, rfl⟩
      intro oo hoo
      simp only [execOp, hoo, Act.eval, n21]
      go_simp
    | 4, _ =>
      have n167 : a.tmps.getD 167 undef = _ := hat 3 (lc (by kernel_rfl)) 167 rfl
      have n166 : a.tmps.getD 166 undef = _ := hat 2 (lc (by kernel_rfl)) 166 rfl
      refine op_runs (d := some 168) inxbOp4 (wants_some (d := 166) (b := false) (by kernel_rfl) n166) (v := .bool false) (w' := w) ?_ ⟨168, _, rfl, rfl, Step.refl _ _, rfl⟩
      intro oo hoo
      simp only [execOp, hoo, Act.eval, n167]
      go_simp
    | 5, _ =>
      have n166 : a.tmps.getD 166 undef = _ := hat 2 (lc (by kernel_rfl)) 166 rfl
      have n168 : a.tmps.getD 168 undef = _ := hat 4 (lc (by kernel_rfl)) 168 rfl
      refine op_runs (d := some 169) inxbOp5 (wants_none a) (v := .bool false) (w' := w) ?_ ⟨169, _, rfl, rfl, Step.refl _ _, rfl⟩
      intro oo hoo
      simp only [execOp, hoo, Act.eval, n166, n168]
      go_simp
    | 6, _ =>
      have n169 : a.tmps.getD 169 undef = _ := hat 5 (lc (by kernel_rfl)) 169 rfl
      refine op_runs (d := some 170) inxbOp6 (wants_none a) (v := .bool false) (w' := w) ?_ ⟨170, _, rfl, rfl, Step.refl _ _, rfl⟩
      intro oo hoo
      simp only [execOp, hoo, Act.eval, n169]
      go_simp
    | 7, _ =>
      have n170 : a.tmps.getD 170 undef = _ := hat 6 (lc (by kernel_rfl)) 170 rfl
      refine op_runs (d := some 171) inxbOp7 (wants_some (d := 170) (b := false) (by kernel_rfl) n170) (v := .pointer (some ⟨p, 0, none⟩)) (w' := w) ?_ ⟨171, _, rfl, rfl, Step.refl _ _, rfl⟩
      intro oo hoo
      simp only [execOp, hoo, Act.eval, n21]
      go_simp
    | 8, _ =>
      have n171 : a.tmps.getD 171 undef = _ := hat 7 (lc (by kernel_rfl)) 171 rfl
      have n170 : a.tmps.getD 170 undef = _ := hat 6 (lc (by kernel_rfl)) 170 rfl
      refine op_calls inxbOp8 (wants_some (d := 170) (b := false) (by kernel_rfl) n170) Tryz.func11 (by kernel_rfl) (by kernel_rfl) (args := #[.pointer (some ⟨p, 0, none⟩)]) (by simp [Act.eval, n171]) ((c172 w (Step.refl _ _)).mono ?_)
      rintro e w' ⟨v, rfl, s', hv⟩
      exact ⟨_, rfl, 172, _, rfl, rfl, s', hv⟩
    | 9, _ =>
      have n170 : a.tmps.getD 170 undef = _ := hat 6 (lc (by kernel_rfl)) 170 rfl
      refine op_runs (d := some 173) inxbOp9 (wants_some (d := 170) (b := false) (by kernel_rfl) n170) (v := .agg #[SK, SP, SM]) (w' := w) ?_ ⟨173, _, rfl, rfl, Step.refl _ _, rfl⟩
      intro oo hoo
      simp only [execOp, hoo, Act.eval, n24]
      go_simp
    | 10, _ =>
      have hp172 : inxbSp p g SK SP SM S1 S2 D 8 w (a.tmps.getD 172 undef) := hat 8 (lc (by kernel_rfl)) 172 rfl
      have hq172 := hp172
      obtain ⟨x172, n172, r172⟩ := hq172
      have n173 : a.tmps.getD 173 undef = _ := hat 9 (lc (by kernel_rfl)) 173 rfl
      have n170 : a.tmps.getD 170 undef = _ := hat 6 (lc (by kernel_rfl)) 170 rfl
      refine op_calls inxbOp10 (wants_some (d := 170) (b := false) (by kernel_rfl) n170) Tryz.func10 (by kernel_rfl) (by kernel_rfl) (args := #[x172, .agg #[SK, SP, SM]]) (by simp [Act.eval, n172, n173]) ((c174 _ w (Step.refl _ _) r172).mono ?_)
      rintro e w' ⟨rfl, s'⟩
      exact ⟨_, rfl, 174, _, rfl, rfl, s', rfl⟩
    | 11, _ =>
      have n174 : a.tmps.getD 174 undef = _ := hat 10 (lc (by kernel_rfl)) 174 rfl
      have n170 : a.tmps.getD 170 undef = _ := hat 6 (lc (by kernel_rfl)) 170 rfl
      refine op_runs (d := some 175) inxbOp11 (wants_some (d := 170) (b := false) (by kernel_rfl) n170) (v := .bool false) (w' := w) ?_ ⟨175, _, rfl, rfl, Step.refl _ _, rfl⟩
      intro oo hoo
      simp only [execOp, hoo, Act.eval, n174]
      go_simp
    | 12, _ =>
      have n170 : a.tmps.getD 170 undef = _ := hat 6 (lc (by kernel_rfl)) 170 rfl
      have n175 : a.tmps.getD 175 undef = _ := hat 11 (lc (by kernel_rfl)) 175 rfl
      refine op_runs (d := some 176) inxbOp12 (wants_none a) (v := .bool false) (w' := w) ?_ ⟨176, _, rfl, rfl, Step.refl _ _, rfl⟩
      intro oo hoo
      simp only [execOp, hoo, Act.eval, n170, n175]
      go_simp
    | 13, _ =>
      have n176 : a.tmps.getD 176 undef = _ := hat 12 (lc (by kernel_rfl)) 176 rfl
      refine op_runs (d := some 177) inxbOp13 (wants_none a) (v := .bool false) (w' := w) ?_ ⟨177, _, rfl, rfl, Step.refl _ _, rfl⟩
      intro oo hoo
      simp only [execOp, hoo, Act.eval, n176]
      go_simp
    | 14, _ =>
      have n177 : a.tmps.getD 177 undef = _ := hat 13 (lc (by kernel_rfl)) 177 rfl
      refine op_runs (d := some 178) inxbOp14 (wants_some (d := 177) (b := false) (by kernel_rfl) n177) (v := S1) (w' := w) ?_ ⟨178, _, rfl, rfl, Step.refl _ _, rfl⟩
      intro oo hoo
      simp only [execOp, hoo, Act.eval, n22]
      go_simp
    | 15, _ =>
      have n177 : a.tmps.getD 177 undef = _ := hat 13 (lc (by kernel_rfl)) 177 rfl
      refine op_runs (d := some 179) inxbOp15 (wants_some (d := 177) (b := false) (by kernel_rfl) n177) (v := S2) (w' := w) ?_ ⟨179, _, rfl, rfl, Step.refl _ _, rfl⟩
      intro oo hoo
      simp only [execOp, hoo, Act.eval, n25]
      go_simp
    | 16, _ =>
      have n178 : a.tmps.getD 178 undef = _ := hat 14 (lc (by kernel_rfl)) 178 rfl
      have n179 : a.tmps.getD 179 undef = _ := hat 15 (lc (by kernel_rfl)) 179 rfl
      have n177 : a.tmps.getD 177 undef = _ := hat 13 (lc (by kernel_rfl)) 177 rfl
      refine op_calls inxbOp16 (wants_some (d := 177) (b := false) (by kernel_rfl) n177) Tryz.func19 (by kernel_rfl) (by kernel_rfl) (args := #[S1, S2]) (by simp [Act.eval, n178, n179]) ((c180 w (Step.refl _ _)).mono ?_)
      rintro e w' ⟨rfl, s'⟩
      exact ⟨_, rfl, 180, _, rfl, rfl, s', rfl⟩
    | 17, _ =>
      have n180 : a.tmps.getD 180 undef = _ := hat 16 (lc (by kernel_rfl)) 180 rfl
      have n177 : a.tmps.getD 177 undef = _ := hat 13 (lc (by kernel_rfl)) 177 rfl
      refine op_runs (d := some 181) inxbOp17 (wants_some (d := 177) (b := false) (by kernel_rfl) n177) (v := .bool false) (w' := w) ?_ ⟨181, _, rfl, rfl, Step.refl _ _, rfl⟩
      intro oo hoo
      simp only [execOp, hoo, Act.eval, n180]
      go_simp
    | 18, _ =>
      have n177 : a.tmps.getD 177 undef = _ := hat 13 (lc (by kernel_rfl)) 177 rfl
      have n181 : a.tmps.getD 181 undef = _ := hat 17 (lc (by kernel_rfl)) 181 rfl
      refine op_runs (d := some 182) inxbOp18 (wants_none a) (v := .bool false) (w' := w) ?_ ⟨182, _, rfl, rfl, Step.refl _ _, rfl⟩
      intro oo hoo
      simp only [execOp, hoo, Act.eval, n177, n181]
      go_simp
    | k + 19, h => exact absurd h (by omega)
  · intro a w hs hdf hs2 hfr hat
    rw [inxb_size] at hat
    have e := act_vals (a := a) (a0 := a0) inxbDs (by decide) (fun d hd => by rw [hsz]; exact inxb_lt d (by revert hd; revert d; decide)) hdf hs2 (fun k hk => hfr k (fun hk2 => hk (by revert hk2; simp [inxbDl, inxbDs])))
    rw [e]
    exact hend (fun d => a.tmps.getD d undef) w hs (hat 18 (by omega) 182 rfl)
set_option maxRecDepth 100000 in
theorem inxb_lit (f : Nat → Value) (D : List Deferred) (x0 x1 x2 x3 x4 x5 x6 x7 x8 x9 x10 x11 x12 x13 x14 x15 x16 x17 x18 x19 x20 x21 x22 x23 x24 x25 x26 x27 x28 x29 x30 x31 x32 x33 x34 x35 x36 x37 x38 x39 x40 x41 x42 x43 x44 x45 x46 x47 x48 x49 x50 x51 x52 x53 x54 x55 x56 x57 x58 x59 x60 x61 x62 x63 x64 x65 x66 x67 x68 x69 x70 x71 x72 x73 x74 x75 x76 x77 x78 x79 x80 x81 x82 x83 x84 x85 x86 x87 x88 x89 x90 x91 x92 x93 x94 x95 x96 x97 x98 x99 x100 x101 x102 x103 x104 x105 x106 x107 x108 x109 x110 x111 x112 x113 x114 x115 x116 x117 x118 x119 x120 x121 x122 x123 x124 x125 x126 x127 x128 x129 x130 x131 x132 x133 x134 x135 x136 x137 x138 x139 x140 x141 x142 x143 x144 x145 x146 x147 x148 x149 x150 x151 x152 x153 x154 x155 x156 x157 x158 x159 x160 x161 x162 x163 x164 x165 x166 x167 x168 x169 x170 x171 x172 x173 x174 x175 x176 x177 x178 x179 x180 x181 x182 x183 x184 x185 x186 x187 x188 x189 x190 x191 x192 x193 x194 x195 x196 x197 x198 x199 x200 x201 x202 x203 x204 x205 x206 x207 x208 x209 x210 x211 x212 x213 x214 x215 x216 x217 x218 x219 x220 x221 x222 x223 x224 x225 x226 x227 x228 x229 x230 : Value) : putAll { tmps := #[x0, x1, x2, x3, x4, x5, x6, x7, x8, x9, x10, x11, x12, x13, x14, x15, x16, x17, x18, x19, x20, x21, x22, x23, x24, x25, x26, x27, x28, x29, x30, x31, x32, x33, x34, x35, x36, x37, x38, x39, x40, x41, x42, x43, x44, x45, x46, x47, x48, x49, x50, x51, x52, x53, x54, x55, x56, x57, x58, x59, x60, x61, x62, x63, x64, x65, x66, x67, x68, x69, x70, x71, x72, x73, x74, x75, x76, x77, x78, x79, x80, x81, x82, x83, x84, x85, x86, x87, x88, x89, x90, x91, x92, x93, x94, x95, x96, x97, x98, x99, x100, x101, x102, x103, x104, x105, x106, x107, x108, x109, x110, x111, x112, x113, x114, x115, x116, x117, x118, x119, x120, x121, x122, x123, x124, x125, x126, x127, x128, x129, x130, x131, x132, x133, x134, x135, x136, x137, x138, x139, x140, x141, x142, x143, x144, x145, x146, x147, x148, x149, x150, x151, x152, x153, x154, x155, x156, x157, x158, x159, x160, x161, x162, x163, x164, x165, x166, x167, x168, x169, x170, x171, x172, x173, x174, x175, x176, x177, x178, x179, x180, x181, x182, x183, x184, x185, x186, x187, x188, x189, x190, x191, x192, x193, x194, x195, x196, x197, x198, x199, x200, x201, x202, x203, x204, x205, x206, x207, x208, x209, x210, x211, x212, x213, x214, x215, x216, x217, x218, x219, x220, x221, x222, x223, x224, x225, x226, x227, x228, x229, x230], defers := D } (inxbDs.map some) (inxbDs.map f) = { tmps := #[x0, x1, x2, x3, x4, x5, x6, x7, x8, x9, x10, x11, x12, x13, x14, x15, x16, x17, x18, x19, x20, x21, x22, x23, x24, x25, x26, x27, x28, x29, x30, x31, x32, x33, x34, x35, x36, x37, x38, x39, x40, x41, x42, x43, x44, x45, x46, x47, x48, x49, x50, x51, x52, x53, x54, x55, x56, x57, x58, x59, x60, x61, x62, x63, x64, x65, x66, x67, x68, x69, x70, x71, x72, x73, x74, x75, x76, x77, x78, x79, x80, x81, x82, x83, x84, x85, x86, x87, x88, x89, x90, x91, x92, x93, x94, x95, x96, x97, x98, x99, x100, x101, x102, x103, x104, x105, x106, x107, x108, x109, x110, x111, x112, x113, x114, x115, x116, x117, x118, x119, x120, x121, x122, x123, x124, x125, x126, x127, x128, x129, x130, x131, x132, x133, x134, x135, x136, x137, x138, x139, x140, x141, x142, x143, x144, x145, x146, x147, x148, x149, x150, x151, x152, x153, x154, x155, x156, x157, x158, x159, x160, x161, x162, x163, f 164, f 165, f 166, f 167, f 168, f 169, f 170, f 171, f 172, f 173, f 174, f 175, f 176, f 177, f 178, f 179, f 180, f 181, f 182, x183, x184, x185, x186, x187, x188, x189, x190, x191, x192, x193, x194, x195, x196, x197, x198, x199, x200, x201, x202, x203, x204, x205, x206, x207, x208, x209, x210, x211, x212, x213, x214, x215, x216, x217, x218, x219, x220, x221, x222, x223, x224, x225, x226, x227, x228, x229, x230], defers := D } := by kernel_rfl
end Go.Proofs.YtgmgoaencaldmaaGreat
namespace Go.Proofs.YtgmgoaencaldmaaGreat
open Go.RowKit
set_option linter.unusedVariables false
set_option linter.unusedSimpArgs false


def inxcDs : List Nat := [198, 199, 200, 201, 202, 203, 204, 205, 206, 207, 208, 209, 14]
def inxcDl : List (Option Nat) := [some 198, some 199, some 200, some 201, some 202, some 203, some 204, some 205, some 206, some 207, some 208, some 209, some 14]
theorem inxc_dl : ((Tryz.f3.body.bind (regionOps 25)).getD #[]).toList.map (·.dst) = inxcDl := by kernel_rfl
theorem inxc_back : backB ((Tryz.f3.body.bind (regionOps 25)).getD #[]) = true := by kernel_rfl
theorem inxc_size : ((Tryz.f3.body.bind (regionOps 25)).getD #[]).size = 13 := by kernel_rfl
theorem inxc_nd : inxcDl.Pairwise (fun x y => x = none ∨ x ≠ y) := by decide
theorem inxc_lt (d : Nat) (h : some d ∈ inxcDl) : d < 231 := by
  have hh : inxcDl.all (fun o => o.all (fun d => decide (d < 231))) = true := by decide
  simpa using List.all_eq_true.1 hh _ h
theorem inxcOp0 : opIs ((Tryz.f3.body.bind (regionOps 25)).getD #[]) 0 (some 198) (Op.move (Operand.tmp 26)) (none) := opIs_of (by kernel_rfl)
theorem inxcOp1 : opIs ((Tryz.f3.body.bind (regionOps 25)).getD #[]) 1 (some 199) (Op.binOp BinOp.eql 29 (Operand.tmp 198) (Operand.const (Value.pointer none)) 29) (none) := opIs_of (by kernel_rfl)
theorem inxcOp2 : opIs ((Tryz.f3.body.bind (regionOps 25)).getD #[]) 2 (some 200) (Op.move (Operand.tmp 199)) (none) := opIs_of (by kernel_rfl)
theorem inxcOp3 : opIs ((Tryz.f3.body.bind (regionOps 25)).getD #[]) 3 (some 201) (Op.move (Operand.tmp 27)) (some (2, true)) := opIs_of (by kernel_rfl)
theorem inxcOp4 : opIs ((Tryz.f3.body.bind (regionOps 25)).getD #[]) 4 (some 202) (Op.binOp BinOp.eql 30 (Operand.tmp 201) (Operand.const (Value.int IntKind.i64 1)) 30) (some (2, true)) := opIs_of (by kernel_rfl)
theorem inxcOp5 : opIs ((Tryz.f3.body.bind (regionOps 25)).getD #[]) 5 (some 203) (Op.pick (Operand.tmp 200) (Operand.tmp 202) (Operand.const (Value.bool false))) (none) := opIs_of (by kernel_rfl)
theorem inxcOp6 : opIs ((Tryz.f3.body.bind (regionOps 25)).getD #[]) 6 (some 204) (Op.move (Operand.tmp 203)) (none) := opIs_of (by kernel_rfl)
theorem inxcOp7 : opIs ((Tryz.f3.body.bind (regionOps 25)).getD #[]) 7 (some 205) (Op.move (Operand.tmp 15)) (some (6, true)) := opIs_of (by kernel_rfl)
theorem inxcOp8 : opIs ((Tryz.f3.body.bind (regionOps 25)).getD #[]) 8 (some 206) (Op.call { callee := Callee.value (Operand.func 11), args := #[Operand.tmp 205], argTypes := #[29] }) (some (6, true)) := opIs_of (by kernel_rfl)
theorem inxcOp9 : opIs ((Tryz.f3.body.bind (regionOps 25)).getD #[]) 9 (some 207) (Op.load 34 (Operand.tmp 17)) (some (6, true)) := opIs_of (by kernel_rfl)
theorem inxcOp10 : opIs ((Tryz.f3.body.bind (regionOps 25)).getD #[]) 10 (some 208) (Op.call { callee := Callee.value (Operand.func 10), args := #[Operand.tmp 206, Operand.tmp 207], argTypes := #[34, 34] }) (some (6, true)) := opIs_of (by kernel_rfl)
theorem inxcOp11 : opIs ((Tryz.f3.body.bind (regionOps 25)).getD #[]) 11 (some 209) (Op.pick (Operand.tmp 204) (Operand.tmp 208) (Operand.const (Value.bool false))) (none) := opIs_of (by kernel_rfl)
theorem inxcOp12 : opIs ((Tryz.f3.body.bind (regionOps 25)).getD #[]) 12 (some 14) (Op.assign (Operand.tmp 209)) (none) := opIs_of (by kernel_rfl)
/-- What is said of each slot. -/
def inxcSp (p g : Nat) (SK SP SM : Value) (D : Nd) (i : Nat) (w : World) (v : Value) : Prop := match i with
  | 0 => v = .pointer none
  | 1 => v = .bool true
  | 2 => v = .bool true
  | 3 => v = .int .i64 1
  | 4 => v = .bool true
  | 5 => v = .bool true
  | 6 => v = .bool true
  | 7 => v = .pointer (some ⟨p, 0, none⟩)
  | 8 => ∃ x, v = x ∧ NdV w D x
  | 9 => v = .agg #[SK, SP, SM]
  | 10 => v = .bool true
  | 11 => v = .bool true
  | 12 => v = .bool true
  | _ => True
theorem inxcKeep206 (p g : Nat) (SK SP SM : Value) (D : Nd) {w w' : World} {v : Value} (hs : Step noF w w') (h : ∃ x, v = x ∧ NdV w D x) : ∃ x, v = x ∧ NdV w' D x := by
  obtain ⟨x, h1, h2⟩ := h; exact ⟨x, h1, h2.step hs⟩
theorem inxcSp_mono (p g : Nat) (SK SP SM : Value) (D : Nd) : ∀ i w w' v, Step noF w w' → inxcSp p g SK SP SM D i w v → inxcSp p g SK SP SM D i w' v := by
  intro i w w' v hs h
  match i with
  | 0 => exact h
  | 1 => exact h
  | 2 => exact h
  | 3 => exact h
  | 4 => exact h
  | 5 => exact h
  | 6 => exact h
  | 7 => exact h
  | 8 => exact inxcKeep206 p g SK SP SM D hs h
  | 9 => exact h
  | 10 => exact h
  | 11 => exact h
  | 12 => exact h
  | k + 13 => exact h

set_option maxHeartbeats 4000000 in
set_option maxRecDepth 100000 in
theorem inxc_go (p g : Nat) (SK SP SM : Value) (D : Nd) (w0 : World) (u00 : w0.cell? ⟨g, 0, none⟩ = some SK) (u10 : w0.cell? ⟨g, 1, none⟩ = some SP) (u20 : w0.cell? ⟨g, 2, none⟩ = some SM) (c2060 : ∀ w0', Step noF w0 w0' → Calls Tryz.prog 11 #[.pointer (some ⟨p, 0, none⟩)] w0' fun e w0'' => ∃ v, e = .returned v ∧ Step noF w0' w0'' ∧ ∃ x, v = x ∧ NdV w0'' D x) (c2080 : ∀ x w0', Step noF w0 w0' → NdV w0' D x → Calls Tryz.prog 10 #[x, .agg #[SK, SP, SM]] w0' fun e w0'' => e = .returned (.bool true) ∧ Step noF w0' w0'')
    {Q : Exit → Act → World → Prop} (a0 : Act) (hsz : a0.tmps.size = 231) (h15 : a0.tmps.getD 15 undef = .pointer (some ⟨p, 0, none⟩)) (h17 : a0.tmps.getD 17 undef = .pointer (some ⟨g, 0, none⟩)) (h26 : a0.tmps.getD 26 undef = .pointer none) (h27 : a0.tmps.getD 27 undef = .int .i64 1)
    (hend : ∀ (f : Nat → Value) (w : World), Step noF w0 w → inxcSp p g SK SP SM D 12 w (f 14) → Q .normal (putAll a0 (inxcDs.map some) (inxcDs.map f)) w) :
    (Code.region 25 ((Tryz.f3.body.bind (regionOps 25)).getD #[]) true).wp Tryz.prog Q a0 w0 := by
  refine wp_region_preds (inxcSp p g SK SP SM D) (inxcSp_mono p g SK SP SM D) inxcDl (by kernel_rfl) inxc_back inxc_dl inxc_nd (fun d h => by rw [hsz]; exact inxc_lt d h) ?_ ?_
  · intro i hi a w hs hfr hat
    rw [inxc_size] at hi
    have n15 := (hfr 15 (by decide)).trans h15
    have n17 := (hfr 17 (by decide)).trans h17
    have n26 := (hfr 26 (by decide)).trans h26
    have n27 := (hfr 27 (by decide)).trans h27
    have u0 : w.cell? ⟨g, 0, none⟩ = some SK := hs.after u00
    have u1 : w.cell? ⟨g, 1, none⟩ = some SP := hs.after u10
    have u2 : w.cell? ⟨g, 2, none⟩ = some SM := hs.after u20
    have c206 : ∀ w', Step noF w w' → Calls Tryz.prog 11 #[.pointer (some ⟨p, 0, none⟩)] w' fun e w'' => ∃ v, e = .returned v ∧ Step noF w' w'' ∧ ∃ x, v = x ∧ NdV w'' D x := fun w' s' => c2060 w' (hs.trans s')
    have c208 : ∀ x w', Step noF w w' → NdV w' D x → Calls Tryz.prog 10 #[x, .agg #[SK, SP, SM]] w' fun e w'' => e = .returned (.bool true) ∧ Step noF w' w'' := fun x w' s' => c2080 x w' (hs.trans s')
    match i, hi with
    | 0, _ =>
      refine op_runs (d := some 198) inxcOp0 (wants_none a) (v := .pointer none) (w' := w) ?_ ⟨198, _, rfl, rfl, Step.refl _ _, rfl⟩
      intro oo hoo
      simp only [execOp, hoo, Act.eval, n26]
      go_simp
    | 1, _ =>
      have n198 : a.tmps.getD 198 undef = _ := hat 0 (lc (by kernel_rfl)) 198 rfl
      refine op_runs (d := some 199) inxcOp1 (wants_none a) (v := .bool true) (w' := w) ?_ ⟨199, _, rfl, rfl, Step.refl _ _, rfl⟩
      intro oo hoo
      simp only [execOp, hoo, Act.eval, n198]
      go_simp
    | 2, _ =>
      have n199 : a.tmps.getD 199 undef = _ := hat 1 (lc (by kernel_rfl)) 199 rfl
      refine op_runs (d := some 200) inxcOp2 (wants_none a) (v := .bool true) (w' := w) ?_ ⟨200, _, rfl, rfl, Step.refl _ _, rfl⟩
      intro oo hoo
      simp only [execOp, hoo, Act.eval, n199]
      go_simp
    | 3, _ =>
      have n200 : a.tmps.getD 200 undef = _ := hat 2 (lc (by kernel_rfl)) 200 rfl
      refine op_runs (d := some 201) inxcOp3 (wants_some (d := 200) (b := true) (by kernel_rfl) n200) (v := .int .i64 1) (w' := w) ?_ ⟨201, _, rfl, rfl, Step.refl _ _, rfl⟩
      intro oo hoo
      simp only [execOp, hoo, Act.eval, n27]
      go_simp
    | 4, _ =>
      have n201 : a.tmps.getD 201 undef = _ := hat 3 (lc (by kernel_rfl)) 201 rfl
      have n200 : a.tmps.getD 200 undef = _ := hat 2 (lc (by kernel_rfl)) 200 rfl
      refine op_runs (d := some 202) inxcOp4 (wants_some (d := 200) (b := true) (by kernel_rfl) n200) (v := .bool true) (w' := w) ?_ ⟨202, _, rfl, rfl, Step.refl _ _, rfl⟩
      intro oo hoo
      simp only [execOp, hoo, Act.eval, n201]
      go_simp
    | 5, _ =>
      have n200 : a.tmps.getD 200 undef = _ := hat 2 (lc (by kernel_rfl)) 200 rfl
      have n202 : a.tmps.getD 202 undef = _ := hat 4 (lc (by kernel_rfl)) 202 rfl
      refine op_runs (d := some 203) inxcOp5 (wants_none a) (v := .bool true) (w' := w) ?_ ⟨203, _, rfl, rfl, Step.refl _ _, rfl⟩
      intro oo hoo
      simp only [execOp, hoo, Act.eval, n200, n202]
      go_simp
    | 6, _ =>
      have n203 : a.tmps.getD 203 undef = _ := hat 5 (lc (by kernel_rfl)) 203 rfl
      refine op_runs (d := some 204) inxcOp6 (wants_none a) (v := .bool true) (w' := w) ?_ ⟨204, _, rfl, rfl, Step.refl _ _, rfl⟩
      intro oo hoo
      simp only [execOp, hoo, Act.eval, n203]
      go_simp
    | 7, _ =>
      have n204 : a.tmps.getD 204 undef = _ := hat 6 (lc (by kernel_rfl)) 204 rfl
      refine op_runs (d := some 205) inxcOp7 (wants_some (d := 204) (b := true) (by kernel_rfl) n204) (v := .pointer (some ⟨p, 0, none⟩)) (w' := w) ?_ ⟨205, _, rfl, rfl, Step.refl _ _, rfl⟩
      intro oo hoo
      simp only [execOp, hoo, Act.eval, n15]
      go_simp
    | 8, _ =>
      have n205 : a.tmps.getD 205 undef = _ := hat 7 (lc (by kernel_rfl)) 205 rfl
      have n204 : a.tmps.getD 204 undef = _ := hat 6 (lc (by kernel_rfl)) 204 rfl
      refine op_calls inxcOp8 (wants_some (d := 204) (b := true) (by kernel_rfl) n204) Tryz.func11 (by kernel_rfl) (by kernel_rfl) (args := #[.pointer (some ⟨p, 0, none⟩)]) (by simp [Act.eval, n205]) ((c206 w (Step.refl _ _)).mono ?_)
      rintro e w' ⟨v, rfl, s', hv⟩
      exact ⟨_, rfl, 206, _, rfl, rfl, s', hv⟩
    | 9, _ =>
      have n204 : a.tmps.getD 204 undef = _ := hat 6 (lc (by kernel_rfl)) 204 rfl
      refine op_runs (d := some 207) inxcOp9 (wants_some (d := 204) (b := true) (by kernel_rfl) n204) (v := .agg #[SK, SP, SM]) (w' := w) ?_ ⟨207, _, rfl, rfl, Step.refl _ _, rfl⟩
      intro oo hoo
      simp only [execOp, hoo, Act.eval, n17]
      go_simp
    | 10, _ =>
      have hp206 : inxcSp p g SK SP SM D 8 w (a.tmps.getD 206 undef) := hat 8 (lc (by kernel_rfl)) 206 rfl
      have hq206 := hp206
      obtain ⟨x206, n206, r206⟩ := hq206
      have n207 : a.tmps.getD 207 undef = _ := hat 9 (lc (by kernel_rfl)) 207 rfl
      have n204 : a.tmps.getD 204 undef = _ := hat 6 (lc (by kernel_rfl)) 204 rfl
      refine op_calls inxcOp10 (wants_some (d := 204) (b := true) (by kernel_rfl) n204) Tryz.func10 (by kernel_rfl) (by kernel_rfl) (args := #[x206, .agg #[SK, SP, SM]]) (by simp [Act.eval, n206, n207]) ((c208 _ w (Step.refl _ _) r206).mono ?_)
      rintro e w' ⟨rfl, s'⟩
      exact ⟨_, rfl, 208, _, rfl, rfl, s', rfl⟩
    | 11, _ =>
      have n204 : a.tmps.getD 204 undef = _ := hat 6 (lc (by kernel_rfl)) 204 rfl
      have n208 : a.tmps.getD 208 undef = _ := hat 10 (lc (by kernel_rfl)) 208 rfl
      refine op_runs (d := some 209) inxcOp11 (wants_none a) (v := .bool true) (w' := w) ?_ ⟨209, _, rfl, rfl, Step.refl _ _, rfl⟩
      intro oo hoo
      simp only [execOp, hoo, Act.eval, n204, n208]
      go_simp
    | 12, _ =>
      have n209 : a.tmps.getD 209 undef = _ := hat 11 (lc (by kernel_rfl)) 209 rfl
      refine op_runs (d := some 14) inxcOp12 (wants_none a) (v := .bool true) (w' := w) ?_ ⟨14, _, rfl, rfl, Step.refl _ _, rfl⟩
      intro oo hoo
      simp only [execOp, hoo, Act.eval, n209]
      go_simp
    | k + 13, h => exact absurd h (by omega)
  · intro a w hs hdf hs2 hfr hat
    rw [inxc_size] at hat
    have e := act_vals (a := a) (a0 := a0) inxcDs (by decide) (fun d hd => by rw [hsz]; exact inxc_lt d (by revert hd; revert d; decide)) hdf hs2 (fun k hk => hfr k (fun hk2 => hk (by revert hk2; simp [inxcDl, inxcDs])))
    rw [e]
    exact hend (fun d => a.tmps.getD d undef) w hs (hat 12 (by omega) 14 rfl)
set_option maxRecDepth 100000 in
theorem inxc_lit (f : Nat → Value) (D : List Deferred) (x0 x1 x2 x3 x4 x5 x6 x7 x8 x9 x10 x11 x12 x13 x14 x15 x16 x17 x18 x19 x20 x21 x22 x23 x24 x25 x26 x27 x28 x29 x30 x31 x32 x33 x34 x35 x36 x37 x38 x39 x40 x41 x42 x43 x44 x45 x46 x47 x48 x49 x50 x51 x52 x53 x54 x55 x56 x57 x58 x59 x60 x61 x62 x63 x64 x65 x66 x67 x68 x69 x70 x71 x72 x73 x74 x75 x76 x77 x78 x79 x80 x81 x82 x83 x84 x85 x86 x87 x88 x89 x90 x91 x92 x93 x94 x95 x96 x97 x98 x99 x100 x101 x102 x103 x104 x105 x106 x107 x108 x109 x110 x111 x112 x113 x114 x115 x116 x117 x118 x119 x120 x121 x122 x123 x124 x125 x126 x127 x128 x129 x130 x131 x132 x133 x134 x135 x136 x137 x138 x139 x140 x141 x142 x143 x144 x145 x146 x147 x148 x149 x150 x151 x152 x153 x154 x155 x156 x157 x158 x159 x160 x161 x162 x163 x164 x165 x166 x167 x168 x169 x170 x171 x172 x173 x174 x175 x176 x177 x178 x179 x180 x181 x182 x183 x184 x185 x186 x187 x188 x189 x190 x191 x192 x193 x194 x195 x196 x197 x198 x199 x200 x201 x202 x203 x204 x205 x206 x207 x208 x209 x210 x211 x212 x213 x214 x215 x216 x217 x218 x219 x220 x221 x222 x223 x224 x225 x226 x227 x228 x229 x230 : Value) : putAll { tmps := #[x0, x1, x2, x3, x4, x5, x6, x7, x8, x9, x10, x11, x12, x13, x14, x15, x16, x17, x18, x19, x20, x21, x22, x23, x24, x25, x26, x27, x28, x29, x30, x31, x32, x33, x34, x35, x36, x37, x38, x39, x40, x41, x42, x43, x44, x45, x46, x47, x48, x49, x50, x51, x52, x53, x54, x55, x56, x57, x58, x59, x60, x61, x62, x63, x64, x65, x66, x67, x68, x69, x70, x71, x72, x73, x74, x75, x76, x77, x78, x79, x80, x81, x82, x83, x84, x85, x86, x87, x88, x89, x90, x91, x92, x93, x94, x95, x96, x97, x98, x99, x100, x101, x102, x103, x104, x105, x106, x107, x108, x109, x110, x111, x112, x113, x114, x115, x116, x117, x118, x119, x120, x121, x122, x123, x124, x125, x126, x127, x128, x129, x130, x131, x132, x133, x134, x135, x136, x137, x138, x139, x140, x141, x142, x143, x144, x145, x146, x147, x148, x149, x150, x151, x152, x153, x154, x155, x156, x157, x158, x159, x160, x161, x162, x163, x164, x165, x166, x167, x168, x169, x170, x171, x172, x173, x174, x175, x176, x177, x178, x179, x180, x181, x182, x183, x184, x185, x186, x187, x188, x189, x190, x191, x192, x193, x194, x195, x196, x197, x198, x199, x200, x201, x202, x203, x204, x205, x206, x207, x208, x209, x210, x211, x212, x213, x214, x215, x216, x217, x218, x219, x220, x221, x222, x223, x224, x225, x226, x227, x228, x229, x230], defers := D } (inxcDs.map some) (inxcDs.map f) = { tmps := #[x0, x1, x2, x3, x4, x5, x6, x7, x8, x9, x10, x11, x12, x13, f 14, x15, x16, x17, x18, x19, x20, x21, x22, x23, x24, x25, x26, x27, x28, x29, x30, x31, x32, x33, x34, x35, x36, x37, x38, x39, x40, x41, x42, x43, x44, x45, x46, x47, x48, x49, x50, x51, x52, x53, x54, x55, x56, x57, x58, x59, x60, x61, x62, x63, x64, x65, x66, x67, x68, x69, x70, x71, x72, x73, x74, x75, x76, x77, x78, x79, x80, x81, x82, x83, x84, x85, x86, x87, x88, x89, x90, x91, x92, x93, x94, x95, x96, x97, x98, x99, x100, x101, x102, x103, x104, x105, x106, x107, x108, x109, x110, x111, x112, x113, x114, x115, x116, x117, x118, x119, x120, x121, x122, x123, x124, x125, x126, x127, x128, x129, x130, x131, x132, x133, x134, x135, x136, x137, x138, x139, x140, x141, x142, x143, x144, x145, x146, x147, x148, x149, x150, x151, x152, x153, x154, x155, x156, x157, x158, x159, x160, x161, x162, x163, x164, x165, x166, x167, x168, x169, x170, x171, x172, x173, x174, x175, x176, x177, x178, x179, x180, x181, x182, x183, x184, x185, x186, x187, x188, x189, x190, x191, x192, x193, x194, x195, x196, x197, f 198, f 199, f 200, f 201, f 202, f 203, f 204, f 205, f 206, f 207, f 208, f 209, x210, x211, x212, x213, x214, x215, x216, x217, x218, x219, x220, x221, x222, x223, x224, x225, x226, x227, x228, x229, x230], defers := D } := by kernel_rfl
end Go.Proofs.YtgmgoaencaldmaaGreat
namespace Go.Proofs.YtgmgoaencaldmaaGreat
open Go.RowKit
set_option linter.unusedVariables false
set_option linter.unusedSimpArgs false


def inxdDs : List Nat := [210, 211, 212, 213, 214, 215, 216, 217, 218, 219, 220, 221, 222, 223, 224, 225, 226, 227, 228, 229, 230, 14]
def inxdDl : List (Option Nat) := [some 210, some 211, some 212, some 213, some 214, some 215, some 216, some 217, some 218, some 219, some 220, some 221, some 222, some 223, some 224, some 225, some 226, some 227, some 228, some 229, some 230, some 14]
theorem inxd_dl : ((Tryz.f3.body.bind (regionOps 26)).getD #[]).toList.map (·.dst) = inxdDl := by kernel_rfl
theorem inxd_back : backB ((Tryz.f3.body.bind (regionOps 26)).getD #[]) = true := by kernel_rfl
theorem inxd_size : ((Tryz.f3.body.bind (regionOps 26)).getD #[]).size = 22 := by kernel_rfl
theorem inxd_nd : inxdDl.Pairwise (fun x y => x = none ∨ x ≠ y) := by decide
theorem inxd_lt (d : Nat) (h : some d ∈ inxdDl) : d < 231 := by
  have hh : inxdDl.all (fun o => o.all (fun d => decide (d < 231))) = true := by decide
  simpa using List.all_eq_true.1 hh _ h
theorem inxdOp0 : opIs ((Tryz.f3.body.bind (regionOps 26)).getD #[]) 0 (some 210) (Op.move (Operand.tmp 27)) (none) := opIs_of (by kernel_rfl)
theorem inxdOp1 : opIs ((Tryz.f3.body.bind (regionOps 26)).getD #[]) 1 (some 211) (Op.binOp BinOp.eql 30 (Operand.tmp 210) (Operand.const (Value.int IntKind.i64 0)) 30) (none) := opIs_of (by kernel_rfl)
theorem inxdOp2 : opIs ((Tryz.f3.body.bind (regionOps 26)).getD #[]) 2 (some 212) (Op.move (Operand.tmp 211)) (none) := opIs_of (by kernel_rfl)
theorem inxdOp3 : opIs ((Tryz.f3.body.bind (regionOps 26)).getD #[]) 3 (some 213) (Op.move (Operand.tmp 26)) (some (2, true)) := opIs_of (by kernel_rfl)
theorem inxdOp4 : opIs ((Tryz.f3.body.bind (regionOps 26)).getD #[]) 4 (some 214) (Op.binOp BinOp.neq 29 (Operand.tmp 213) (Operand.const (Value.pointer none)) 29) (some (2, true)) := opIs_of (by kernel_rfl)
theorem inxdOp5 : opIs ((Tryz.f3.body.bind (regionOps 26)).getD #[]) 5 (some 215) (Op.pick (Operand.tmp 212) (Operand.tmp 214) (Operand.const (Value.bool false))) (none) := opIs_of (by kernel_rfl)
theorem inxdOp6 : opIs ((Tryz.f3.body.bind (regionOps 26)).getD #[]) 6 (some 216) (Op.move (Operand.tmp 215)) (none) := opIs_of (by kernel_rfl)
theorem inxdOp7 : opIs ((Tryz.f3.body.bind (regionOps 26)).getD #[]) 7 (some 217) (Op.move (Operand.tmp 26)) (some (6, true)) := opIs_of (by kernel_rfl)
theorem inxdOp8 : opIs ((Tryz.f3.body.bind (regionOps 26)).getD #[]) 8 (some 218) (Op.call { callee := Callee.value (Operand.func 11), args := #[Operand.tmp 217], argTypes := #[29] }) (some (6, true)) := opIs_of (by kernel_rfl)
theorem inxdOp9 : opIs ((Tryz.f3.body.bind (regionOps 26)).getD #[]) 9 (some 219) (Op.move (Operand.tmp 0)) (some (6, true)) := opIs_of (by kernel_rfl)
theorem inxdOp10 : opIs ((Tryz.f3.body.bind (regionOps 26)).getD #[]) 10 (some 220) (Op.move (Operand.tmp 1)) (some (6, true)) := opIs_of (by kernel_rfl)
theorem inxdOp11 : opIs ((Tryz.f3.body.bind (regionOps 26)).getD #[]) 11 (some 221) (Op.move (Operand.tmp 28)) (some (6, true)) := opIs_of (by kernel_rfl)
theorem inxdOp12 : opIs ((Tryz.f3.body.bind (regionOps 26)).getD #[]) 12 (some 222) (Op.build 34 #[(0, Operand.tmp 219), (1, Operand.tmp 220), (2, Operand.tmp 221)]) (some (6, true)) := opIs_of (by kernel_rfl)
theorem inxdOp13 : opIs ((Tryz.f3.body.bind (regionOps 26)).getD #[]) 13 (some 223) (Op.call { callee := Callee.value (Operand.func 10), args := #[Operand.tmp 218, Operand.tmp 222], argTypes := #[34, 34] }) (some (6, true)) := opIs_of (by kernel_rfl)
theorem inxdOp14 : opIs ((Tryz.f3.body.bind (regionOps 26)).getD #[]) 14 (some 224) (Op.pick (Operand.tmp 216) (Operand.tmp 223) (Operand.const (Value.bool false))) (none) := opIs_of (by kernel_rfl)
theorem inxdOp15 : opIs ((Tryz.f3.body.bind (regionOps 26)).getD #[]) 15 (some 225) (Op.move (Operand.tmp 224)) (none) := opIs_of (by kernel_rfl)
theorem inxdOp16 : opIs ((Tryz.f3.body.bind (regionOps 26)).getD #[]) 16 (some 226) (Op.move (Operand.tmp 15)) (some (15, true)) := opIs_of (by kernel_rfl)
theorem inxdOp17 : opIs ((Tryz.f3.body.bind (regionOps 26)).getD #[]) 17 (some 227) (Op.call { callee := Callee.value (Operand.func 11), args := #[Operand.tmp 226], argTypes := #[29] }) (some (15, true)) := opIs_of (by kernel_rfl)
theorem inxdOp18 : opIs ((Tryz.f3.body.bind (regionOps 26)).getD #[]) 18 (some 228) (Op.load 34 (Operand.tmp 17)) (some (15, true)) := opIs_of (by kernel_rfl)
theorem inxdOp19 : opIs ((Tryz.f3.body.bind (regionOps 26)).getD #[]) 19 (some 229) (Op.call { callee := Callee.value (Operand.func 10), args := #[Operand.tmp 227, Operand.tmp 228], argTypes := #[34, 34] }) (some (15, true)) := opIs_of (by kernel_rfl)
theorem inxdOp20 : opIs ((Tryz.f3.body.bind (regionOps 26)).getD #[]) 20 (some 230) (Op.pick (Operand.tmp 225) (Operand.tmp 229) (Operand.const (Value.bool false))) (none) := opIs_of (by kernel_rfl)
theorem inxdOp21 : opIs ((Tryz.f3.body.bind (regionOps 26)).getD #[]) 21 (some 14) (Op.assign (Operand.tmp 230)) (none) := opIs_of (by kernel_rfl)
/-- What is said of each slot. -/
def inxdSp (p p2 g : Nat) (SK SP SM : Value) (k1 k2 k3 : Option Addr) (l1 l2 l3 e1 e2 e3 : Nat) (D D2 : Nd) (i : Nat) (w : World) (v : Value) : Prop := match i with
  | 0 => v = .int .i64 0
  | 1 => v = .bool true
  | 2 => v = .bool true
  | 3 => v = .pointer (some ⟨p2, 0, none⟩)
  | 4 => v = .bool true
  | 5 => v = .bool true
  | 6 => v = .bool true
  | 7 => v = .pointer (some ⟨p2, 0, none⟩)
  | 8 => ∃ x, v = x ∧ NdV w D2 x
  | 9 => v = .slice k1 l1 e1
  | 10 => v = .slice k2 l2 e2
  | 11 => v = .slice k3 l3 e3
  | 12 => v = .agg #[.slice k1 l1 e1, .slice k2 l2 e2, .slice k3 l3 e3]
  | 13 => v = .bool true
  | 14 => v = .bool true
  | 15 => v = .bool true
  | 16 => v = .pointer (some ⟨p, 0, none⟩)
  | 17 => ∃ x, v = x ∧ NdV w D x
  | 18 => v = .agg #[SK, SP, SM]
  | 19 => v = .bool true
  | 20 => v = .bool true
  | 21 => v = .bool true
  | _ => True
theorem inxdKeep218 (p p2 g : Nat) (SK SP SM : Value) (k1 k2 k3 : Option Addr) (l1 l2 l3 e1 e2 e3 : Nat) (D D2 : Nd) {w w' : World} {v : Value} (hs : Step noF w w') (h : ∃ x, v = x ∧ NdV w D2 x) : ∃ x, v = x ∧ NdV w' D2 x := by
  obtain ⟨x, h1, h2⟩ := h; exact ⟨x, h1, h2.step hs⟩
theorem inxdKeep227 (p p2 g : Nat) (SK SP SM : Value) (k1 k2 k3 : Option Addr) (l1 l2 l3 e1 e2 e3 : Nat) (D D2 : Nd) {w w' : World} {v : Value} (hs : Step noF w w') (h : ∃ x, v = x ∧ NdV w D x) : ∃ x, v = x ∧ NdV w' D x := by
  obtain ⟨x, h1, h2⟩ := h; exact ⟨x, h1, h2.step hs⟩
theorem inxdSp_mono (p p2 g : Nat) (SK SP SM : Value) (k1 k2 k3 : Option Addr) (l1 l2 l3 e1 e2 e3 : Nat) (D D2 : Nd) : ∀ i w w' v, Step noF w w' → inxdSp p p2 g SK SP SM k1 k2 k3 l1 l2 l3 e1 e2 e3 D D2 i w v → inxdSp p p2 g SK SP SM k1 k2 k3 l1 l2 l3 e1 e2 e3 D D2 i w' v := by
  intro i w w' v hs h
  match i with
  | 0 => exact h
  | 1 => exact h
  | 2 => exact h
  | 3 => exact h
  | 4 => exact h
  | 5 => exact h
  | 6 => exact h
  | 7 => exact h
  | 8 => exact inxdKeep218 p p2 g SK SP SM k1 k2 k3 l1 l2 l3 e1 e2 e3 D D2 hs h
  | 9 => exact h
  | 10 => exact h
  | 11 => exact h
  | 12 => exact h
  | 13 => exact h
  | 14 => exact h
  | 15 => exact h
  | 16 => exact h
  | 17 => exact inxdKeep227 p p2 g SK SP SM k1 k2 k3 l1 l2 l3 e1 e2 e3 D D2 hs h
  | 18 => exact h
  | 19 => exact h
  | 20 => exact h
  | 21 => exact h
  | k + 22 => exact h

set_option maxHeartbeats 4000000 in
set_option maxRecDepth 100000 in
theorem inxd_go (p p2 g : Nat) (SK SP SM : Value) (k1 k2 k3 : Option Addr) (l1 l2 l3 e1 e2 e3 : Nat) (D D2 : Nd) (w0 : World) (u00 : w0.cell? ⟨g, 0, none⟩ = some SK) (u10 : w0.cell? ⟨g, 1, none⟩ = some SP) (u20 : w0.cell? ⟨g, 2, none⟩ = some SM) (c2180 : ∀ w0', Step noF w0 w0' → Calls Tryz.prog 11 #[.pointer (some ⟨p2, 0, none⟩)] w0' fun e w0'' => ∃ v, e = .returned v ∧ Step noF w0' w0'' ∧ ∃ x, v = x ∧ NdV w0'' D2 x) (c2230 : ∀ x w0', Step noF w0 w0' → NdV w0' D2 x → Calls Tryz.prog 10 #[x, .agg #[.slice k1 l1 e1, .slice k2 l2 e2, .slice k3 l3 e3]] w0' fun e w0'' => e = .returned (.bool true) ∧ Step noF w0' w0'') (c2270 : ∀ w0', Step noF w0 w0' → Calls Tryz.prog 11 #[.pointer (some ⟨p, 0, none⟩)] w0' fun e w0'' => ∃ v, e = .returned v ∧ Step noF w0' w0'' ∧ ∃ x, v = x ∧ NdV w0'' D x) (c2290 : ∀ x w0', Step noF w0 w0' → NdV w0' D x → Calls Tryz.prog 10 #[x, .agg #[SK, SP, SM]] w0' fun e w0'' => e = .returned (.bool true) ∧ Step noF w0' w0'')
    {Q : Exit → Act → World → Prop} (a0 : Act) (hsz : a0.tmps.size = 231) (h0 : a0.tmps.getD 0 undef = .slice k1 l1 e1) (h1 : a0.tmps.getD 1 undef = .slice k2 l2 e2) (h28 : a0.tmps.getD 28 undef = .slice k3 l3 e3) (h15 : a0.tmps.getD 15 undef = .pointer (some ⟨p, 0, none⟩)) (h17 : a0.tmps.getD 17 undef = .pointer (some ⟨g, 0, none⟩)) (h26 : a0.tmps.getD 26 undef = .pointer (some ⟨p2, 0, none⟩)) (h27 : a0.tmps.getD 27 undef = .int .i64 0)
    (hend : ∀ (f : Nat → Value) (w : World), Step noF w0 w → inxdSp p p2 g SK SP SM k1 k2 k3 l1 l2 l3 e1 e2 e3 D D2 21 w (f 14) → Q .normal (putAll a0 (inxdDs.map some) (inxdDs.map f)) w) :
    (Code.region 26 ((Tryz.f3.body.bind (regionOps 26)).getD #[]) true).wp Tryz.prog Q a0 w0 := by
  refine wp_region_preds (inxdSp p p2 g SK SP SM k1 k2 k3 l1 l2 l3 e1 e2 e3 D D2) (inxdSp_mono p p2 g SK SP SM k1 k2 k3 l1 l2 l3 e1 e2 e3 D D2) inxdDl (by kernel_rfl) inxd_back inxd_dl inxd_nd (fun d h => by rw [hsz]; exact inxd_lt d h) ?_ ?_
  · intro i hi a w hs hfr hat
    rw [inxd_size] at hi
    have n0 := (hfr 0 (by decide)).trans h0
    have n1 := (hfr 1 (by decide)).trans h1
    have n28 := (hfr 28 (by decide)).trans h28
    have n15 := (hfr 15 (by decide)).trans h15
    have n17 := (hfr 17 (by decide)).trans h17
    have n26 := (hfr 26 (by decide)).trans h26
    have n27 := (hfr 27 (by decide)).trans h27
    have u0 : w.cell? ⟨g, 0, none⟩ = some SK := hs.after u00
    have u1 : w.cell? ⟨g, 1, none⟩ = some SP := hs.after u10
    have u2 : w.cell? ⟨g, 2, none⟩ = some SM := hs.after u20
    have c218 : ∀ w', Step noF w w' → Calls Tryz.prog 11 #[.pointer (some ⟨p2, 0, none⟩)] w' fun e w'' => ∃ v, e = .returned v ∧ Step noF w' w'' ∧ ∃ x, v = x ∧ NdV w'' D2 x := fun w' s' => c2180 w' (hs.trans s')
    have c223 : ∀ x w', Step noF w w' → NdV w' D2 x → Calls Tryz.prog 10 #[x, .agg #[.slice k1 l1 e1, .slice k2 l2 e2, .slice k3 l3 e3]] w' fun e w'' => e = .returned (.bool true) ∧ Step noF w' w'' := fun x w' s' => c2230 x w' (hs.trans s')
    have c227 : ∀ w', Step noF w w' → Calls Tryz.prog 11 #[.pointer (some ⟨p, 0, none⟩)] w' fun e w'' => ∃ v, e = .returned v ∧ Step noF w' w'' ∧ ∃ x, v = x ∧ NdV w'' D x := fun w' s' => c2270 w' (hs.trans s')
    have c229 : ∀ x w', Step noF w w' → NdV w' D x → Calls Tryz.prog 10 #[x, .agg #[SK, SP, SM]] w' fun e w'' => e = .returned (.bool true) ∧ Step noF w' w'' := fun x w' s' => c2290 x w' (hs.trans s')
    match i, hi with
    | 0, _ =>
      refine op_runs (d := some 210) inxdOp0 (wants_none a) (v := .int .i64 0) (w' := w) ?_ ⟨210, _, rfl, rfl, Step.refl _ _, rfl⟩
      intro oo hoo
      simp only [execOp, hoo, Act.eval, n27]
      go_simp
    | 1, _ =>
      have n210 : a.tmps.getD 210 undef = _ := hat 0 (lc (by kernel_rfl)) 210 rfl
      refine op_runs (d := some 211) inxdOp1 (wants_none a) (v := .bool true) (w' := w) ?_ ⟨211, _, rfl, rfl, Step.refl _ _, rfl⟩
      intro oo hoo
      simp only [execOp, hoo, Act.eval, n210]
      go_simp
    | 2, _ =>
      have n211 : a.tmps.getD 211 undef = _ := hat 1 (lc (by kernel_rfl)) 211 rfl
      refine op_runs (d := some 212) inxdOp2 (wants_none a) (v := .bool true) (w' := w) ?_ ⟨212, _, rfl, rfl, Step.refl _ _, rfl⟩
      intro oo hoo
      simp only [execOp, hoo, Act.eval, n211]
      go_simp
    | 3, _ =>
      have n212 : a.tmps.getD 212 undef = _ := hat 2 (lc (by kernel_rfl)) 212 rfl
      refine op_runs (d := some 213) inxdOp3 (wants_some (d := 212) (b := true) (by kernel_rfl) n212) (v := .pointer (some ⟨p2, 0, none⟩)) (w' := w) ?_ ⟨213, _, rfl, rfl, Step.refl _ _, rfl⟩
      intro oo hoo
      simp only [execOp, hoo, Act.eval, n26]
      go_simp
    | 4, _ =>
      have n213 : a.tmps.getD 213 undef = _ := hat 3 (lc (by kernel_rfl)) 213 rfl
      have n212 : a.tmps.getD 212 undef = _ := hat 2 (lc (by kernel_rfl)) 212 rfl
      refine op_runs (d := some 214) inxdOp4 (wants_some (d := 212) (b := true) (by kernel_rfl) n212) (v := .bool true) (w' := w) ?_ ⟨214, _, rfl, rfl, Step.refl _ _, rfl⟩
      intro oo hoo
      simp only [execOp, hoo, Act.eval, n213]
      go_simp
    | 5, _ =>
      have n212 : a.tmps.getD 212 undef = _ := hat 2 (lc (by kernel_rfl)) 212 rfl
      have n214 : a.tmps.getD 214 undef = _ := hat 4 (lc (by kernel_rfl)) 214 rfl
      refine op_runs (d := some 215) inxdOp5 (wants_none a) (v := .bool true) (w' := w) ?_ ⟨215, _, rfl, rfl, Step.refl _ _, rfl⟩
      intro oo hoo
      simp only [execOp, hoo, Act.eval, n212, n214]
      go_simp
    | 6, _ =>
      have n215 : a.tmps.getD 215 undef = _ := hat 5 (lc (by kernel_rfl)) 215 rfl
      refine op_runs (d := some 216) inxdOp6 (wants_none a) (v := .bool true) (w' := w) ?_ ⟨216, _, rfl, rfl, Step.refl _ _, rfl⟩
      intro oo hoo
      simp only [execOp, hoo, Act.eval, n215]
      go_simp
    | 7, _ =>
      have n216 : a.tmps.getD 216 undef = _ := hat 6 (lc (by kernel_rfl)) 216 rfl
      refine op_runs (d := some 217) inxdOp7 (wants_some (d := 216) (b := true) (by kernel_rfl) n216) (v := .pointer (some ⟨p2, 0, none⟩)) (w' := w) ?_ ⟨217, _, rfl, rfl, Step.refl _ _, rfl⟩
      intro oo hoo
      simp only [execOp, hoo, Act.eval, n26]
      go_simp
    | 8, _ =>
      have n217 : a.tmps.getD 217 undef = _ := hat 7 (lc (by kernel_rfl)) 217 rfl
      have n216 : a.tmps.getD 216 undef = _ := hat 6 (lc (by kernel_rfl)) 216 rfl
      refine op_calls inxdOp8 (wants_some (d := 216) (b := true) (by kernel_rfl) n216) Tryz.func11 (by kernel_rfl) (by kernel_rfl) (args := #[.pointer (some ⟨p2, 0, none⟩)]) (by simp [Act.eval, n217]) ((c218 w (Step.refl _ _)).mono ?_)
      rintro e w' ⟨v, rfl, s', hv⟩
      exact ⟨_, rfl, 218, _, rfl, rfl, s', hv⟩
    | 9, _ =>
      have n216 : a.tmps.getD 216 undef = _ := hat 6 (lc (by kernel_rfl)) 216 rfl
      refine op_runs (d := some 219) inxdOp9 (wants_some (d := 216) (b := true) (by kernel_rfl) n216) (v := .slice k1 l1 e1) (w' := w) ?_ ⟨219, _, rfl, rfl, Step.refl _ _, rfl⟩
      intro oo hoo
      simp only [execOp, hoo, Act.eval, n0]
      go_simp
    | 10, _ =>
      have n216 : a.tmps.getD 216 undef = _ := hat 6 (lc (by kernel_rfl)) 216 rfl
      refine op_runs (d := some 220) inxdOp10 (wants_some (d := 216) (b := true) (by kernel_rfl) n216) (v := .slice k2 l2 e2) (w' := w) ?_ ⟨220, _, rfl, rfl, Step.refl _ _, rfl⟩
      intro oo hoo
      simp only [execOp, hoo, Act.eval, n1]
      go_simp
    | 11, _ =>
      have n216 : a.tmps.getD 216 undef = _ := hat 6 (lc (by kernel_rfl)) 216 rfl
      refine op_runs (d := some 221) inxdOp11 (wants_some (d := 216) (b := true) (by kernel_rfl) n216) (v := .slice k3 l3 e3) (w' := w) ?_ ⟨221, _, rfl, rfl, Step.refl _ _, rfl⟩
      intro oo hoo
      simp only [execOp, hoo, Act.eval, n28]
      go_simp
    | 12, _ =>
      have n219 : a.tmps.getD 219 undef = _ := hat 9 (lc (by kernel_rfl)) 219 rfl
      have n220 : a.tmps.getD 220 undef = _ := hat 10 (lc (by kernel_rfl)) 220 rfl
      have n221 : a.tmps.getD 221 undef = _ := hat 11 (lc (by kernel_rfl)) 221 rfl
      have n216 : a.tmps.getD 216 undef = _ := hat 6 (lc (by kernel_rfl)) 216 rfl
      refine op_runs (d := some 222) inxdOp12 (wants_some (d := 216) (b := true) (by kernel_rfl) n216) (v := .agg #[.slice k1 l1 e1, .slice k2 l2 e2, .slice k3 l3 e3]) (w' := w) ?_ ⟨222, _, rfl, rfl, Step.refl _ _, rfl⟩
      intro oo hoo
      simp only [execOp, hoo, Act.eval, n219, n220, n221]
      (rw [Array.getD_eq_getD_getElem?] at n219 n220 n221; go_simp)
    | 13, _ =>
      have hp218 : inxdSp p p2 g SK SP SM k1 k2 k3 l1 l2 l3 e1 e2 e3 D D2 8 w (a.tmps.getD 218 undef) := hat 8 (lc (by kernel_rfl)) 218 rfl
      have hq218 := hp218
      obtain ⟨x218, n218, r218⟩ := hq218
      have n222 : a.tmps.getD 222 undef = _ := hat 12 (lc (by kernel_rfl)) 222 rfl
      have n216 : a.tmps.getD 216 undef = _ := hat 6 (lc (by kernel_rfl)) 216 rfl
      refine op_calls inxdOp13 (wants_some (d := 216) (b := true) (by kernel_rfl) n216) Tryz.func10 (by kernel_rfl) (by kernel_rfl) (args := #[x218, .agg #[.slice k1 l1 e1, .slice k2 l2 e2, .slice k3 l3 e3]]) (by simp [Act.eval, n218, n222]) ((c223 _ w (Step.refl _ _) r218).mono ?_)
      rintro e w' ⟨rfl, s'⟩
      exact ⟨_, rfl, 223, _, rfl, rfl, s', rfl⟩
    | 14, _ =>
      have n216 : a.tmps.getD 216 undef = _ := hat 6 (lc (by kernel_rfl)) 216 rfl
      have n223 : a.tmps.getD 223 undef = _ := hat 13 (lc (by kernel_rfl)) 223 rfl
      refine op_runs (d := some 224) inxdOp14 (wants_none a) (v := .bool true) (w' := w) ?_ ⟨224, _, rfl, rfl, Step.refl _ _, rfl⟩
      intro oo hoo
      simp only [execOp, hoo, Act.eval, n216, n223]
      go_simp
    | 15, _ =>
      have n224 : a.tmps.getD 224 undef = _ := hat 14 (lc (by kernel_rfl)) 224 rfl
      refine op_runs (d := some 225) inxdOp15 (wants_none a) (v := .bool true) (w' := w) ?_ ⟨225, _, rfl, rfl, Step.refl _ _, rfl⟩
      intro oo hoo
      simp only [execOp, hoo, Act.eval, n224]
      go_simp
    | 16, _ =>
      have n225 : a.tmps.getD 225 undef = _ := hat 15 (lc (by kernel_rfl)) 225 rfl
      refine op_runs (d := some 226) inxdOp16 (wants_some (d := 225) (b := true) (by kernel_rfl) n225) (v := .pointer (some ⟨p, 0, none⟩)) (w' := w) ?_ ⟨226, _, rfl, rfl, Step.refl _ _, rfl⟩
      intro oo hoo
      simp only [execOp, hoo, Act.eval, n15]
      go_simp
    | 17, _ =>
      have n226 : a.tmps.getD 226 undef = _ := hat 16 (lc (by kernel_rfl)) 226 rfl
      have n225 : a.tmps.getD 225 undef = _ := hat 15 (lc (by kernel_rfl)) 225 rfl
      refine op_calls inxdOp17 (wants_some (d := 225) (b := true) (by kernel_rfl) n225) Tryz.func11 (by kernel_rfl) (by kernel_rfl) (args := #[.pointer (some ⟨p, 0, none⟩)]) (by simp [Act.eval, n226]) ((c227 w (Step.refl _ _)).mono ?_)
      rintro e w' ⟨v, rfl, s', hv⟩
      exact ⟨_, rfl, 227, _, rfl, rfl, s', hv⟩
    | 18, _ =>
      have n225 : a.tmps.getD 225 undef = _ := hat 15 (lc (by kernel_rfl)) 225 rfl
      refine op_runs (d := some 228) inxdOp18 (wants_some (d := 225) (b := true) (by kernel_rfl) n225) (v := .agg #[SK, SP, SM]) (w' := w) ?_ ⟨228, _, rfl, rfl, Step.refl _ _, rfl⟩
      intro oo hoo
      simp only [execOp, hoo, Act.eval, n17]
      go_simp
    | 19, _ =>
      have hp227 : inxdSp p p2 g SK SP SM k1 k2 k3 l1 l2 l3 e1 e2 e3 D D2 17 w (a.tmps.getD 227 undef) := hat 17 (lc (by kernel_rfl)) 227 rfl
      have hq227 := hp227
      obtain ⟨x227, n227, r227⟩ := hq227
      have n228 : a.tmps.getD 228 undef = _ := hat 18 (lc (by kernel_rfl)) 228 rfl
      have n225 : a.tmps.getD 225 undef = _ := hat 15 (lc (by kernel_rfl)) 225 rfl
      refine op_calls inxdOp19 (wants_some (d := 225) (b := true) (by kernel_rfl) n225) Tryz.func10 (by kernel_rfl) (by kernel_rfl) (args := #[x227, .agg #[SK, SP, SM]]) (by simp [Act.eval, n227, n228]) ((c229 _ w (Step.refl _ _) r227).mono ?_)
      rintro e w' ⟨rfl, s'⟩
      exact ⟨_, rfl, 229, _, rfl, rfl, s', rfl⟩
    | 20, _ =>
      have n225 : a.tmps.getD 225 undef = _ := hat 15 (lc (by kernel_rfl)) 225 rfl
      have n229 : a.tmps.getD 229 undef = _ := hat 19 (lc (by kernel_rfl)) 229 rfl
      refine op_runs (d := some 230) inxdOp20 (wants_none a) (v := .bool true) (w' := w) ?_ ⟨230, _, rfl, rfl, Step.refl _ _, rfl⟩
      intro oo hoo
      simp only [execOp, hoo, Act.eval, n225, n229]
      go_simp
    | 21, _ =>
      have n230 : a.tmps.getD 230 undef = _ := hat 20 (lc (by kernel_rfl)) 230 rfl
      refine op_runs (d := some 14) inxdOp21 (wants_none a) (v := .bool true) (w' := w) ?_ ⟨14, _, rfl, rfl, Step.refl _ _, rfl⟩
      intro oo hoo
      simp only [execOp, hoo, Act.eval, n230]
      go_simp
    | k + 22, h => exact absurd h (by omega)
  · intro a w hs hdf hs2 hfr hat
    rw [inxd_size] at hat
    have e := act_vals (a := a) (a0 := a0) inxdDs (by decide) (fun d hd => by rw [hsz]; exact inxd_lt d (by revert hd; revert d; decide)) hdf hs2 (fun k hk => hfr k (fun hk2 => hk (by revert hk2; simp [inxdDl, inxdDs])))
    rw [e]
    exact hend (fun d => a.tmps.getD d undef) w hs (hat 21 (by omega) 14 rfl)
set_option maxRecDepth 100000 in
theorem inxd_lit (f : Nat → Value) (D : List Deferred) (x0 x1 x2 x3 x4 x5 x6 x7 x8 x9 x10 x11 x12 x13 x14 x15 x16 x17 x18 x19 x20 x21 x22 x23 x24 x25 x26 x27 x28 x29 x30 x31 x32 x33 x34 x35 x36 x37 x38 x39 x40 x41 x42 x43 x44 x45 x46 x47 x48 x49 x50 x51 x52 x53 x54 x55 x56 x57 x58 x59 x60 x61 x62 x63 x64 x65 x66 x67 x68 x69 x70 x71 x72 x73 x74 x75 x76 x77 x78 x79 x80 x81 x82 x83 x84 x85 x86 x87 x88 x89 x90 x91 x92 x93 x94 x95 x96 x97 x98 x99 x100 x101 x102 x103 x104 x105 x106 x107 x108 x109 x110 x111 x112 x113 x114 x115 x116 x117 x118 x119 x120 x121 x122 x123 x124 x125 x126 x127 x128 x129 x130 x131 x132 x133 x134 x135 x136 x137 x138 x139 x140 x141 x142 x143 x144 x145 x146 x147 x148 x149 x150 x151 x152 x153 x154 x155 x156 x157 x158 x159 x160 x161 x162 x163 x164 x165 x166 x167 x168 x169 x170 x171 x172 x173 x174 x175 x176 x177 x178 x179 x180 x181 x182 x183 x184 x185 x186 x187 x188 x189 x190 x191 x192 x193 x194 x195 x196 x197 x198 x199 x200 x201 x202 x203 x204 x205 x206 x207 x208 x209 x210 x211 x212 x213 x214 x215 x216 x217 x218 x219 x220 x221 x222 x223 x224 x225 x226 x227 x228 x229 x230 : Value) : putAll { tmps := #[x0, x1, x2, x3, x4, x5, x6, x7, x8, x9, x10, x11, x12, x13, x14, x15, x16, x17, x18, x19, x20, x21, x22, x23, x24, x25, x26, x27, x28, x29, x30, x31, x32, x33, x34, x35, x36, x37, x38, x39, x40, x41, x42, x43, x44, x45, x46, x47, x48, x49, x50, x51, x52, x53, x54, x55, x56, x57, x58, x59, x60, x61, x62, x63, x64, x65, x66, x67, x68, x69, x70, x71, x72, x73, x74, x75, x76, x77, x78, x79, x80, x81, x82, x83, x84, x85, x86, x87, x88, x89, x90, x91, x92, x93, x94, x95, x96, x97, x98, x99, x100, x101, x102, x103, x104, x105, x106, x107, x108, x109, x110, x111, x112, x113, x114, x115, x116, x117, x118, x119, x120, x121, x122, x123, x124, x125, x126, x127, x128, x129, x130, x131, x132, x133, x134, x135, x136, x137, x138, x139, x140, x141, x142, x143, x144, x145, x146, x147, x148, x149, x150, x151, x152, x153, x154, x155, x156, x157, x158, x159, x160, x161, x162, x163, x164, x165, x166, x167, x168, x169, x170, x171, x172, x173, x174, x175, x176, x177, x178, x179, x180, x181, x182, x183, x184, x185, x186, x187, x188, x189, x190, x191, x192, x193, x194, x195, x196, x197, x198, x199, x200, x201, x202, x203, x204, x205, x206, x207, x208, x209, x210, x211, x212, x213, x214, x215, x216, x217, x218, x219, x220, x221, x222, x223, x224, x225, x226, x227, x228, x229, x230], defers := D } (inxdDs.map some) (inxdDs.map f) = { tmps := #[x0, x1, x2, x3, x4, x5, x6, x7, x8, x9, x10, x11, x12, x13, f 14, x15, x16, x17, x18, x19, x20, x21, x22, x23, x24, x25, x26, x27, x28, x29, x30, x31, x32, x33, x34, x35, x36, x37, x38, x39, x40, x41, x42, x43, x44, x45, x46, x47, x48, x49, x50, x51, x52, x53, x54, x55, x56, x57, x58, x59, x60, x61, x62, x63, x64, x65, x66, x67, x68, x69, x70, x71, x72, x73, x74, x75, x76, x77, x78, x79, x80, x81, x82, x83, x84, x85, x86, x87, x88, x89, x90, x91, x92, x93, x94, x95, x96, x97, x98, x99, x100, x101, x102, x103, x104, x105, x106, x107, x108, x109, x110, x111, x112, x113, x114, x115, x116, x117, x118, x119, x120, x121, x122, x123, x124, x125, x126, x127, x128, x129, x130, x131, x132, x133, x134, x135, x136, x137, x138, x139, x140, x141, x142, x143, x144, x145, x146, x147, x148, x149, x150, x151, x152, x153, x154, x155, x156, x157, x158, x159, x160, x161, x162, x163, x164, x165, x166, x167, x168, x169, x170, x171, x172, x173, x174, x175, x176, x177, x178, x179, x180, x181, x182, x183, x184, x185, x186, x187, x188, x189, x190, x191, x192, x193, x194, x195, x196, x197, x198, x199, x200, x201, x202, x203, x204, x205, x206, x207, x208, x209, f 210, f 211, f 212, f 213, f 214, f 215, f 216, f 217, f 218, f 219, f 220, f 221, f 222, f 223, f 224, f 225, f 226, f 227, f 228, f 229, f 230], defers := D } := by kernel_rfl
end Go.Proofs.YtgmgoaencaldmaaGreat
namespace Go.Proofs.YtgmgoaencaldmaaGreat
open Go.RowKit Go.Sort
set_option linter.unusedVariables false
set_option linter.unusedSimpArgs false
set_option maxRecDepth 20000

set_option maxHeartbeats 2000000 in
theorem rangeN_out (p : Nat) (d : Nd) (z : Int) (hz : hasZ d.kids.length z = false) (r : Rg) (w : World) (h : InnerAt w p d) :
    Calls Tryz.prog 15 #[.pointer (some ⟨p, 0, none⟩), .int .i64 z, .agg #[.string (str r.lo), .string (str r.hi)]] w fun e w' => e = .returned (.agg #[.string (str []), .string (str [])]) ∧ Step noF w w' := by
  have h0 := nil_str
  have hh := fun w' (hs : Step noF w w') => hasN_any p d z w' (h.step hs)
  rw [hz] at hh
  have hh1 := hh _ ((Step.refl noF w).alloc (.cells #[.string (str r.lo), .string (str r.hi)] 26))
  have hh2 := hh _ (((Step.refl noF w).alloc (.cells #[.string (str r.lo), .string (str r.hi)] 26)).alloc (.cells #[.string (str []), .string (str [])] 26))
  have hs := ((Step.refl noF w).alloc (.cells #[.string (str r.lo), .string (str r.hi)] 26))
  have hsz : w.heap.size ≤ w.heap.size + 1 := Nat.le_succ _
  have HS := hid (And.intro hs hsz)
  clear hh h hs hsz
  go_enter Tryz.func15, Tryz.ntmps15
  go_wp2_with fail
  refine (by first | exact hh1 | exact hh2 : Calls _ _ _ _ _).mono ?_
  rintro e w' ⟨rfl, rfl⟩
  clear hh1 hh2
  go_wp2_with fail
  refine bodyPost_ret (v := .agg #[.string (str []), .string (str [])]) (by simp [results, Tryz.results15, go_sem, *]) rfl ?_
  refine ⟨rfl, ?_⟩
  first
    | exact HS.out.1.alloc _
    | exact ((HS.out.1.alloc _).setCell (p := ⟨w.heap.size + 1, 0, none⟩) (.inr HS.out.2) _).setCell (p := ⟨w.heap.size + 1, 1, none⟩) (.inr HS.out.2) _
theorem rangeZ_any (p : Nat) (d : Nd) (hl : d.pivs.length + 1 = d.kids.length) (hm : d.kids.length ≤ 1000) (z : Int) (r : Rg) (w : World) (h : InnerAt w p d) :
    Calls Tryz.prog 15 #[.pointer (some ⟨p, 0, none⟩), .int .i64 z, .agg #[.string (str r.lo), .string (str r.hi)]] w fun e w' => e = .returned (.agg #[.string (str (rangeZ r d.pivs d.kids.length z).lo), .string (str (rangeZ r d.pivs d.kids.length z).hi)]) ∧ Step noF w w' := by
  obtain ⟨ks, ps, ms⟩ := d
  simp only at hl hm ⊢
  unfold rangeZ
  cases hz : hasZ ks.length z
  · simp only [Bool.false_eq_true, if_false]
    exact rangeN_out p ⟨ks, ps, ms⟩ z hz r w h
  · simp only [if_true]
    have hz2 := hz
    unfold hasZ at hz2
    simp only [Bool.and_eq_true, decide_eq_true_eq] at hz2
    obtain ⟨i, rfl⟩ : ∃ i : Nat, z = (i : Int) := ⟨z.toNat, by omega⟩
    rw [Int.toNat_natCast]
    exact rangeN_any p ks ps ms hl (by omega) i (by omega) r w h
theorem refRangeZ_any (d : Nd) (hg : d.pivs.length + 1 = d.kids.length) (hl : d.kids.length ≤ 1000) (z : Int) (r : Rg) (v : Value) (w : World) (h : NdV w d v) :
    Calls Tryz.prog 16 #[v, .int .i64 z, .agg #[.string (str r.lo), .string (str r.hi)]] w fun e w' => e = .returned (.agg #[.string (str (rangeZ r d.pivs d.kids.length z).lo), .string (str (rangeZ r d.pivs d.kids.length z).hi)]) ∧ Step noF w w' := by
  refine (refRangeN_any d hg hl z r v w h).mono ?_
  rintro e w' ⟨rfl, hs⟩
  refine ⟨?_, hs⟩
  unfold rangeZ
  split <;> rfl

/-- What a Flush answers, whatever the kid. -/
def FlushZ (w : World) (d : Nd) (z : Int) (x : Option Addr) (la : Option Addr) (ln lc : Nat) (f : Int) : Prop :=
  (hasZ d.kids.length z = false → x = none ∧ ln = 0 ∧ f = 3) ∧ (hasZ d.kids.length z = true → f = 0 ∧ (∃ p', x = some ⟨p', 0, none⟩ ∧ InnerAt w p' ⟨d.kids, d.pivs, dropM (rangeN ⟨[], []⟩ d.pivs z.toNat) d.ms⟩) ∧ ln = (takeM (rangeN ⟨[], []⟩ d.pivs z.toNat) d.ms).length ∧ MsgsAt w noF la (takeM (rangeN ⟨[], []⟩ d.pivs z.toNat) d.ms))
theorem flushZ_any (p : Nat) (d : Nd) (hd : NdOk d) (z : Int) (w : World) (h : InnerAt w p d) :
    Calls Tryz.prog 17 #[.pointer (some ⟨p, 0, none⟩), .int .i64 z] w fun e w' => ∃ x la ln lc f, e = .returned (.tuple #[.pointer x, .slice la ln lc, .int .i64 f]) ∧ Hid (FlushZ w' d z x la ln lc f) ∧ Hid (Step noF w w') := by
  cases hz : hasZ d.kids.length z
  · refine (flushN_no p d z hz w h).mono ?_
    rintro e w' ⟨rfl, rfl⟩
    exact ⟨none, none, 0, 0, 3, rfl, ⟨(fun _ => ⟨rfl, rfl, rfl⟩), (fun h => by rw [hz] at h; cases h)⟩, Step.refl _ _⟩
  · obtain ⟨i, rfl, hi⟩ := hasZ_true hz
    refine (flushN_any p d hd i hi w h).mono ?_
    rintro e w' ⟨p', a', c', rfl, _, hin, hm, hs⟩
    exact ⟨_, _, _, _, _, rfl, ⟨(fun h => by rw [hz] at h; cases h), fun _ => ⟨rfl, ⟨p', rfl, hin.out⟩, rfl, hm.out⟩⟩, hs.out⟩

set_option maxHeartbeats 8000000 in
theorem innerExact_any (ks : List Int) (hkl : ks.length ≤ maxLen) (ka : Option Addr) (kc : Nat) (hkc : ka = none → kc = 0) (hkn : ks.length ≤ kc) (ps : List (List UInt8)) (hpl : ps.length ≤ maxLen) (hpq : ∀ x ∈ ps, x.length ≤ maxLen) (pa : Option Addr) (pc : Nat) (hpc : pa = none → pc = 0) (hpn : ps.length ≤ pc)
    (ms : List Mg) (hml : ms.length ≤ maxLen) (hmq : ∀ m ∈ ms, m.key.length ≤ maxLen ∧ m.val.length ≤ maxLen) (a : Option Addr) (c : Nat) (hc : a = none → c = 0) (ns : List Mg) (hnl : ns.length ≤ maxLen) (hnq : ∀ m ∈ ns, m.key.length ≤ maxLen ∧ m.val.length ≤ maxLen) (na : Option Addr) (nc : Nat) (hnc : na = none → nc = 0)
    (k : List UInt8) (hk : k.length ≤ maxLen) (z : Int) (r : Rg) (hrl : r.lo.length ≤ maxLen) (hrh : r.hi.length ≤ maxLen) (w : World) (hK : RowAt w noF ka (intsOf ks)) (hP : RowAt w noF pa (texts ps)) (hM : MsgsAt w noF a ms) (hN : MsgsAt w noF na ns) :
    Calls Tryz.prog 3 #[.slice ka ks.length kc, .slice pa ps.length pc, .slice a ms.length c, .slice na ns.length nc, .string (str k), .int .i64 z, .agg #[.string (str r.lo), .string (str r.hi)]] w fun e w' => e = .returned (.bool true) ∧ Step noF w w' := by
  have hE := same_str
  have hz := str_size
  have h0 := nil_str
  have cG := greatN_any ks hkl ps hpl hpq ms hml hmq ka pa a kc pc c
  have cG2 := greatN_any [] (Nat.zero_le _) [] (Nat.zero_le _) (fun x h => by cases h) ns hnl hnq none none na 0 0 nc
  simp only [List.length_nil] at cG2
  unfold maxLen at hk hrl hrh
  have HK := hid hK
  have HP := hid hP
  have HM := hid hM
  have HN := hid hN
  have HCK := hid (And.intro hkc hkn)
  have HCP := hid (And.intro hpc hpn)
  have HC := hid hc
  have HNC := hid hnc
  have HQ := hid hmq
  have HNQ := hid hnq
  clear hK hP hM hN hpq hkl hpl hkc hpc hc hml hmq hkn hpn hnc hnl hnq
  go_enter Tryz.func3, Tryz.ntmps3
  go_wp2_with fail
  refine (awakeN_any _).mono ?_
  rintro e w1 ⟨rfl, s1⟩
  have PR := hid ((pair_new w 26 r.lo r.hi).step s1)
  have b0 := PR.out.c0
  have b1 := PR.out.c1
  have S1 : Hid (Step noF w w1) := ((Step.refl noF w).alloc _).trans s1
  clear s1
  go_wp2_with fail
  refine (cG w1 (rowAt_step HP.out S1.out (fun _ _ h => h)) (HM.out.stepB S1.out)).mono ?_
  rintro e w1' ⟨hg, rfl⟩
  rcases hg with rfl | ⟨rfl, hk30, hp30, hm40, _, _⟩
  · go_wp2_with fail
    go_ret
    exact ⟨rfl, S1.out⟩
  go_wp2_with fail
  refine (cG2 w1 (.inl rfl) (HN.out.stepB S1.out)).mono ?_
  rintro e w1' ⟨hg, rfl⟩
  rcases hg with rfl | ⟨rfl, _, _, hn40, _, _⟩
  · go_wp2_with fail
    go_ret
    exact ⟨rfl, S1.out⟩
  by_cases gk : 512 < k.length
  · have gkz : (512 : Int) < (k.length : Int) := by omega
    go_wp2_with fail
    go_ret
    exact ⟨rfl, S1.out⟩
  have gkz : ¬ (512 : Int) < (k.length : Int) := by omega
  by_cases gl : 512 < r.lo.length
  · have glz : (512 : Int) < (r.lo.length : Int) := by omega
    go_wp2_with fail
    go_ret
    exact ⟨rfl, S1.out⟩
  have glz : ¬ (512 : Int) < (r.lo.length : Int) := by omega
  by_cases gh : 512 < r.hi.length
  · have ghz : (512 : Int) < (r.hi.length : Int) := by omega
    go_wp2_with fail
    go_ret
    exact ⟨rfl, S1.out⟩
  have ghz : ¬ (512 : Int) < (r.hi.length : Int) := by omega
  have cO := ofN_any ks ps ms (by omega) (by omega) (by omega) (fun m hm => (HQ.out m hm).2) ka pa a kc pc c HCK.out.1 HCP.out.1 HC.out w1 (rowAt_step HK.out S1.out (fun _ _ h => h)) (rowAt_step HP.out S1.out (fun _ _ h => h)) (HM.out.stepB S1.out)
  have cV := fun w' (hs : Step noF w w') => refOfN_any ks ps ms (by omega) (by omega) (by omega) ka pa a kc pc c w' (rowAt_step HK.out hs (fun _ _ h => h)) HCK.out.1 HCK.out.2 (rowAt_step HP.out hs (fun _ _ h => h)) HCP.out.1 HCP.out.2 (HM.out.stepB hs)
  go_wp2_with fail
  refine cO.mono ?_
  rintro e w2 ⟨ho, s2⟩
  have S2 := hid (S1.out.trans s2)
  have PR2 := hid (PR.out.step s2)
  have cv := cV w2 S2.out
  clear cO cG cG2 gkz glz ghz gk gl gh cV b0 b1
  rcases ho with ⟨h1, rfl⟩ | ⟨h1, p, rfl, hi⟩
  · go_wp2_with fail
    refine cv.mono ?_
    rintro e w3 ⟨hv, s3⟩
    have S3 := hid (S2.out.trans s3)
    rcases hv with ⟨_, rfl⟩ | ⟨h2, _⟩
    · go_wp2_with fail
      go_ret
      exact ⟨rfl, S3.out.alloc _⟩
    · rw [h1] at h2
      cases h2
  have hok := ndOk_of h1 (by omega) (by omega)
  have HAL := hid h1
  obtain ⟨u, hu⟩ : ∃ u, putsM ms [] = u := ⟨_, rfl⟩
  rw [hu] at hi hok cv
  have hul : u.length ≤ 40 := by
    have := putsM_len ms []
    rw [hu] at this
    simp at this
    omega
  have I2 := hid hi
  have OK := hid hok
  have hlen := hok.len
  simp only at hlen
  obtain ⟨n, hn⟩ : ∃ n, ks.length = n := ⟨_, rfl⟩
  have HNN := hid hn
  rw [hn] at hk30 hlen
  clear hi hok hu s2
  rw [hn]
  go_wp2_with fail
  refine (hn ▸ cv).mono ?_
  rintro e w3 ⟨hv, s3⟩
  rcases hv with ⟨h2, _⟩ | ⟨_, v, rfl, hv⟩
  · rw [HAL.out] at h2
    cases h2
  have hv2 := hv
  obtain ⟨ka', pa', a', kc', pc', c', rfl, hr'⟩ := hv
  simp only [hn] at hv2
  simp only at hr'
  obtain ⟨pn, hpn⟩ : ∃ x, ps.length = x := ⟨_, rfl⟩
  obtain ⟨un, hun⟩ : ∃ x, u.length = x := ⟨_, rfl⟩
  rw [hpn, hun] at hv2
  have HPN := hid hpn
  have HUN := hid hun
  have BX := box_new w3 (.slice ka' n kc') (.slice pa' pn pc') (.slice a' un c')
  have S3 := S2.out.trans (s3.trans ((Step.refl noF w3).alloc (.cells #[.slice ka' n kc', .slice pa' pn pc', .slice a' un c'] 34)))
  have S23 := s3.trans ((Step.refl noF w3).alloc (.cells #[.slice ka' n kc', .slice pa' pn pc', .slice a' un c'] 34))
  have HVV := NdV.step hv2 ((Step.refl noF w3).alloc (.cells #[.slice ka' n kc', .slice pa' pn pc', .slice a' un c'] 34))
  obtain ⟨W4, hW4⟩ : ∃ W4, w3.alloc (.cells #[.slice ka' n kc', .slice pa' pn pc', .slice a' un c'] 34) = W4 := ⟨_, rfl⟩
  rw [hW4] at BX S3 S23 HVV
  obtain ⟨g, hgg⟩ : ∃ g, w3.heap.size = g := ⟨_, rfl⟩
  rw [hgg] at BX
  have S4 := hid S3
  have B4 := hid BX
  have V4 := hid HVV
  have I4 := hid (I2.out.step S23)
  have PR4 := hid (PR2.out.step S23)
  obtain ⟨u0, u1, u2, _, _, _⟩ := BX.all
  clear BX S3 S23 HVV hv2 hr' s3 PR PR2 I2 cv S2 S1
  go_upto_region 9 with fail
  clear hW4 hgg
  have c87 := fun w' (hs : Step noF W4 w') => formV_any p ⟨ks, ps, u⟩ ⟨by simp only; omega, by simp only; omega, by simp only; omega⟩ w' (I4.out.step hs)
  have c89 := fun x w' (hs : Step noF W4 w') (hx : NdV w' ⟨ks, ps, u⟩ x) => sameV_any ⟨ks, ps, u⟩ ⟨by simp only; omega, by simp only; omega, by simp only; omega⟩ x _ w' hx (V4.out.step hs)
  have c94 : ∀ w', Step noF W4 w' → Calls Tryz.prog 12 #[.pointer (some ⟨p, 0, none⟩)] w' fun e w'' => e = .returned (.int .i64 n) ∧ Step noF w' w'' := fun w' hs => by
    refine (lenN_any p ⟨ks, ps, u⟩ w' (I4.out.step hs)).mono ?_
    rintro e w'' ⟨rfl, rfl⟩
    exact ⟨by simp only [hn], Step.refl _ _⟩
  have c102 := fun w' (hs : Step noF W4 w') => kidOfN_any p ⟨ks, ps, u⟩ OK.out.1 (by simp only; omega) k w' (I4.out.step hs)
  have c105 := fun w' (hs : Step noF W4 w') => refKidOf_any ⟨ks, ps, u⟩ (by simp only; omega) k _ w' (V4.out.step hs)
  simp only at c102 c105
  obtain ⟨kd, hkd⟩ : ∃ x, kidOf ps k = x := ⟨_, rfl⟩
  rw [hkd] at c102 c105
  change Code.wp _ (Code.region 9 ((Tryz.f3.body.bind (regionOps 9)).getD #[]) true) _ _ _
  refine inxa_go p g n kd ka kc _ _ _ k ⟨ks, ps, u⟩ W4 u0 u1 u2 c87 c89 c94 c102 c105 _ rfl rfl rfl rfl rfl rfl ?_
  intro ff wz sz e107
  have e107' : ff 107 = .bool false := e107
  have SZ := hid sz
  clear sz e107 c87 c89 c94 c102 c105 u0 u1 u2 hkd
  rw [inxa_lit, e107']
  obtain ⟨RL, hRL⟩ : ∃ x, (rangeZ r ps n z).lo = x := ⟨_, rfl⟩
  obtain ⟨RH, hRH⟩ : ∃ x, (rangeZ r ps n z).hi = x := ⟨_, rfl⟩
  have b0 := (PR4.out.step SZ.out).c0
  have b1 := (PR4.out.step SZ.out).c1
  have cRZ := rangeZ_any p ⟨ks, ps, u⟩ (by simp only; omega) (by simp only; omega) z r wz (I4.out.step SZ.out)
  have cQZ := fun w' (hs : Step noF W4 w') => refRangeZ_any ⟨ks, ps, u⟩ (by simp only; omega) (by simp only; omega) z r _ w' (V4.out.step hs)
  simp only [hn, hRL, hRH] at cRZ cQZ
  clear hRL hRH
  go_wp2_with fail
  refine cRZ.mono ?_
  rintro e w5 ⟨rfl, s5⟩
  have st5 := (Step.refl noF w5).alloc (.cells #[.string (str RL), .string (str RH)] 26)
  have S5 := hid (SZ.out.trans (s5.trans st5))
  obtain ⟨u0, u1, u2, _, _, _⟩ := (B4.out.step S5.out).all
  have PA := hid (pair_new w5 26 RL RH)
  have d0 := (PR4.out.step S5.out).c0
  have d1 := (PR4.out.step S5.out).c1
  have cq := cQZ _ S5.out
  clear b0 b1 cRZ s5 st5 cQZ
  go_wp2_with fail
  refine cq.mono ?_
  rintro e w6 ⟨rfl, s6⟩
  have st6 := (Step.refl noF w6).alloc (.cells #[.string (str RL), .string (str RH)] 42)
  have S6 := hid (S5.out.trans (s6.trans st6))
  have b0 := (PA.out.step (s6.trans st6)).c0
  have b1 := (PA.out.step (s6.trans st6)).c1
  have d2 := (pair_new w6 42 RL RH).c0
  have d3 := (pair_new w6 42 RL RH).c1
  have cF := flushZ_any p ⟨ks, ps, u⟩ OK.out z _ (I4.out.step S6.out)
  clear d0 d1 cq s6 st6 u0 u1 u2
  go_wp2_with fail
  refine cF.mono ?_
  rintro e w7 ⟨x, la, ln, lc, f, rfl, HF, s7⟩
  have S7 := hid (S6.out.trans s7.out)
  have HF7 := HF
  clear cF b0 b1 d2 d3 s7 HF PA
  obtain ⟨bz, hbz⟩ : ∃ b, hasZ n z = b := ⟨_, rfl⟩
  have HBZ := hid hbz
  clear hbz
  go_upto_region 16 with fail
  go_cut [146] from 139 (fun s146 wx => s146 = .bool (!bz) ∧ wx = w7)
  case first =>
    by_cases hz0 : z < 0
    · have hz1 : hasZ n z = false := by unfold hasZ; rw [decide_eq_false (by omega), Bool.false_and]
      go_wp2_with fail
      go_meet
      exact ⟨by rw [← HBZ.out, hz1]; rfl, rfl⟩
    · by_cases hz2 : z < (n : Int)
      · have hz1 : hasZ n z = true := by unfold hasZ; rw [decide_eq_true (by omega), decide_eq_true hz2]; rfl
        have hz3 : ¬ (n : Int) ≤ z := by omega
        go_wp2_with fail
        go_meet
        exact ⟨by rw [← HBZ.out, hz1]; rfl, rfl⟩
      · have hz1 : hasZ n z = false := by unfold hasZ; rw [decide_eq_false hz2, Bool.and_false]
        have hz3 : (n : Int) ≤ z := by omega
        go_wp2_with fail
        go_meet
        exact ⟨by rw [← HBZ.out, hz1]; rfl, rfl⟩
  case rest =>
    obtain ⟨rfl, hwc⟩ := hcut
    subst hwc
    go_upto_if 146 with fail
    go_cut [24, 25] from 147 (fun s24 s25 wx => Hid (Step noF W4 wx))
    case first =>
      cases bz
      · obtain ⟨rfl, rfl, rfl⟩ := HF7.out.1 (by simp only [hn]; exact HBZ.out)
        go_wp2_with fail
        go_meet
        exact S7.out
      · obtain ⟨rfl, ⟨p', rfl, hin⟩, hln, hmt⟩ := HF7.out.2 (by simp only [hn]; exact HBZ.out)
        obtain ⟨i, hzi, hi⟩ := hasZ_true HBZ.out
        subst hzi
        simp only [Int.toNat_natCast] at hin hmt hln
        obtain ⟨RG, hRG⟩ : ∃ x, rangeN ⟨[], []⟩ ps i = x := ⟨_, rfl⟩
        have cFl := refFlushN_any ⟨ks, ps, u⟩ OK.out i (by simp only [hn]; exact hi) _ _ (V4.out.step S7.out)
        simp only [hRG] at cFl hin hmt hln
        have hdl := dropM_len RG u
        have htl := takeM_len RG u
        obtain ⟨u0, u1, u2, _, _, _⟩ := (B4.out.step S7.out).all
        have HIN := hid hin
        have HMT := hid hmt
        have HRG := hid hRG
        have HLNN := hid hln
        clear hin hmt HF7 hln
        go_wp2_with fail
        refine cFl.mono ?_
        rintro e w8 ⟨v8, q8, rfl, n8, m8, s8⟩
        obtain ⟨DR, hDR⟩ : ∃ x, dropM RG u = x := ⟨_, rfl⟩
        obtain ⟨TR, hTR⟩ : ∃ x, takeM RG u = x := ⟨_, rfl⟩
        rw [hDR] at n8 hdl
        rw [hTR] at m8 htl
        have HDR := hid hDR
        have HTR := hid hTR
        have hin2 := HIN.out
        rw [hDR] at hin2
        have hmt2 := HMT.out
        rw [hTR] at hmt2
        have htn : TR.length = ln := by rw [← hTR]; exact HLNN.out.symm
        clear hDR hTR HIN HMT
        obtain ⟨dn, hdn⟩ : ∃ x, DR.length = x := ⟨_, rfl⟩
        have n8' := n8
        obtain ⟨kb, pb, ab, kbc, pbc, abc, rfl, _⟩ := n8
        simp only [hn, hpn, hdn] at n8'
        obtain ⟨aq, cq, rfl, _, mq⟩ := m8
        have st9 := (Step.refl noF w8).alloc (.cells #[.slice kb n kbc, .slice pb pn pbc, .slice ab dn abc] 34)
        have BX9 := box_new w8 (.slice kb n kbc) (.slice pb pn pbc) (.slice ab dn abc)
        have N9 := hid (NdV.step n8' st9)
        have I9 := hid (hin2.step (s8.trans st9))
        have MA := hid (hmt2.stepB (s8.trans st9))
        have MB := hid (mq.stepB st9)
        have T9 := hid (S7.out.trans (s8.trans st9))
        obtain ⟨W9, hW9⟩ : ∃ W9, w8.alloc (.cells #[.slice kb n kbc, .slice pb pn pbc, .slice ab dn abc] 34) = W9 := ⟨_, rfl⟩
        rw [hW9] at BX9 N9 I9 MA MB T9
        obtain ⟨g9, hg9⟩ : ∃ g, w8.heap.size = g := ⟨_, rfl⟩
        rw [hg9] at BX9
        clear u0 u1 u2
        obtain ⟨u0, u1, u2, _, _, _⟩ := BX9.all
        clear BX9 s8 st9 mq n8' hin2 hmt2 cFl
        go_upto_region 20 with fail
        clear hW9 hg9
        have c172 := fun w' (hs : Step noF W9 w') => formV_any p' ⟨ks, ps, DR⟩ ⟨by simp only; omega, by simp only; omega, by simp only; omega⟩ w' (I9.out.step hs)
        have c174 := fun x w' (hs : Step noF W9 w') (hx : NdV w' ⟨ks, ps, DR⟩ x) => sameV_any ⟨ks, ps, DR⟩ ⟨by simp only; omega, by simp only; omega, by simp only; omega⟩ x _ w' hx (N9.out.step hs)
        have c180 := fun w' (hs : Step noF W9 w') => refSameB_any TR TR ⟨by omega, by omega⟩ la aq lc cq w' (MA.out.stepB hs) (MB.out.stepB hs)
        rw [htn, sameM_self] at c180
        change Code.wp _ (Code.region 20 ((Tryz.f3.body.bind (regionOps 20)).getD #[]) true) _ _ _
        refine inxb_go p' g9 _ _ _ _ _ ⟨ks, ps, DR⟩ W9 u0 u1 u2 c172 c174 c180 _ rfl rfl rfl rfl rfl rfl ?_
        intro fg wy sy e182
        have e182' : fg 182 = .bool false := e182
        have SY := hid (T9.out.trans sy)
        clear sy e182 c172 c174 c180 u0 u1 u2
        rw [inxb_lit, e182']
        go_wp2_with fail
        go_meet
        exact SY.out
    case rest =>
      have S8 := hcut
      obtain ⟨u0, u1, u2, _, _, _⟩ := (B4.out.step S8.out).all
      have cPut := putN_any p ⟨ks, ps, u⟩ OK.out ns (by omega) (fun m hm => (HNQ.out m hm).2) na nc HNC.out wc (I4.out.step S8.out) (HN.out.stepB (S4.out.trans S8.out))
      have cWi : ∀ w', Step noF W4 w' → Calls Tryz.prog 21 #[.slice a' un c', .slice na ns.length nc] w' fun e w'' => (ns.all Mg.is = false ∧ e = .returned (.tuple #[.slice none 0 0, .bool false]) ∨ (ns.all Mg.is = true ∧ ∃ v, e = .returned (.tuple #[v, .bool true]) ∧ MsV w'' v (putsM ns u))) ∧ Step noF w' w'' := fun w' hs => by
        obtain ⟨ka3, pa3, a3, kc3, pc3, c3, e3, _, _, m3, n3⟩ := V4.out.step hs
        injection e3 with e3
        injection e3 with e3
        simp only [List.cons.injEq, Value.slice.injEq, and_true] at e3
        obtain ⟨_, _, e4, e5, e6⟩ := e3
        subst e4 e6
        have h := refWithB_any u OK.out.2.2.1 OK.out.2.1 ns (by omega) a' c' n3 na nc w' m3 (HN.out.stepB (S4.out.trans hs))
        rw [hun] at h
        exact h
      go_wp2_with fail
      refine cPut.mono ?_
      rintro e w10 ⟨hpt, s10⟩
      have S10 := hid (S8.out.trans s10)
      have u2' := s10.after u2
      have cwi := cWi _ S10.out
      clear cPut cWi s10 u0 u1 u2
      rcases hpt with ⟨hb, rfl⟩ | ⟨hb, p2, rfl, hin⟩
      · have HB := hid hb
        clear hb
        go_wp2_with fail
        refine cwi.mono ?_
        rintro e w11 ⟨hw, s11⟩
        rcases hw with ⟨_, rfl⟩ | ⟨h2, _⟩
        · have S11 := hid (S10.out.trans s11)
          clear s11 cwi u2'
          obtain ⟨u0, u1, u2, _, _, _⟩ := (B4.out.step S11.out).all
          have c206 := fun w' (hs : Step noF w11 w') => formV_any p ⟨ks, ps, u⟩ ⟨by simp only; omega, by simp only; omega, by simp only; omega⟩ w' (I4.out.step (S11.out.trans hs))
          have c208 := fun x w' (hs : Step noF w11 w') (hx : NdV w' ⟨ks, ps, u⟩ x) => sameV_any ⟨ks, ps, u⟩ ⟨by simp only; omega, by simp only; omega, by simp only; omega⟩ x _ w' hx (V4.out.step (S11.out.trans hs))
          go_upto_region 25 with fail
          change Code.wp _ (Code.region 25 ((Tryz.f3.body.bind (regionOps 25)).getD #[]) true) _ _ _
          refine inxc_go p g _ _ _ ⟨ks, ps, u⟩ w11 u0 u1 u2 c206 c208 _ rfl rfl rfl rfl rfl ?_
          intro fg wy sy e14
          have e14' : fg 14 = .bool true := e14
          have SY := hid (S4.out.trans (S11.out.trans sy))
          clear sy e14 c206 c208 u0 u1 u2
          rw [inxc_lit, e14']
          go_wp2_with fail
          go_ret
          exact ⟨rfl, SY.out⟩
        · rw [HB.out] at h2
          cases h2
      · have HB := hid hb
        clear hb
        obtain ⟨PN, hPN⟩ : ∃ x, putsM ns u = x := ⟨_, rfl⟩
        have hpl := putsM_len ns u
        simp only at hin
        rw [hPN] at hin cwi hpl
        have I10 := hid hin
        clear hin hPN
        go_wp2_with fail
        refine cwi.mono ?_
        rintro e w11 ⟨hw, s11⟩
        rcases hw with ⟨h2, _⟩ | ⟨_, v11, rfl, hm11⟩
        · rw [HB.out] at h2
          cases h2
        have S11 := hid (S10.out.trans s11)
        have I11 := hid (I10.out.step s11)
        obtain ⟨a9, c9, rfl, n9, m9⟩ := hm11
        obtain ⟨l9, hl9⟩ : ∃ x, PN.length = x := ⟨_, rfl⟩
        have hnd2 : NdV w11 ⟨ks, ps, PN⟩ (.agg #[.slice ka ks.length kc, .slice pa ps.length pc, .slice a9 PN.length c9]) :=
          ⟨ka, pa, a9, kc, pc, c9, rfl, ⟨rowAt_step HK.out (S4.out.trans S11.out) (fun _ _ h => h), HCK.out.1, HCK.out.2⟩, ⟨rowAt_step HP.out (S4.out.trans S11.out) (fun _ _ h => h), HCP.out.1, HCP.out.2⟩, m9, n9⟩
        rw [hn, hpn, hl9] at hnd2
        have HND2 := hid hnd2
        clear s11 cwi u2' hnd2 m9 n9
        obtain ⟨u0, u1, u2, _, _, _⟩ := (B4.out.step S11.out).all
        have c218 := fun w' (hs : Step noF w11 w') => formV_any p2 ⟨ks, ps, PN⟩ ⟨by simp only; omega, by simp only; omega, by simp only; omega⟩ w' (I11.out.step hs)
        have c223 := fun x w' (hs : Step noF w11 w') (hx : NdV w' ⟨ks, ps, PN⟩ x) => sameV_any ⟨ks, ps, PN⟩ ⟨by simp only; omega, by simp only; omega, by simp only; omega⟩ x _ w' hx (HND2.out.step hs)
        have c227 := fun w' (hs : Step noF w11 w') => formV_any p ⟨ks, ps, u⟩ ⟨by simp only; omega, by simp only; omega, by simp only; omega⟩ w' (I4.out.step (S11.out.trans hs))
        have c229 := fun x w' (hs : Step noF w11 w') (hx : NdV w' ⟨ks, ps, u⟩ x) => sameV_any ⟨ks, ps, u⟩ ⟨by simp only; omega, by simp only; omega, by simp only; omega⟩ x _ w' hx (V4.out.step (S11.out.trans hs))
        go_upto_region 26 with fail
        change Code.wp _ (Code.region 26 ((Tryz.f3.body.bind (regionOps 26)).getD #[]) true) _ _ _
        refine inxd_go p p2 g _ _ _ ka pa a9 n pn l9 kc pc c9 ⟨ks, ps, u⟩ ⟨ks, ps, PN⟩ w11 u0 u1 u2 c218 c223 c227 c229 _ rfl rfl rfl rfl rfl rfl rfl rfl ?_
        intro fg wy sy e14
        have e14' : fg 14 = .bool true := e14
        have SY := hid (S4.out.trans (S11.out.trans sy))
        clear sy e14 c218 c223 c227 c229 u0 u1 u2
        rw [inxd_lit, e14']
        go_wp2_with fail
        go_ret
        exact ⟨rfl, SY.out⟩
end Go.Proofs.YtgmgoaencaldmaaGreat
namespace Go.Proofs.YtgmgoaencaldmaaGreat.innerExactDone
open Go.ChangeShapes Go.WideShapes Go.ChangeAt Go.RowKit
open Go.ChangeMaps (open_string shut_string)
set_option linter.unusedVariables false

set_option maxRecDepth 100000 in
theorem lifted (os : Os) (started : os.Started) (H : Type) (enc : TypeId × Value → H) :
    ReturnsInHanded {} Tryz.checked os 3 .any (Rows.innerExactSpec.pre6 enc Tryz.prog Tryz.f3 Rows.innerExactRow.domain false) (Rows.innerExactSpec.post enc Tryz.prog Tryz.f3 false true false false) := by
  refine returnsInHanded_of_change (C := Tryz.checked) own_okM started (by kernel_rfl) Tryz.func3
    (ChangeSpec.witness6 (enc := enc) (C := Tryz.checked) false ⟨#[], #[.slice none 0 0, .slice none 0 0, .slice none 0 0, .slice none 0 0, .string ⟨#[]⟩, .int .i64 0, .agg #[.string ⟨#[]⟩, .string ⟨#[]⟩]], []⟩ 8 (by kernel_rfl) (by kernel_rfl) (by kernel_rfl) (by kernel_rfl)) ?_
  intro W base args ds gs before hval0 hW hcnd _
  have hval : ∀ (j : Nat) t v, Tryz.f3.params[j]? = some t → args[j]? = some v → Value.okWide Tryz.prog W .any base t v := hval0
  have hW' := hW
  obtain ⟨p, q, hA0, hV, rfl, hfz, hnd⟩ := hW
  have hA : DataW.TrodAll enc Tryz.prog W 0 (fun _ => true) true Tryz.f3.params.toList args.toList ds p := hA0
  rw [Tryz.params3] at hA hval
  obtain ⟨v0, vs0, d0, ds0, p0, q0, hargs, rfl, rfl, h0, r0_⟩ := trodAll_cons hA
  obtain ⟨v1, vs1, d1, ds1, p1, q1, rfl, rfl, rfl, h1, r1_⟩ := trodAll_cons r0_
  obtain ⟨v2, vs2, d2, ds2, p2, q2, rfl, rfl, rfl, h2, r2_⟩ := trodAll_cons r1_
  obtain ⟨v3, vs3, d3, ds3, p3, q3, rfl, rfl, rfl, h3, r3_⟩ := trodAll_cons r2_
  obtain ⟨v4, vs4, d4, ds4, p4, q4, rfl, rfl, rfl, h4, r4_⟩ := trodAll_cons r3_
  obtain ⟨v5, vs5, d5, ds5, p5, q5, rfl, rfl, rfl, h5, r5_⟩ := trodAll_cons r4_
  obtain ⟨v6, vs6, d6, ds6, p6, q6, rfl, rfl, rfl, h6, r6_⟩ := trodAll_cons r5_
  obtain ⟨rfl, rfl, rfl⟩ := trodAll_nil r6_
  obtain rfl : args = #[v0, v1, v2, v3, v4, v5, v6] := by cases args; simp_all
  obtain ⟨rfl, rfl⟩ := trodVars_none hV
  have k0 := h0
  have lt0 : ∀ x ∈ p0, x.block < W.heap.size := by obtain ⟨m, hm⟩ := k0; exact DataW.trod_lt m _ _ _ hm
  obtain ⟨a0, len0, cap0, rfl⟩ := okWide_slice Tryz.underlying22 (hval 0 22 v0 rfl rfl)
  obtain ⟨⟨hb0, hc0⟩, zs0, hzl0, hzs0⟩ := open_intsN h0
  have hn0 := open_capN Tryz.underlying22 h0
  subst hzl0
  have k1 := h1
  have lt1 : ∀ x ∈ p1, x.block < W.heap.size := by obtain ⟨m, hm⟩ := k1; exact DataW.trod_lt m _ _ _ hm
  obtain ⟨a1, len1, cap1, rfl⟩ := okWide_slice Tryz.underlying23 (hval 1 23 v1 rfl rfl)
  obtain ⟨hb1, ps1, hpl1, hps1, hmb1⟩ := open_textsK h1
  have hc1 := open_cap Tryz.underlying23 h1
  have hn1 := open_capN Tryz.underlying23 h1
  subst hpl1
  have k2 := h2
  have lt2 : ∀ x ∈ p2, x.block < W.heap.size := by obtain ⟨m, hm⟩ := k2; exact DataW.trod_lt m _ _ _ hm
  obtain ⟨a2, len2, cap2, rfl⟩ := okWide_slice Tryz.underlying24 (hval 2 24 v2 rfl rfl)
  obtain ⟨⟨hb2, hc2⟩, ms2, hnl2, hms2, hmb2⟩ := open_mss h2
  subst hnl2
  have k3 := h3
  have lt3 : ∀ x ∈ p3, x.block < W.heap.size := by obtain ⟨m, hm⟩ := k3; exact DataW.trod_lt m _ _ _ hm
  obtain ⟨a3, len3, cap3, rfl⟩ := okWide_slice Tryz.underlying24 (hval 3 24 v3 rfl rfl)
  obtain ⟨⟨hb3, hc3⟩, ms3, hnl3, hms3, hmb3⟩ := open_mss h3
  subst hnl3
  obtain ⟨s4, rfl, rfl, rfl, hs4⟩ := open_string Tryz.underlying9 (hval 4 9 v4 rfl rfl) h4
  obtain ⟨z5, rfl, rfl, rfl, wz5⟩ := open_int Tryz.underlying3 (hval 5 3 v5 rfl rfl) h5
  have k6 := h6
  have lt6 : ∀ x ∈ p6, x.block < W.heap.size := by obtain ⟨m, hm⟩ := k6; exact DataW.trod_lt m _ _ _ hm
  obtain ⟨r6, rfl, hrl6, hrh6⟩ := open_rgK (hval 6 26 v6 rfl rfl) h6
  clear hA0 hval0
  have hw := innerExact_any zs0 hb0 a0 cap0 hc0 hn0 ps1 hb1 hmb1 a1 cap1 hc1 hn1 ms2 hb2 hmb2 a2 cap2 hc2 ms3 hb3 hmb3 a3 cap3 hc3 s4.data.toList (by rw [list_len]; exact hs4) z5 r6 hrl6 hrh6 W hzs0 hps1 hms2 hms3
  rw [← str_of s4] at hw
  refine hw.mono fun e W' ⟨he, hst⟩ => ?_
  subst he
  have bel : Below W.heap.size W W' := hst.below (fun k hk => hk.elim)
  exact ⟨_, rfl, _, _, _, [], _, [], hW', trodAll_mk1 (shut_bool Tryz.underlying4 _),
    (trodAll_cons_mk (Below.trod laidOutM (by kernel_rfl) (of_decide_eq_true (by kernel_rfl)) k0 bel lt0) (trodAll_cons_mk (Below.trod laidOutM (by kernel_rfl) (of_decide_eq_true (by kernel_rfl)) k1 bel lt1) (trodAll_cons_mk (Below.trod laidOutM (by kernel_rfl) (of_decide_eq_true (by kernel_rfl)) k2 bel lt2) (trodAll_cons_mk (Below.trod laidOutM (by kernel_rfl) (of_decide_eq_true (by kernel_rfl)) k3 bel lt3) (trodAll_cons_mk (shut_string Tryz.underlying9 hs4) (trodAll_cons_mk (shut_int Tryz.underlying3 wz5) (trodAll_cons_mk (Below.trod laidOutM (by kernel_rfl) (of_decide_eq_true (by kernel_rfl)) k6 bel lt6) trodAll_mk0))))))), rfl, bel.frame _, fun h => by cases h⟩

theorem over : Rows.innerExactRow.holds Tryz.pinned (OpenSpec.ofChange Rows.innerExactSpec) :=
  OpenClaim.holds_of_wide 3 Tryz.f3 rfl rfl rfl rfl rfl rfl rfl ⟨rfl, rfl, rfl, rfl, rfl⟩ rfl rfl rfl rfl rfl (by kernel_rfl) Tryz.func3 (by kernel_rfl)
    (of_decide_eq_true (by kernel_rfl)) (by unfold Func.isWrapper; first | (rw [if_pos (by decide +kernel)]; kernel_rfl) | (rw [if_neg (by decide +kernel)]; exact ⟨rfl, rfl⟩))
    (fun os started H enc _ => lifted os started H enc)
end Go.Proofs.YtgmgoaencaldmaaGreat.innerExactDone
namespace Go.Proofs.YtgmgoaencaldmaaGreat
theorem innerExact_holds : Rows.InnerExactSaid := innerExactDone.over
end Go.Proofs.YtgmgoaencaldmaaGreat
