/-
  The region that draws in grangerref06.Pool.Left (number 1), operation by operation. Written by draw2.py.
-/
import Derived.Test.YtmijbplhmjledaaFull
import Derived.Test.YtmijbplhmjledaaTkRB
namespace Go.Proofs.Ytmijbplhmjledaa
open Go.RowKit
set_option linter.unusedVariables false
set_option linter.unusedSimpArgs false


def rlrDl : List (Option Nat) := [some 3, some 4, some 5, some 6, some 7, some 8, some 9, some 10, some 11, some 12, some 2]
theorem rlr_dl : ((Try.f19.body.bind (regionOps 1)).getD #[]).toList.map (·.dst) = rlrDl := by kernel_rfl
theorem rlr_back : backB ((Try.f19.body.bind (regionOps 1)).getD #[]) = true := by kernel_rfl
theorem rlr_size : ((Try.f19.body.bind (regionOps 1)).getD #[]).size = 11 := by kernel_rfl
theorem rlr_nd : rlrDl.Pairwise (fun x y => x = none ∨ x ≠ y) := by decide
theorem rlr_lt (d : Nat) (h : some d ∈ rlrDl) : d < 13 := by
  have hh : rlrDl.all (fun o => o.all (fun d => decide (d < 13))) = true := by decide
  simpa using List.all_eq_true.1 hh _ h
def rlrVals (u : Nat) (fr h r : Int) : List Value := [.pointer (some ⟨u, 0, none⟩), .int .i64 fr, .pointer (some ⟨u, 0, none⟩), .int .i64 h, .int .i64 (fr - h), .pointer (some ⟨u, 0, none⟩), .pointer (some ⟨u, 0, none⟩), .pointer (some ⟨u, 2, none⟩), .int .i64 r, .int .i64 (fr - h - r), .int .i64 (fr - h - r)]
theorem rlrOp0 : opIs ((Try.f19.body.bind (regionOps 1)).getD #[]) 0 (some 3) (Op.move (Operand.tmp 0)) (none) := opIs_of (by kernel_rfl)
theorem rlrOp1 : opIs ((Try.f19.body.bind (regionOps 1)).getD #[]) 1 (some 4) (Op.call { callee := Callee.value (Operand.func 15), args := #[Operand.tmp 3, Operand.const (Value.int IntKind.i64 3)], argTypes := #[26, 3] }) (none) := opIs_of (by kernel_rfl)
theorem rlrOp2 : opIs ((Try.f19.body.bind (regionOps 1)).getD #[]) 2 (some 5) (Op.move (Operand.tmp 0)) (none) := opIs_of (by kernel_rfl)
theorem rlrOp3 : opIs ((Try.f19.body.bind (regionOps 1)).getD #[]) 3 (some 6) (Op.call { callee := Callee.value (Operand.func 17), args := #[Operand.tmp 5], argTypes := #[26] }) (none) := opIs_of (by kernel_rfl)
theorem rlrOp4 : opIs ((Try.f19.body.bind (regionOps 1)).getD #[]) 4 (some 7) (Op.binOp BinOp.sub 3 (Operand.tmp 4) (Operand.tmp 6) 3) (none) := opIs_of (by kernel_rfl)
theorem rlrOp5 : opIs ((Try.f19.body.bind (regionOps 1)).getD #[]) 5 (some 8) (Op.move (Operand.tmp 0)) (none) := opIs_of (by kernel_rfl)
theorem rlrOp6 : opIs ((Try.f19.body.bind (regionOps 1)).getD #[]) 6 (some 9) (Op.nilCheck (Operand.tmp 8)) (none) := opIs_of (by kernel_rfl)
theorem rlrOp7 : opIs ((Try.f19.body.bind (regionOps 1)).getD #[]) 7 (some 10) (Op.fieldAddr 35 (Operand.tmp 9) 2) (none) := opIs_of (by kernel_rfl)
theorem rlrOp8 : opIs ((Try.f19.body.bind (regionOps 1)).getD #[]) 8 (some 11) (Op.load 3 (Operand.tmp 10)) (none) := opIs_of (by kernel_rfl)
theorem rlrOp9 : opIs ((Try.f19.body.bind (regionOps 1)).getD #[]) 9 (some 12) (Op.binOp BinOp.sub 3 (Operand.tmp 7) (Operand.tmp 11) 3) (none) := opIs_of (by kernel_rfl)
theorem rlrOp10 : opIs ((Try.f19.body.bind (regionOps 1)).getD #[]) 10 (some 2) (Op.assign (Operand.tmp 12)) (none) := opIs_of (by kernel_rfl)

theorem rlrStep0 (u : Nat) (fr h r : Int) (w1 : wrap64 (fr - h) = fr - h) (w2 : wrap64 (fr - h - r) = fr - h - r) (w3 : IntKind.i64.wrap (fr - h) = fr - h) (w4 : IntKind.i64.wrap (fr - h - r) = fr - h - r) {Q : Exit → Act → World → Prop} (a : Act) (w : World) (v2 : w.cell? ⟨u, 2, none⟩ = some (.int .i64 r)) (k0 : Calls Try.prog 15 #[.pointer (some ⟨u, 0, none⟩), .int .i64 3] w fun e w' => e = .returned (.int .i64 fr) ∧ Step noF w w') (k1 : Calls Try.prog 17 #[.pointer (some ⟨u, 0, none⟩)] w fun e w' => e = .returned (.int .i64 h) ∧ Step noF w w') (h0 : a.tmps.getD 0 undef = .pointer (some ⟨u, 0, none⟩)) (hat : ∀ jj ∈ deps ((Try.f19.body.bind (regionOps 1)).getD #[]) 0, ∀ dd vv, rlrDl[jj]? = some (some dd) → (rlrVals u fr h r)[jj]? = some vv → a.tmps.getD dd undef = vv) :
    wpOp Try.prog ((Try.f19.body.bind (regionOps 1)).getD #[]) Q 0 (fun a' w' => ∃ dd vv, rlrDl[0]? = some (some dd) ∧ (rlrVals u fr h r)[0]? = some vv ∧ a' = a.put (some dd) vv ∧ Step noF w w') a w := by
  exact val_runs_g rlrOp0 rfl rfl (wants_none a) (runs_move (show a.eval _ = _ from h0))

theorem rlrStep1 (u : Nat) (fr h r : Int) (w1 : wrap64 (fr - h) = fr - h) (w2 : wrap64 (fr - h - r) = fr - h - r) (w3 : IntKind.i64.wrap (fr - h) = fr - h) (w4 : IntKind.i64.wrap (fr - h - r) = fr - h - r) {Q : Exit → Act → World → Prop} (a : Act) (w : World) (v2 : w.cell? ⟨u, 2, none⟩ = some (.int .i64 r)) (k0 : Calls Try.prog 15 #[.pointer (some ⟨u, 0, none⟩), .int .i64 3] w fun e w' => e = .returned (.int .i64 fr) ∧ Step noF w w') (k1 : Calls Try.prog 17 #[.pointer (some ⟨u, 0, none⟩)] w fun e w' => e = .returned (.int .i64 h) ∧ Step noF w w') (h0 : a.tmps.getD 0 undef = .pointer (some ⟨u, 0, none⟩)) (hat : ∀ jj ∈ deps ((Try.f19.body.bind (regionOps 1)).getD #[]) 1, ∀ dd vv, rlrDl[jj]? = some (some dd) → (rlrVals u fr h r)[jj]? = some vv → a.tmps.getD dd undef = vv) :
    wpOp Try.prog ((Try.f19.body.bind (regionOps 1)).getD #[]) Q 1 (fun a' w' => ∃ dd vv, rlrDl[1]? = some (some dd) ∧ (rlrVals u fr h r)[1]? = some vv ∧ a' = a.put (some dd) vv ∧ Step noF w w') a w := by
  have h3 : a.tmps.getD 3 undef = .pointer (some ⟨u, 0, none⟩) := hat 0 (List.contains_iff_mem.1 (by kernel_rfl)) 3 _ rfl rfl
  refine val_calls_g rlrOp1 rfl rfl (wants_none a) Try.func15 (by kernel_rfl) (by kernel_rfl) (by simp only [List.map_toArray, List.map_cons, List.map_nil, Act.eval, h3]; rfl) ?_
  exact k0

theorem rlrStep2 (u : Nat) (fr h r : Int) (w1 : wrap64 (fr - h) = fr - h) (w2 : wrap64 (fr - h - r) = fr - h - r) (w3 : IntKind.i64.wrap (fr - h) = fr - h) (w4 : IntKind.i64.wrap (fr - h - r) = fr - h - r) {Q : Exit → Act → World → Prop} (a : Act) (w : World) (v2 : w.cell? ⟨u, 2, none⟩ = some (.int .i64 r)) (k0 : Calls Try.prog 15 #[.pointer (some ⟨u, 0, none⟩), .int .i64 3] w fun e w' => e = .returned (.int .i64 fr) ∧ Step noF w w') (k1 : Calls Try.prog 17 #[.pointer (some ⟨u, 0, none⟩)] w fun e w' => e = .returned (.int .i64 h) ∧ Step noF w w') (h0 : a.tmps.getD 0 undef = .pointer (some ⟨u, 0, none⟩)) (hat : ∀ jj ∈ deps ((Try.f19.body.bind (regionOps 1)).getD #[]) 2, ∀ dd vv, rlrDl[jj]? = some (some dd) → (rlrVals u fr h r)[jj]? = some vv → a.tmps.getD dd undef = vv) :
    wpOp Try.prog ((Try.f19.body.bind (regionOps 1)).getD #[]) Q 2 (fun a' w' => ∃ dd vv, rlrDl[2]? = some (some dd) ∧ (rlrVals u fr h r)[2]? = some vv ∧ a' = a.put (some dd) vv ∧ Step noF w w') a w := by
  exact val_runs_g rlrOp2 rfl rfl (wants_none a) (runs_move (show a.eval _ = _ from h0))

theorem rlrStep3 (u : Nat) (fr h r : Int) (w1 : wrap64 (fr - h) = fr - h) (w2 : wrap64 (fr - h - r) = fr - h - r) (w3 : IntKind.i64.wrap (fr - h) = fr - h) (w4 : IntKind.i64.wrap (fr - h - r) = fr - h - r) {Q : Exit → Act → World → Prop} (a : Act) (w : World) (v2 : w.cell? ⟨u, 2, none⟩ = some (.int .i64 r)) (k0 : Calls Try.prog 15 #[.pointer (some ⟨u, 0, none⟩), .int .i64 3] w fun e w' => e = .returned (.int .i64 fr) ∧ Step noF w w') (k1 : Calls Try.prog 17 #[.pointer (some ⟨u, 0, none⟩)] w fun e w' => e = .returned (.int .i64 h) ∧ Step noF w w') (h0 : a.tmps.getD 0 undef = .pointer (some ⟨u, 0, none⟩)) (hat : ∀ jj ∈ deps ((Try.f19.body.bind (regionOps 1)).getD #[]) 3, ∀ dd vv, rlrDl[jj]? = some (some dd) → (rlrVals u fr h r)[jj]? = some vv → a.tmps.getD dd undef = vv) :
    wpOp Try.prog ((Try.f19.body.bind (regionOps 1)).getD #[]) Q 3 (fun a' w' => ∃ dd vv, rlrDl[3]? = some (some dd) ∧ (rlrVals u fr h r)[3]? = some vv ∧ a' = a.put (some dd) vv ∧ Step noF w w') a w := by
  have h5 : a.tmps.getD 5 undef = .pointer (some ⟨u, 0, none⟩) := hat 2 (List.contains_iff_mem.1 (by kernel_rfl)) 5 _ rfl rfl
  refine val_calls_g rlrOp3 rfl rfl (wants_none a) Try.func17 (by kernel_rfl) (by kernel_rfl) (by simp only [List.map_toArray, List.map_cons, List.map_nil, Act.eval, h5]; rfl) ?_
  exact k1

theorem rlrStep4 (u : Nat) (fr h r : Int) (w1 : wrap64 (fr - h) = fr - h) (w2 : wrap64 (fr - h - r) = fr - h - r) (w3 : IntKind.i64.wrap (fr - h) = fr - h) (w4 : IntKind.i64.wrap (fr - h - r) = fr - h - r) {Q : Exit → Act → World → Prop} (a : Act) (w : World) (v2 : w.cell? ⟨u, 2, none⟩ = some (.int .i64 r)) (k0 : Calls Try.prog 15 #[.pointer (some ⟨u, 0, none⟩), .int .i64 3] w fun e w' => e = .returned (.int .i64 fr) ∧ Step noF w w') (k1 : Calls Try.prog 17 #[.pointer (some ⟨u, 0, none⟩)] w fun e w' => e = .returned (.int .i64 h) ∧ Step noF w w') (h0 : a.tmps.getD 0 undef = .pointer (some ⟨u, 0, none⟩)) (hat : ∀ jj ∈ deps ((Try.f19.body.bind (regionOps 1)).getD #[]) 4, ∀ dd vv, rlrDl[jj]? = some (some dd) → (rlrVals u fr h r)[jj]? = some vv → a.tmps.getD dd undef = vv) :
    wpOp Try.prog ((Try.f19.body.bind (regionOps 1)).getD #[]) Q 4 (fun a' w' => ∃ dd vv, rlrDl[4]? = some (some dd) ∧ (rlrVals u fr h r)[4]? = some vv ∧ a' = a.put (some dd) vv ∧ Step noF w w') a w := by
  have h4 : a.tmps.getD 4 undef = .int .i64 fr := hat 1 (List.contains_iff_mem.1 (by kernel_rfl)) 4 _ rfl rfl
  have h6 : a.tmps.getD 6 undef = .int .i64 h := hat 3 (List.contains_iff_mem.1 (by kernel_rfl)) 6 _ rfl rfl
  refine val_runs_g rlrOp4 rfl rfl (wants_none a) ?_
  intro oo hoo
  simp only [execOp, hoo, Act.eval, Option.map_some, Option.map_none, h4, h6]
  go_simp

theorem rlrStep5 (u : Nat) (fr h r : Int) (w1 : wrap64 (fr - h) = fr - h) (w2 : wrap64 (fr - h - r) = fr - h - r) (w3 : IntKind.i64.wrap (fr - h) = fr - h) (w4 : IntKind.i64.wrap (fr - h - r) = fr - h - r) {Q : Exit → Act → World → Prop} (a : Act) (w : World) (v2 : w.cell? ⟨u, 2, none⟩ = some (.int .i64 r)) (k0 : Calls Try.prog 15 #[.pointer (some ⟨u, 0, none⟩), .int .i64 3] w fun e w' => e = .returned (.int .i64 fr) ∧ Step noF w w') (k1 : Calls Try.prog 17 #[.pointer (some ⟨u, 0, none⟩)] w fun e w' => e = .returned (.int .i64 h) ∧ Step noF w w') (h0 : a.tmps.getD 0 undef = .pointer (some ⟨u, 0, none⟩)) (hat : ∀ jj ∈ deps ((Try.f19.body.bind (regionOps 1)).getD #[]) 5, ∀ dd vv, rlrDl[jj]? = some (some dd) → (rlrVals u fr h r)[jj]? = some vv → a.tmps.getD dd undef = vv) :
    wpOp Try.prog ((Try.f19.body.bind (regionOps 1)).getD #[]) Q 5 (fun a' w' => ∃ dd vv, rlrDl[5]? = some (some dd) ∧ (rlrVals u fr h r)[5]? = some vv ∧ a' = a.put (some dd) vv ∧ Step noF w w') a w := by
  exact val_runs_g rlrOp5 rfl rfl (wants_none a) (runs_move (show a.eval _ = _ from h0))

theorem rlrStep6 (u : Nat) (fr h r : Int) (w1 : wrap64 (fr - h) = fr - h) (w2 : wrap64 (fr - h - r) = fr - h - r) (w3 : IntKind.i64.wrap (fr - h) = fr - h) (w4 : IntKind.i64.wrap (fr - h - r) = fr - h - r) {Q : Exit → Act → World → Prop} (a : Act) (w : World) (v2 : w.cell? ⟨u, 2, none⟩ = some (.int .i64 r)) (k0 : Calls Try.prog 15 #[.pointer (some ⟨u, 0, none⟩), .int .i64 3] w fun e w' => e = .returned (.int .i64 fr) ∧ Step noF w w') (k1 : Calls Try.prog 17 #[.pointer (some ⟨u, 0, none⟩)] w fun e w' => e = .returned (.int .i64 h) ∧ Step noF w w') (h0 : a.tmps.getD 0 undef = .pointer (some ⟨u, 0, none⟩)) (hat : ∀ jj ∈ deps ((Try.f19.body.bind (regionOps 1)).getD #[]) 6, ∀ dd vv, rlrDl[jj]? = some (some dd) → (rlrVals u fr h r)[jj]? = some vv → a.tmps.getD dd undef = vv) :
    wpOp Try.prog ((Try.f19.body.bind (regionOps 1)).getD #[]) Q 6 (fun a' w' => ∃ dd vv, rlrDl[6]? = some (some dd) ∧ (rlrVals u fr h r)[6]? = some vv ∧ a' = a.put (some dd) vv ∧ Step noF w w') a w := by
  have h8 : a.tmps.getD 8 undef = .pointer (some ⟨u, 0, none⟩) := hat 5 (List.contains_iff_mem.1 (by kernel_rfl)) 8 _ rfl rfl
  refine val_runs_g rlrOp6 rfl rfl (wants_none a) ?_
  intro oo hoo
  simp only [execOp, hoo, Act.eval, Option.map_some, Option.map_none, h8]
  go_simp

theorem rlrStep7 (u : Nat) (fr h r : Int) (w1 : wrap64 (fr - h) = fr - h) (w2 : wrap64 (fr - h - r) = fr - h - r) (w3 : IntKind.i64.wrap (fr - h) = fr - h) (w4 : IntKind.i64.wrap (fr - h - r) = fr - h - r) {Q : Exit → Act → World → Prop} (a : Act) (w : World) (v2 : w.cell? ⟨u, 2, none⟩ = some (.int .i64 r)) (k0 : Calls Try.prog 15 #[.pointer (some ⟨u, 0, none⟩), .int .i64 3] w fun e w' => e = .returned (.int .i64 fr) ∧ Step noF w w') (k1 : Calls Try.prog 17 #[.pointer (some ⟨u, 0, none⟩)] w fun e w' => e = .returned (.int .i64 h) ∧ Step noF w w') (h0 : a.tmps.getD 0 undef = .pointer (some ⟨u, 0, none⟩)) (hat : ∀ jj ∈ deps ((Try.f19.body.bind (regionOps 1)).getD #[]) 7, ∀ dd vv, rlrDl[jj]? = some (some dd) → (rlrVals u fr h r)[jj]? = some vv → a.tmps.getD dd undef = vv) :
    wpOp Try.prog ((Try.f19.body.bind (regionOps 1)).getD #[]) Q 7 (fun a' w' => ∃ dd vv, rlrDl[7]? = some (some dd) ∧ (rlrVals u fr h r)[7]? = some vv ∧ a' = a.put (some dd) vv ∧ Step noF w w') a w := by
  have h9 : a.tmps.getD 9 undef = .pointer (some ⟨u, 0, none⟩) := hat 6 (List.contains_iff_mem.1 (by kernel_rfl)) 9 _ rfl rfl
  refine val_runs_g rlrOp7 rfl rfl (wants_none a) ?_
  intro oo hoo
  simp only [execOp, hoo, Act.eval, Option.map_some, Option.map_none, h9]
  go_simp

theorem rlrStep8 (u : Nat) (fr h r : Int) (w1 : wrap64 (fr - h) = fr - h) (w2 : wrap64 (fr - h - r) = fr - h - r) (w3 : IntKind.i64.wrap (fr - h) = fr - h) (w4 : IntKind.i64.wrap (fr - h - r) = fr - h - r) {Q : Exit → Act → World → Prop} (a : Act) (w : World) (v2 : w.cell? ⟨u, 2, none⟩ = some (.int .i64 r)) (k0 : Calls Try.prog 15 #[.pointer (some ⟨u, 0, none⟩), .int .i64 3] w fun e w' => e = .returned (.int .i64 fr) ∧ Step noF w w') (k1 : Calls Try.prog 17 #[.pointer (some ⟨u, 0, none⟩)] w fun e w' => e = .returned (.int .i64 h) ∧ Step noF w w') (h0 : a.tmps.getD 0 undef = .pointer (some ⟨u, 0, none⟩)) (hat : ∀ jj ∈ deps ((Try.f19.body.bind (regionOps 1)).getD #[]) 8, ∀ dd vv, rlrDl[jj]? = some (some dd) → (rlrVals u fr h r)[jj]? = some vv → a.tmps.getD dd undef = vv) :
    wpOp Try.prog ((Try.f19.body.bind (regionOps 1)).getD #[]) Q 8 (fun a' w' => ∃ dd vv, rlrDl[8]? = some (some dd) ∧ (rlrVals u fr h r)[8]? = some vv ∧ a' = a.put (some dd) vv ∧ Step noF w w') a w := by
  have h10 : a.tmps.getD 10 undef = .pointer (some ⟨u, 2, none⟩) := hat 7 (List.contains_iff_mem.1 (by kernel_rfl)) 10 _ rfl rfl
  refine val_runs_g rlrOp8 rfl rfl (wants_none a) ?_
  intro oo hoo
  simp only [execOp, hoo, Act.eval, Option.map_some, Option.map_none, h10]
  go_simp

theorem rlrStep9 (u : Nat) (fr h r : Int) (w1 : wrap64 (fr - h) = fr - h) (w2 : wrap64 (fr - h - r) = fr - h - r) (w3 : IntKind.i64.wrap (fr - h) = fr - h) (w4 : IntKind.i64.wrap (fr - h - r) = fr - h - r) {Q : Exit → Act → World → Prop} (a : Act) (w : World) (v2 : w.cell? ⟨u, 2, none⟩ = some (.int .i64 r)) (k0 : Calls Try.prog 15 #[.pointer (some ⟨u, 0, none⟩), .int .i64 3] w fun e w' => e = .returned (.int .i64 fr) ∧ Step noF w w') (k1 : Calls Try.prog 17 #[.pointer (some ⟨u, 0, none⟩)] w fun e w' => e = .returned (.int .i64 h) ∧ Step noF w w') (h0 : a.tmps.getD 0 undef = .pointer (some ⟨u, 0, none⟩)) (hat : ∀ jj ∈ deps ((Try.f19.body.bind (regionOps 1)).getD #[]) 9, ∀ dd vv, rlrDl[jj]? = some (some dd) → (rlrVals u fr h r)[jj]? = some vv → a.tmps.getD dd undef = vv) :
    wpOp Try.prog ((Try.f19.body.bind (regionOps 1)).getD #[]) Q 9 (fun a' w' => ∃ dd vv, rlrDl[9]? = some (some dd) ∧ (rlrVals u fr h r)[9]? = some vv ∧ a' = a.put (some dd) vv ∧ Step noF w w') a w := by
  have h7 : a.tmps.getD 7 undef = .int .i64 (fr - h) := hat 4 (List.contains_iff_mem.1 (by kernel_rfl)) 7 _ rfl rfl
  have h11 : a.tmps.getD 11 undef = .int .i64 r := hat 8 (List.contains_iff_mem.1 (by kernel_rfl)) 11 _ rfl rfl
  refine val_runs_g rlrOp9 rfl rfl (wants_none a) ?_
  intro oo hoo
  simp only [execOp, hoo, Act.eval, Option.map_some, Option.map_none, h7, h11]
  go_simp

theorem rlrStep10 (u : Nat) (fr h r : Int) (w1 : wrap64 (fr - h) = fr - h) (w2 : wrap64 (fr - h - r) = fr - h - r) (w3 : IntKind.i64.wrap (fr - h) = fr - h) (w4 : IntKind.i64.wrap (fr - h - r) = fr - h - r) {Q : Exit → Act → World → Prop} (a : Act) (w : World) (v2 : w.cell? ⟨u, 2, none⟩ = some (.int .i64 r)) (k0 : Calls Try.prog 15 #[.pointer (some ⟨u, 0, none⟩), .int .i64 3] w fun e w' => e = .returned (.int .i64 fr) ∧ Step noF w w') (k1 : Calls Try.prog 17 #[.pointer (some ⟨u, 0, none⟩)] w fun e w' => e = .returned (.int .i64 h) ∧ Step noF w w') (h0 : a.tmps.getD 0 undef = .pointer (some ⟨u, 0, none⟩)) (hat : ∀ jj ∈ deps ((Try.f19.body.bind (regionOps 1)).getD #[]) 10, ∀ dd vv, rlrDl[jj]? = some (some dd) → (rlrVals u fr h r)[jj]? = some vv → a.tmps.getD dd undef = vv) :
    wpOp Try.prog ((Try.f19.body.bind (regionOps 1)).getD #[]) Q 10 (fun a' w' => ∃ dd vv, rlrDl[10]? = some (some dd) ∧ (rlrVals u fr h r)[10]? = some vv ∧ a' = a.put (some dd) vv ∧ Step noF w w') a w := by
  have h12 : a.tmps.getD 12 undef = .int .i64 (fr - h - r) := hat 9 (List.contains_iff_mem.1 (by kernel_rfl)) 12 _ rfl rfl
  exact val_runs_g rlrOp10 rfl rfl (wants_none a) (runs_assign (show a.eval _ = _ from h12))

theorem rlr_go (u : Nat) (fr h r : Int) (w1 : wrap64 (fr - h) = fr - h) (w2 : wrap64 (fr - h - r) = fr - h - r) (w3 : IntKind.i64.wrap (fr - h) = fr - h) (w4 : IntKind.i64.wrap (fr - h - r) = fr - h - r) {Q : Exit → Act → World → Prop} (a0 : Act) (w0 : World) (hsz : a0.tmps.size = 13) (h0 : a0.tmps.getD 0 undef = .pointer (some ⟨u, 0, none⟩))
    (hw : ∀ w, Step noF w0 w → (w.cell? ⟨u, 2, none⟩ = some (.int .i64 r)) ∧ (Calls Try.prog 15 #[.pointer (some ⟨u, 0, none⟩), .int .i64 3] w fun e w' => e = .returned (.int .i64 fr) ∧ Step noF w w') ∧ (Calls Try.prog 17 #[.pointer (some ⟨u, 0, none⟩)] w fun e w' => e = .returned (.int .i64 h) ∧ Step noF w w'))
    (hK : ∀ w, Step noF w0 w → Q .normal (putAll a0 rlrDl (rlrVals u fr h r)) w) : (Code.region 1 ((Try.f19.body.bind (regionOps 1)).getD #[]) true).wp Try.prog Q a0 w0 := by
  refine wp_region_full noF (rlrVals u fr h r) rlrDl (by kernel_rfl) rlr_back rlr_dl rlr_nd (fun d h => by rw [hsz]; exact rlr_lt d h) rfl ?_ hK
  intro ix hix a w hs hfr hat
  rw [rlr_size] at hix
  obtain ⟨v2, k0, k1⟩ := hw w hs
  have h0 := (hfr 0 (by decide)).trans h0
  match ix, hix with
  | 0, _ => exact rlrStep0 u fr h r w1 w2 w3 w4 a w v2 k0 k1 h0 hat
  | 1, _ => exact rlrStep1 u fr h r w1 w2 w3 w4 a w v2 k0 k1 h0 hat
  | 2, _ => exact rlrStep2 u fr h r w1 w2 w3 w4 a w v2 k0 k1 h0 hat
  | 3, _ => exact rlrStep3 u fr h r w1 w2 w3 w4 a w v2 k0 k1 h0 hat
  | 4, _ => exact rlrStep4 u fr h r w1 w2 w3 w4 a w v2 k0 k1 h0 hat
  | 5, _ => exact rlrStep5 u fr h r w1 w2 w3 w4 a w v2 k0 k1 h0 hat
  | 6, _ => exact rlrStep6 u fr h r w1 w2 w3 w4 a w v2 k0 k1 h0 hat
  | 7, _ => exact rlrStep7 u fr h r w1 w2 w3 w4 a w v2 k0 k1 h0 hat
  | 8, _ => exact rlrStep8 u fr h r w1 w2 w3 w4 a w v2 k0 k1 h0 hat
  | 9, _ => exact rlrStep9 u fr h r w1 w2 w3 w4 a w v2 k0 k1 h0 hat
  | 10, _ => exact rlrStep10 u fr h r w1 w2 w3 w4 a w v2 k0 k1 h0 hat
  | k + 11, h => exact absurd h (by omega)
end Go.Proofs.Ytmijbplhmjledaa
