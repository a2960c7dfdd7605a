/-
  The region that draws in ticket.Pool.Left (number 3), operation by operation. Written by draw2.py.
-/
import Derived.Test.YtmijbplhmjledaaFull
import Derived.Test.YtmijbplhmjledaaTkD
namespace Go.Proofs.Ytmijbplhmjledaa
open Go.RowKit
set_option linter.unusedVariables false
set_option linter.unusedSimpArgs false


def tlrDl : List (Option Nat) := [some 5, some 6, some 7, some 8, some 9, some 10, some 11, some 12, some 13, some 14, some 15, some 16, some 2]
theorem tlr_dl : ((Try.f18.body.bind (regionOps 3)).getD #[]).toList.map (·.dst) = tlrDl := by kernel_rfl
theorem tlr_back : backB ((Try.f18.body.bind (regionOps 3)).getD #[]) = true := by kernel_rfl
theorem tlr_size : ((Try.f18.body.bind (regionOps 3)).getD #[]).size = 13 := by kernel_rfl
theorem tlr_nd : tlrDl.Pairwise (fun x y => x = none ∨ x ≠ y) := by decide
theorem tlr_lt (d : Nat) (h : some d ∈ tlrDl) : d < 17 := by
  have hh : tlrDl.all (fun o => o.all (fun d => decide (d < 17))) = true := by decide
  simpa using List.all_eq_true.1 hh _ h
def tlrVals (p : Nat) (fr h r : Int) : List Value := [.pointer (some ⟨p, 0, none⟩), .int .i64 fr, .pointer (some ⟨p, 0, none⟩), .pointer (some ⟨p, 0, none⟩), .pointer (some ⟨p, 4, none⟩), .int .i64 h, .int .i64 (fr - h), .pointer (some ⟨p, 0, none⟩), .pointer (some ⟨p, 0, none⟩), .pointer (some ⟨p, 2, none⟩), .int .i64 r, .int .i64 (fr - h - r), .int .i64 (fr - h - r)]
theorem tlrOp0 : opIs ((Try.f18.body.bind (regionOps 3)).getD #[]) 0 (some 5) (Op.move (Operand.tmp 0)) (none) := opIs_of (by kernel_rfl)
theorem tlrOp1 : opIs ((Try.f18.body.bind (regionOps 3)).getD #[]) 1 (some 6) (Op.call { callee := Callee.value (Operand.func 14), args := #[Operand.tmp 5], argTypes := #[24] }) (none) := opIs_of (by kernel_rfl)
theorem tlrOp2 : opIs ((Try.f18.body.bind (regionOps 3)).getD #[]) 2 (some 7) (Op.move (Operand.tmp 0)) (none) := opIs_of (by kernel_rfl)
theorem tlrOp3 : opIs ((Try.f18.body.bind (regionOps 3)).getD #[]) 3 (some 8) (Op.nilCheck (Operand.tmp 7)) (none) := opIs_of (by kernel_rfl)
theorem tlrOp4 : opIs ((Try.f18.body.bind (regionOps 3)).getD #[]) 4 (some 9) (Op.fieldAddr 59 (Operand.tmp 8) 4) (none) := opIs_of (by kernel_rfl)
theorem tlrOp5 : opIs ((Try.f18.body.bind (regionOps 3)).getD #[]) 5 (some 10) (Op.load 3 (Operand.tmp 9)) (none) := opIs_of (by kernel_rfl)
theorem tlrOp6 : opIs ((Try.f18.body.bind (regionOps 3)).getD #[]) 6 (some 11) (Op.binOp BinOp.sub 3 (Operand.tmp 6) (Operand.tmp 10) 3) (none) := opIs_of (by kernel_rfl)
theorem tlrOp7 : opIs ((Try.f18.body.bind (regionOps 3)).getD #[]) 7 (some 12) (Op.move (Operand.tmp 0)) (none) := opIs_of (by kernel_rfl)
theorem tlrOp8 : opIs ((Try.f18.body.bind (regionOps 3)).getD #[]) 8 (some 13) (Op.nilCheck (Operand.tmp 12)) (none) := opIs_of (by kernel_rfl)
theorem tlrOp9 : opIs ((Try.f18.body.bind (regionOps 3)).getD #[]) 9 (some 14) (Op.fieldAddr 59 (Operand.tmp 13) 2) (none) := opIs_of (by kernel_rfl)
theorem tlrOp10 : opIs ((Try.f18.body.bind (regionOps 3)).getD #[]) 10 (some 15) (Op.load 3 (Operand.tmp 14)) (none) := opIs_of (by kernel_rfl)
theorem tlrOp11 : opIs ((Try.f18.body.bind (regionOps 3)).getD #[]) 11 (some 16) (Op.binOp BinOp.sub 3 (Operand.tmp 11) (Operand.tmp 15) 3) (none) := opIs_of (by kernel_rfl)
theorem tlrOp12 : opIs ((Try.f18.body.bind (regionOps 3)).getD #[]) 12 (some 2) (Op.assign (Operand.tmp 16)) (none) := opIs_of (by kernel_rfl)

theorem tlrStep0 (p : Nat) (fr h r : Int) (w1 : wrap64 (fr - h) = fr - h) (w2 : wrap64 (fr - h - r) = fr - h - r) (w3 : IntKind.i64.wrap (fr - h) = fr - h) (w4 : IntKind.i64.wrap (fr - h - r) = fr - h - r) {Q : Exit → Act → World → Prop} (a : Act) (w : World) (v4 : w.cell? ⟨p, 4, none⟩ = some (.int .i64 h)) (v2 : w.cell? ⟨p, 2, none⟩ = some (.int .i64 r)) (k0 : Calls Try.prog 14 #[.pointer (some ⟨p, 0, none⟩)] w fun e w' => e = .returned (.int .i64 fr) ∧ Step noF w w') (h0 : a.tmps.getD 0 undef = .pointer (some ⟨p, 0, none⟩)) (hat : ∀ jj ∈ deps ((Try.f18.body.bind (regionOps 3)).getD #[]) 0, ∀ dd vv, tlrDl[jj]? = some (some dd) → (tlrVals p fr h r)[jj]? = some vv → a.tmps.getD dd undef = vv) :
    wpOp Try.prog ((Try.f18.body.bind (regionOps 3)).getD #[]) Q 0 (fun a' w' => ∃ dd vv, tlrDl[0]? = some (some dd) ∧ (tlrVals p fr h r)[0]? = some vv ∧ a' = a.put (some dd) vv ∧ Step noF w w') a w := by
  exact val_runs_g tlrOp0 rfl rfl (wants_none a) (runs_move (show a.eval _ = _ from h0))

theorem tlrStep1 (p : Nat) (fr h r : Int) (w1 : wrap64 (fr - h) = fr - h) (w2 : wrap64 (fr - h - r) = fr - h - r) (w3 : IntKind.i64.wrap (fr - h) = fr - h) (w4 : IntKind.i64.wrap (fr - h - r) = fr - h - r) {Q : Exit → Act → World → Prop} (a : Act) (w : World) (v4 : w.cell? ⟨p, 4, none⟩ = some (.int .i64 h)) (v2 : w.cell? ⟨p, 2, none⟩ = some (.int .i64 r)) (k0 : Calls Try.prog 14 #[.pointer (some ⟨p, 0, none⟩)] w fun e w' => e = .returned (.int .i64 fr) ∧ Step noF w w') (h0 : a.tmps.getD 0 undef = .pointer (some ⟨p, 0, none⟩)) (hat : ∀ jj ∈ deps ((Try.f18.body.bind (regionOps 3)).getD #[]) 1, ∀ dd vv, tlrDl[jj]? = some (some dd) → (tlrVals p fr h r)[jj]? = some vv → a.tmps.getD dd undef = vv) :
    wpOp Try.prog ((Try.f18.body.bind (regionOps 3)).getD #[]) Q 1 (fun a' w' => ∃ dd vv, tlrDl[1]? = some (some dd) ∧ (tlrVals p fr h r)[1]? = some vv ∧ a' = a.put (some dd) vv ∧ Step noF w w') a w := by
  have h5 : a.tmps.getD 5 undef = .pointer (some ⟨p, 0, none⟩) := hat 0 (List.contains_iff_mem.1 (by kernel_rfl)) 5 _ rfl rfl
  refine val_calls_g tlrOp1 rfl rfl (wants_none a) Try.func14 (by kernel_rfl) (by kernel_rfl) (by simp only [List.map_toArray, List.map_cons, List.map_nil, Act.eval, h5]; rfl) ?_
  exact k0

theorem tlrStep2 (p : Nat) (fr h r : Int) (w1 : wrap64 (fr - h) = fr - h) (w2 : wrap64 (fr - h - r) = fr - h - r) (w3 : IntKind.i64.wrap (fr - h) = fr - h) (w4 : IntKind.i64.wrap (fr - h - r) = fr - h - r) {Q : Exit → Act → World → Prop} (a : Act) (w : World) (v4 : w.cell? ⟨p, 4, none⟩ = some (.int .i64 h)) (v2 : w.cell? ⟨p, 2, none⟩ = some (.int .i64 r)) (k0 : Calls Try.prog 14 #[.pointer (some ⟨p, 0, none⟩)] w fun e w' => e = .returned (.int .i64 fr) ∧ Step noF w w') (h0 : a.tmps.getD 0 undef = .pointer (some ⟨p, 0, none⟩)) (hat : ∀ jj ∈ deps ((Try.f18.body.bind (regionOps 3)).getD #[]) 2, ∀ dd vv, tlrDl[jj]? = some (some dd) → (tlrVals p fr h r)[jj]? = some vv → a.tmps.getD dd undef = vv) :
    wpOp Try.prog ((Try.f18.body.bind (regionOps 3)).getD #[]) Q 2 (fun a' w' => ∃ dd vv, tlrDl[2]? = some (some dd) ∧ (tlrVals p fr h r)[2]? = some vv ∧ a' = a.put (some dd) vv ∧ Step noF w w') a w := by
  exact val_runs_g tlrOp2 rfl rfl (wants_none a) (runs_move (show a.eval _ = _ from h0))

theorem tlrStep3 (p : Nat) (fr h r : Int) (w1 : wrap64 (fr - h) = fr - h) (w2 : wrap64 (fr - h - r) = fr - h - r) (w3 : IntKind.i64.wrap (fr - h) = fr - h) (w4 : IntKind.i64.wrap (fr - h - r) = fr - h - r) {Q : Exit → Act → World → Prop} (a : Act) (w : World) (v4 : w.cell? ⟨p, 4, none⟩ = some (.int .i64 h)) (v2 : w.cell? ⟨p, 2, none⟩ = some (.int .i64 r)) (k0 : Calls Try.prog 14 #[.pointer (some ⟨p, 0, none⟩)] w fun e w' => e = .returned (.int .i64 fr) ∧ Step noF w w') (h0 : a.tmps.getD 0 undef = .pointer (some ⟨p, 0, none⟩)) (hat : ∀ jj ∈ deps ((Try.f18.body.bind (regionOps 3)).getD #[]) 3, ∀ dd vv, tlrDl[jj]? = some (some dd) → (tlrVals p fr h r)[jj]? = some vv → a.tmps.getD dd undef = vv) :
    wpOp Try.prog ((Try.f18.body.bind (regionOps 3)).getD #[]) Q 3 (fun a' w' => ∃ dd vv, tlrDl[3]? = some (some dd) ∧ (tlrVals p fr h r)[3]? = some vv ∧ a' = a.put (some dd) vv ∧ Step noF w w') a w := by
  have h7 : a.tmps.getD 7 undef = .pointer (some ⟨p, 0, none⟩) := hat 2 (List.contains_iff_mem.1 (by kernel_rfl)) 7 _ rfl rfl
  refine val_runs_g tlrOp3 rfl rfl (wants_none a) ?_
  intro oo hoo
  simp only [execOp, hoo, Act.eval, Option.map_some, Option.map_none, h7]
  go_simp

theorem tlrStep4 (p : Nat) (fr h r : Int) (w1 : wrap64 (fr - h) = fr - h) (w2 : wrap64 (fr - h - r) = fr - h - r) (w3 : IntKind.i64.wrap (fr - h) = fr - h) (w4 : IntKind.i64.wrap (fr - h - r) = fr - h - r) {Q : Exit → Act → World → Prop} (a : Act) (w : World) (v4 : w.cell? ⟨p, 4, none⟩ = some (.int .i64 h)) (v2 : w.cell? ⟨p, 2, none⟩ = some (.int .i64 r)) (k0 : Calls Try.prog 14 #[.pointer (some ⟨p, 0, none⟩)] w fun e w' => e = .returned (.int .i64 fr) ∧ Step noF w w') (h0 : a.tmps.getD 0 undef = .pointer (some ⟨p, 0, none⟩)) (hat : ∀ jj ∈ deps ((Try.f18.body.bind (regionOps 3)).getD #[]) 4, ∀ dd vv, tlrDl[jj]? = some (some dd) → (tlrVals p fr h r)[jj]? = some vv → a.tmps.getD dd undef = vv) :
    wpOp Try.prog ((Try.f18.body.bind (regionOps 3)).getD #[]) Q 4 (fun a' w' => ∃ dd vv, tlrDl[4]? = some (some dd) ∧ (tlrVals p fr h r)[4]? = some vv ∧ a' = a.put (some dd) vv ∧ Step noF w w') a w := by
  have h8 : a.tmps.getD 8 undef = .pointer (some ⟨p, 0, none⟩) := hat 3 (List.contains_iff_mem.1 (by kernel_rfl)) 8 _ rfl rfl
  refine val_runs_g tlrOp4 rfl rfl (wants_none a) ?_
  intro oo hoo
  simp only [execOp, hoo, Act.eval, Option.map_some, Option.map_none, h8]
  go_simp

theorem tlrStep5 (p : Nat) (fr h r : Int) (w1 : wrap64 (fr - h) = fr - h) (w2 : wrap64 (fr - h - r) = fr - h - r) (w3 : IntKind.i64.wrap (fr - h) = fr - h) (w4 : IntKind.i64.wrap (fr - h - r) = fr - h - r) {Q : Exit → Act → World → Prop} (a : Act) (w : World) (v4 : w.cell? ⟨p, 4, none⟩ = some (.int .i64 h)) (v2 : w.cell? ⟨p, 2, none⟩ = some (.int .i64 r)) (k0 : Calls Try.prog 14 #[.pointer (some ⟨p, 0, none⟩)] w fun e w' => e = .returned (.int .i64 fr) ∧ Step noF w w') (h0 : a.tmps.getD 0 undef = .pointer (some ⟨p, 0, none⟩)) (hat : ∀ jj ∈ deps ((Try.f18.body.bind (regionOps 3)).getD #[]) 5, ∀ dd vv, tlrDl[jj]? = some (some dd) → (tlrVals p fr h r)[jj]? = some vv → a.tmps.getD dd undef = vv) :
    wpOp Try.prog ((Try.f18.body.bind (regionOps 3)).getD #[]) Q 5 (fun a' w' => ∃ dd vv, tlrDl[5]? = some (some dd) ∧ (tlrVals p fr h r)[5]? = some vv ∧ a' = a.put (some dd) vv ∧ Step noF w w') a w := by
  have h9 : a.tmps.getD 9 undef = .pointer (some ⟨p, 4, none⟩) := hat 4 (List.contains_iff_mem.1 (by kernel_rfl)) 9 _ rfl rfl
  refine val_runs_g tlrOp5 rfl rfl (wants_none a) ?_
  intro oo hoo
  simp only [execOp, hoo, Act.eval, Option.map_some, Option.map_none, h9]
  go_simp

theorem tlrStep6 (p : Nat) (fr h r : Int) (w1 : wrap64 (fr - h) = fr - h) (w2 : wrap64 (fr - h - r) = fr - h - r) (w3 : IntKind.i64.wrap (fr - h) = fr - h) (w4 : IntKind.i64.wrap (fr - h - r) = fr - h - r) {Q : Exit → Act → World → Prop} (a : Act) (w : World) (v4 : w.cell? ⟨p, 4, none⟩ = some (.int .i64 h)) (v2 : w.cell? ⟨p, 2, none⟩ = some (.int .i64 r)) (k0 : Calls Try.prog 14 #[.pointer (some ⟨p, 0, none⟩)] w fun e w' => e = .returned (.int .i64 fr) ∧ Step noF w w') (h0 : a.tmps.getD 0 undef = .pointer (some ⟨p, 0, none⟩)) (hat : ∀ jj ∈ deps ((Try.f18.body.bind (regionOps 3)).getD #[]) 6, ∀ dd vv, tlrDl[jj]? = some (some dd) → (tlrVals p fr h r)[jj]? = some vv → a.tmps.getD dd undef = vv) :
    wpOp Try.prog ((Try.f18.body.bind (regionOps 3)).getD #[]) Q 6 (fun a' w' => ∃ dd vv, tlrDl[6]? = some (some dd) ∧ (tlrVals p fr h r)[6]? = some vv ∧ a' = a.put (some dd) vv ∧ Step noF w w') a w := by
  have h6 : a.tmps.getD 6 undef = .int .i64 fr := hat 1 (List.contains_iff_mem.1 (by kernel_rfl)) 6 _ rfl rfl
  have h10 : a.tmps.getD 10 undef = .int .i64 h := hat 5 (List.contains_iff_mem.1 (by kernel_rfl)) 10 _ rfl rfl
  refine val_runs_g tlrOp6 rfl rfl (wants_none a) ?_
  intro oo hoo
  simp only [execOp, hoo, Act.eval, Option.map_some, Option.map_none, h6, h10]
  go_simp

theorem tlrStep7 (p : Nat) (fr h r : Int) (w1 : wrap64 (fr - h) = fr - h) (w2 : wrap64 (fr - h - r) = fr - h - r) (w3 : IntKind.i64.wrap (fr - h) = fr - h) (w4 : IntKind.i64.wrap (fr - h - r) = fr - h - r) {Q : Exit → Act → World → Prop} (a : Act) (w : World) (v4 : w.cell? ⟨p, 4, none⟩ = some (.int .i64 h)) (v2 : w.cell? ⟨p, 2, none⟩ = some (.int .i64 r)) (k0 : Calls Try.prog 14 #[.pointer (some ⟨p, 0, none⟩)] w fun e w' => e = .returned (.int .i64 fr) ∧ Step noF w w') (h0 : a.tmps.getD 0 undef = .pointer (some ⟨p, 0, none⟩)) (hat : ∀ jj ∈ deps ((Try.f18.body.bind (regionOps 3)).getD #[]) 7, ∀ dd vv, tlrDl[jj]? = some (some dd) → (tlrVals p fr h r)[jj]? = some vv → a.tmps.getD dd undef = vv) :
    wpOp Try.prog ((Try.f18.body.bind (regionOps 3)).getD #[]) Q 7 (fun a' w' => ∃ dd vv, tlrDl[7]? = some (some dd) ∧ (tlrVals p fr h r)[7]? = some vv ∧ a' = a.put (some dd) vv ∧ Step noF w w') a w := by
  exact val_runs_g tlrOp7 rfl rfl (wants_none a) (runs_move (show a.eval _ = _ from h0))

theorem tlrStep8 (p : Nat) (fr h r : Int) (w1 : wrap64 (fr - h) = fr - h) (w2 : wrap64 (fr - h - r) = fr - h - r) (w3 : IntKind.i64.wrap (fr - h) = fr - h) (w4 : IntKind.i64.wrap (fr - h - r) = fr - h - r) {Q : Exit → Act → World → Prop} (a : Act) (w : World) (v4 : w.cell? ⟨p, 4, none⟩ = some (.int .i64 h)) (v2 : w.cell? ⟨p, 2, none⟩ = some (.int .i64 r)) (k0 : Calls Try.prog 14 #[.pointer (some ⟨p, 0, none⟩)] w fun e w' => e = .returned (.int .i64 fr) ∧ Step noF w w') (h0 : a.tmps.getD 0 undef = .pointer (some ⟨p, 0, none⟩)) (hat : ∀ jj ∈ deps ((Try.f18.body.bind (regionOps 3)).getD #[]) 8, ∀ dd vv, tlrDl[jj]? = some (some dd) → (tlrVals p fr h r)[jj]? = some vv → a.tmps.getD dd undef = vv) :
    wpOp Try.prog ((Try.f18.body.bind (regionOps 3)).getD #[]) Q 8 (fun a' w' => ∃ dd vv, tlrDl[8]? = some (some dd) ∧ (tlrVals p fr h r)[8]? = some vv ∧ a' = a.put (some dd) vv ∧ Step noF w w') a w := by
  have h12 : a.tmps.getD 12 undef = .pointer (some ⟨p, 0, none⟩) := hat 7 (List.contains_iff_mem.1 (by kernel_rfl)) 12 _ rfl rfl
  refine val_runs_g tlrOp8 rfl rfl (wants_none a) ?_
  intro oo hoo
  simp only [execOp, hoo, Act.eval, Option.map_some, Option.map_none, h12]
  go_simp

theorem tlrStep9 (p : Nat) (fr h r : Int) (w1 : wrap64 (fr - h) = fr - h) (w2 : wrap64 (fr - h - r) = fr - h - r) (w3 : IntKind.i64.wrap (fr - h) = fr - h) (w4 : IntKind.i64.wrap (fr - h - r) = fr - h - r) {Q : Exit → Act → World → Prop} (a : Act) (w : World) (v4 : w.cell? ⟨p, 4, none⟩ = some (.int .i64 h)) (v2 : w.cell? ⟨p, 2, none⟩ = some (.int .i64 r)) (k0 : Calls Try.prog 14 #[.pointer (some ⟨p, 0, none⟩)] w fun e w' => e = .returned (.int .i64 fr) ∧ Step noF w w') (h0 : a.tmps.getD 0 undef = .pointer (some ⟨p, 0, none⟩)) (hat : ∀ jj ∈ deps ((Try.f18.body.bind (regionOps 3)).getD #[]) 9, ∀ dd vv, tlrDl[jj]? = some (some dd) → (tlrVals p fr h r)[jj]? = some vv → a.tmps.getD dd undef = vv) :
    wpOp Try.prog ((Try.f18.body.bind (regionOps 3)).getD #[]) Q 9 (fun a' w' => ∃ dd vv, tlrDl[9]? = some (some dd) ∧ (tlrVals p fr h r)[9]? = some vv ∧ a' = a.put (some dd) vv ∧ Step noF w w') a w := by
  have h13 : a.tmps.getD 13 undef = .pointer (some ⟨p, 0, none⟩) := hat 8 (List.contains_iff_mem.1 (by kernel_rfl)) 13 _ rfl rfl
  refine val_runs_g tlrOp9 rfl rfl (wants_none a) ?_
  intro oo hoo
  simp only [execOp, hoo, Act.eval, Option.map_some, Option.map_none, h13]
  go_simp

theorem tlrStep10 (p : Nat) (fr h r : Int) (w1 : wrap64 (fr - h) = fr - h) (w2 : wrap64 (fr - h - r) = fr - h - r) (w3 : IntKind.i64.wrap (fr - h) = fr - h) (w4 : IntKind.i64.wrap (fr - h - r) = fr - h - r) {Q : Exit → Act → World → Prop} (a : Act) (w : World) (v4 : w.cell? ⟨p, 4, none⟩ = some (.int .i64 h)) (v2 : w.cell? ⟨p, 2, none⟩ = some (.int .i64 r)) (k0 : Calls Try.prog 14 #[.pointer (some ⟨p, 0, none⟩)] w fun e w' => e = .returned (.int .i64 fr) ∧ Step noF w w') (h0 : a.tmps.getD 0 undef = .pointer (some ⟨p, 0, none⟩)) (hat : ∀ jj ∈ deps ((Try.f18.body.bind (regionOps 3)).getD #[]) 10, ∀ dd vv, tlrDl[jj]? = some (some dd) → (tlrVals p fr h r)[jj]? = some vv → a.tmps.getD dd undef = vv) :
    wpOp Try.prog ((Try.f18.body.bind (regionOps 3)).getD #[]) Q 10 (fun a' w' => ∃ dd vv, tlrDl[10]? = some (some dd) ∧ (tlrVals p fr h r)[10]? = some vv ∧ a' = a.put (some dd) vv ∧ Step noF w w') a w := by
  have h14 : a.tmps.getD 14 undef = .pointer (some ⟨p, 2, none⟩) := hat 9 (List.contains_iff_mem.1 (by kernel_rfl)) 14 _ rfl rfl
  refine val_runs_g tlrOp10 rfl rfl (wants_none a) ?_
  intro oo hoo
  simp only [execOp, hoo, Act.eval, Option.map_some, Option.map_none, h14]
  go_simp

theorem tlrStep11 (p : Nat) (fr h r : Int) (w1 : wrap64 (fr - h) = fr - h) (w2 : wrap64 (fr - h - r) = fr - h - r) (w3 : IntKind.i64.wrap (fr - h) = fr - h) (w4 : IntKind.i64.wrap (fr - h - r) = fr - h - r) {Q : Exit → Act → World → Prop} (a : Act) (w : World) (v4 : w.cell? ⟨p, 4, none⟩ = some (.int .i64 h)) (v2 : w.cell? ⟨p, 2, none⟩ = some (.int .i64 r)) (k0 : Calls Try.prog 14 #[.pointer (some ⟨p, 0, none⟩)] w fun e w' => e = .returned (.int .i64 fr) ∧ Step noF w w') (h0 : a.tmps.getD 0 undef = .pointer (some ⟨p, 0, none⟩)) (hat : ∀ jj ∈ deps ((Try.f18.body.bind (regionOps 3)).getD #[]) 11, ∀ dd vv, tlrDl[jj]? = some (some dd) → (tlrVals p fr h r)[jj]? = some vv → a.tmps.getD dd undef = vv) :
    wpOp Try.prog ((Try.f18.body.bind (regionOps 3)).getD #[]) Q 11 (fun a' w' => ∃ dd vv, tlrDl[11]? = some (some dd) ∧ (tlrVals p fr h r)[11]? = some vv ∧ a' = a.put (some dd) vv ∧ Step noF w w') a w := by
  have h11 : a.tmps.getD 11 undef = .int .i64 (fr - h) := hat 6 (List.contains_iff_mem.1 (by kernel_rfl)) 11 _ rfl rfl
  have h15 : a.tmps.getD 15 undef = .int .i64 r := hat 10 (List.contains_iff_mem.1 (by kernel_rfl)) 15 _ rfl rfl
  refine val_runs_g tlrOp11 rfl rfl (wants_none a) ?_
  intro oo hoo
  simp only [execOp, hoo, Act.eval, Option.map_some, Option.map_none, h11, h15]
  go_simp

theorem tlrStep12 (p : Nat) (fr h r : Int) (w1 : wrap64 (fr - h) = fr - h) (w2 : wrap64 (fr - h - r) = fr - h - r) (w3 : IntKind.i64.wrap (fr - h) = fr - h) (w4 : IntKind.i64.wrap (fr - h - r) = fr - h - r) {Q : Exit → Act → World → Prop} (a : Act) (w : World) (v4 : w.cell? ⟨p, 4, none⟩ = some (.int .i64 h)) (v2 : w.cell? ⟨p, 2, none⟩ = some (.int .i64 r)) (k0 : Calls Try.prog 14 #[.pointer (some ⟨p, 0, none⟩)] w fun e w' => e = .returned (.int .i64 fr) ∧ Step noF w w') (h0 : a.tmps.getD 0 undef = .pointer (some ⟨p, 0, none⟩)) (hat : ∀ jj ∈ deps ((Try.f18.body.bind (regionOps 3)).getD #[]) 12, ∀ dd vv, tlrDl[jj]? = some (some dd) → (tlrVals p fr h r)[jj]? = some vv → a.tmps.getD dd undef = vv) :
    wpOp Try.prog ((Try.f18.body.bind (regionOps 3)).getD #[]) Q 12 (fun a' w' => ∃ dd vv, tlrDl[12]? = some (some dd) ∧ (tlrVals p fr h r)[12]? = some vv ∧ a' = a.put (some dd) vv ∧ Step noF w w') a w := by
  have h16 : a.tmps.getD 16 undef = .int .i64 (fr - h - r) := hat 11 (List.contains_iff_mem.1 (by kernel_rfl)) 16 _ rfl rfl
  exact val_runs_g tlrOp12 rfl rfl (wants_none a) (runs_assign (show a.eval _ = _ from h16))

theorem tlr_go (p : Nat) (fr h r : Int) (w1 : wrap64 (fr - h) = fr - h) (w2 : wrap64 (fr - h - r) = fr - h - r) (w3 : IntKind.i64.wrap (fr - h) = fr - h) (w4 : IntKind.i64.wrap (fr - h - r) = fr - h - r) {Q : Exit → Act → World → Prop} (a0 : Act) (w0 : World) (hsz : a0.tmps.size = 17) (h0 : a0.tmps.getD 0 undef = .pointer (some ⟨p, 0, none⟩))
    (hw : ∀ w, Step noF w0 w → (w.cell? ⟨p, 4, none⟩ = some (.int .i64 h)) ∧ (w.cell? ⟨p, 2, none⟩ = some (.int .i64 r)) ∧ (Calls Try.prog 14 #[.pointer (some ⟨p, 0, none⟩)] w fun e w' => e = .returned (.int .i64 fr) ∧ Step noF w w'))
    (hK : ∀ w, Step noF w0 w → Q .normal (putAll a0 tlrDl (tlrVals p fr h r)) w) : (Code.region 3 ((Try.f18.body.bind (regionOps 3)).getD #[]) true).wp Try.prog Q a0 w0 := by
  refine wp_region_full noF (tlrVals p fr h r) tlrDl (by kernel_rfl) tlr_back tlr_dl tlr_nd (fun d h => by rw [hsz]; exact tlr_lt d h) rfl ?_ hK
  intro ix hix a w hs hfr hat
  rw [tlr_size] at hix
  obtain ⟨v4, v2, k0⟩ := hw w hs
  have h0 := (hfr 0 (by decide)).trans h0
  match ix, hix with
  | 0, _ => exact tlrStep0 p fr h r w1 w2 w3 w4 a w v4 v2 k0 h0 hat
  | 1, _ => exact tlrStep1 p fr h r w1 w2 w3 w4 a w v4 v2 k0 h0 hat
  | 2, _ => exact tlrStep2 p fr h r w1 w2 w3 w4 a w v4 v2 k0 h0 hat
  | 3, _ => exact tlrStep3 p fr h r w1 w2 w3 w4 a w v4 v2 k0 h0 hat
  | 4, _ => exact tlrStep4 p fr h r w1 w2 w3 w4 a w v4 v2 k0 h0 hat
  | 5, _ => exact tlrStep5 p fr h r w1 w2 w3 w4 a w v4 v2 k0 h0 hat
  | 6, _ => exact tlrStep6 p fr h r w1 w2 w3 w4 a w v4 v2 k0 h0 hat
  | 7, _ => exact tlrStep7 p fr h r w1 w2 w3 w4 a w v4 v2 k0 h0 hat
  | 8, _ => exact tlrStep8 p fr h r w1 w2 w3 w4 a w v4 v2 k0 h0 hat
  | 9, _ => exact tlrStep9 p fr h r w1 w2 w3 w4 a w v4 v2 k0 h0 hat
  | 10, _ => exact tlrStep10 p fr h r w1 w2 w3 w4 a w v4 v2 k0 h0 hat
  | 11, _ => exact tlrStep11 p fr h r w1 w2 w3 w4 a w v4 v2 k0 h0 hat
  | 12, _ => exact tlrStep12 p fr h r w1 w2 w3 w4 a w v4 v2 k0 h0 hat
  | k + 13, h => exact absurd h (by omega)
end Go.Proofs.Ytmijbplhmjledaa
