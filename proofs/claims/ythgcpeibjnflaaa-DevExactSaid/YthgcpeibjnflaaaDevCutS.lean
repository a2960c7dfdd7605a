/-
  The region that draws in dev.Device.Cut (number 11), operation by operation. Written by draw2.py.
-/
import Derived.Test.YthgcpeibjnflaaaVals
import Derived.Test.YthgcpeibjnflaaaDevD
namespace Go.Proofs.Ythgcpeibjnflaaa
open Go.RowKit
set_option linter.unusedVariables false
set_option linter.unusedSimpArgs false


def cutsDl : List (Option Nat) := [some 64, some 65, some 66, some 67, some 68, some 69, some 70, some 71, some 72, some 73, some 74, some 75, some 76, some 77, some 78, none]
theorem cuts_dl : ((Try.f13.body.bind (regionOps 11)).getD #[]).toList.map (·.dst) = cutsDl := by kernel_rfl
theorem cuts_back : backB ((Try.f13.body.bind (regionOps 11)).getD #[]) = true := by kernel_rfl
theorem cuts_used : usedB ((Try.f13.body.bind (regionOps 11)).getD #[]) 15 = true := by kernel_rfl
theorem cuts_size : ((Try.f13.body.bind (regionOps 11)).getD #[]).size = 16 := by kernel_rfl
theorem cuts_nd : cutsDl.Pairwise (fun x y => x = none ∨ x ≠ y) := by decide
theorem cuts_lt (d : Nat) (h : some d ∈ cutsDl) : d < 86 := by
  have hh : cutsDl.all (fun o => o.all (fun d => decide (d < 86))) = true := by decide
  simpa using List.all_eq_true.1 hh _ h
def cutsVals (p bs bl n cs cl gw at_ : Nat) (O : ByteArray) : List Value := [.pointer (some ⟨p, 0, none⟩), .pointer (some ⟨p, 0, none⟩), .pointer (some ⟨p, 1, none⟩), .slice (some ⟨bl, 0, none⟩) n cl, .pointer (some ⟨gw, 0, none⟩), .int .i64 at_, .pointer (some ⟨p, 0, none⟩), .pointer (some ⟨p, 0, none⟩), .pointer (some ⟨p, 0, none⟩), .slice (some ⟨bs, 0, none⟩) n cs, .pointer (some ⟨gw, 0, none⟩), .int .i64 at_, .pointer (some ⟨bs, at_, none⟩), .string O, .pointer (some ⟨bl, at_, none⟩)]
theorem cutsOp0 : opIs ((Try.f13.body.bind (regionOps 11)).getD #[]) 0 (some 64) (Op.move (Operand.tmp 0)) none := opIs_of (by kernel_rfl)
theorem cutsOp1 : opIs ((Try.f13.body.bind (regionOps 11)).getD #[]) 1 (some 65) (Op.nilCheck (Operand.tmp 64)) none := opIs_of (by kernel_rfl)
theorem cutsOp2 : opIs ((Try.f13.body.bind (regionOps 11)).getD #[]) 2 (some 66) (Op.fieldAddr 67 (Operand.tmp 65) 1) none := opIs_of (by kernel_rfl)
theorem cutsOp3 : opIs ((Try.f13.body.bind (regionOps 11)).getD #[]) 3 (some 67) (Op.load 62 (Operand.tmp 66)) none := opIs_of (by kernel_rfl)
theorem cutsOp4 : opIs ((Try.f13.body.bind (regionOps 11)).getD #[]) 4 (some 68) (Op.fieldAddr 69 (Operand.tmp 8) 0) none := opIs_of (by kernel_rfl)
theorem cutsOp5 : opIs ((Try.f13.body.bind (regionOps 11)).getD #[]) 5 (some 69) (Op.load 3 (Operand.tmp 68)) none := opIs_of (by kernel_rfl)
theorem cutsOp6 : opIs ((Try.f13.body.bind (regionOps 11)).getD #[]) 6 (some 70) (Op.move (Operand.tmp 0)) none := opIs_of (by kernel_rfl)
theorem cutsOp7 : opIs ((Try.f13.body.bind (regionOps 11)).getD #[]) 7 (some 71) (Op.nilCheck (Operand.tmp 70)) none := opIs_of (by kernel_rfl)
theorem cutsOp8 : opIs ((Try.f13.body.bind (regionOps 11)).getD #[]) 8 (some 72) (Op.fieldAddr 67 (Operand.tmp 71) 0) none := opIs_of (by kernel_rfl)
theorem cutsOp9 : opIs ((Try.f13.body.bind (regionOps 11)).getD #[]) 9 (some 73) (Op.load 62 (Operand.tmp 72)) none := opIs_of (by kernel_rfl)
theorem cutsOp10 : opIs ((Try.f13.body.bind (regionOps 11)).getD #[]) 10 (some 74) (Op.fieldAddr 69 (Operand.tmp 8) 0) none := opIs_of (by kernel_rfl)
theorem cutsOp11 : opIs ((Try.f13.body.bind (regionOps 11)).getD #[]) 11 (some 75) (Op.load 3 (Operand.tmp 74)) none := opIs_of (by kernel_rfl)
theorem cutsOp12 : opIs ((Try.f13.body.bind (regionOps 11)).getD #[]) 12 (some 76) (Op.indexAddr 62 (Operand.tmp 73) (Operand.tmp 75)) none := opIs_of (by kernel_rfl)
theorem cutsOp13 : opIs ((Try.f13.body.bind (regionOps 11)).getD #[]) 13 (some 77) (Op.load 9 (Operand.tmp 76)) none := opIs_of (by kernel_rfl)
theorem cutsOp14 : opIs ((Try.f13.body.bind (regionOps 11)).getD #[]) 14 (some 78) (Op.indexAddr 62 (Operand.tmp 67) (Operand.tmp 69)) none := opIs_of (by kernel_rfl)
theorem cutsOp15 : opIs ((Try.f13.body.bind (regionOps 11)).getD #[]) 15 none (Op.store 9 (Operand.tmp 78) (Operand.tmp 77)) none := opIs_of (by kernel_rfl)

theorem cutsStep0 (p bs bl n cs cl gw at_ : Nat) (O : ByteArray) (hat1 : (at_ : Int) < (n : Int)) (hat0 : at_ < n) {Q : Exit → Act → World → Prop} (a : Act) (w : World) (v0 : w.cell? ⟨gw, 0, none⟩ = some (.int .i64 at_)) (v1 : w.cell? ⟨p, 1, none⟩ = some (.slice (some ⟨bl, 0, none⟩) n cl)) (v2 : w.cell? ⟨p, 0, none⟩ = some (.slice (some ⟨bs, 0, none⟩) n cs)) (v3 : w.cell? ⟨bs, at_, none⟩ = some (.string O)) (h0 : a.tmps.getD 0 undef = .pointer (some ⟨p, 0, none⟩)) (h8 : a.tmps.getD 8 undef = .pointer (some ⟨gw, 0, none⟩)) (hat : ∀ jj ∈ deps ((Try.f13.body.bind (regionOps 11)).getD #[]) 0, ∀ dd vv, cutsDl[jj]? = some (some dd) → (cutsVals p bs bl n cs cl gw at_ O)[jj]? = some vv → a.tmps.getD dd undef = vv) :
    wpOp Try.prog ((Try.f13.body.bind (regionOps 11)).getD #[]) Q 0 (fun a' w' => ∃ dd vv, cutsDl[0]? = some (some dd) ∧ (cutsVals p bs bl n cs cl gw at_ O)[0]? = some vv ∧ a' = a.put (some dd) vv ∧ Step noF w w') a w := by
  exact val_runs cutsOp0 rfl rfl (runs_move (show a.eval _ = _ from h0))

theorem cutsStep1 (p bs bl n cs cl gw at_ : Nat) (O : ByteArray) (hat1 : (at_ : Int) < (n : Int)) (hat0 : at_ < n) {Q : Exit → Act → World → Prop} (a : Act) (w : World) (v0 : w.cell? ⟨gw, 0, none⟩ = some (.int .i64 at_)) (v1 : w.cell? ⟨p, 1, none⟩ = some (.slice (some ⟨bl, 0, none⟩) n cl)) (v2 : w.cell? ⟨p, 0, none⟩ = some (.slice (some ⟨bs, 0, none⟩) n cs)) (v3 : w.cell? ⟨bs, at_, none⟩ = some (.string O)) (h0 : a.tmps.getD 0 undef = .pointer (some ⟨p, 0, none⟩)) (h8 : a.tmps.getD 8 undef = .pointer (some ⟨gw, 0, none⟩)) (hat : ∀ jj ∈ deps ((Try.f13.body.bind (regionOps 11)).getD #[]) 1, ∀ dd vv, cutsDl[jj]? = some (some dd) → (cutsVals p bs bl n cs cl gw at_ O)[jj]? = some vv → a.tmps.getD dd undef = vv) :
    wpOp Try.prog ((Try.f13.body.bind (regionOps 11)).getD #[]) Q 1 (fun a' w' => ∃ dd vv, cutsDl[1]? = some (some dd) ∧ (cutsVals p bs bl n cs cl gw at_ O)[1]? = some vv ∧ a' = a.put (some dd) vv ∧ Step noF w w') a w := by
  have h64 : a.tmps.getD 64 undef = .pointer (some ⟨p, 0, none⟩) := hat 0 (List.contains_iff_mem.1 (by kernel_rfl)) 64 _ rfl rfl
  refine val_runs cutsOp1 rfl rfl ?_
  intro oo hoo
  simp only [execOp, hoo, Act.eval, Option.map_some, Option.map_none, h64]
  go_simp

theorem cutsStep2 (p bs bl n cs cl gw at_ : Nat) (O : ByteArray) (hat1 : (at_ : Int) < (n : Int)) (hat0 : at_ < n) {Q : Exit → Act → World → Prop} (a : Act) (w : World) (v0 : w.cell? ⟨gw, 0, none⟩ = some (.int .i64 at_)) (v1 : w.cell? ⟨p, 1, none⟩ = some (.slice (some ⟨bl, 0, none⟩) n cl)) (v2 : w.cell? ⟨p, 0, none⟩ = some (.slice (some ⟨bs, 0, none⟩) n cs)) (v3 : w.cell? ⟨bs, at_, none⟩ = some (.string O)) (h0 : a.tmps.getD 0 undef = .pointer (some ⟨p, 0, none⟩)) (h8 : a.tmps.getD 8 undef = .pointer (some ⟨gw, 0, none⟩)) (hat : ∀ jj ∈ deps ((Try.f13.body.bind (regionOps 11)).getD #[]) 2, ∀ dd vv, cutsDl[jj]? = some (some dd) → (cutsVals p bs bl n cs cl gw at_ O)[jj]? = some vv → a.tmps.getD dd undef = vv) :
    wpOp Try.prog ((Try.f13.body.bind (regionOps 11)).getD #[]) Q 2 (fun a' w' => ∃ dd vv, cutsDl[2]? = some (some dd) ∧ (cutsVals p bs bl n cs cl gw at_ O)[2]? = some vv ∧ a' = a.put (some dd) vv ∧ Step noF w w') a w := by
  have h65 : a.tmps.getD 65 undef = .pointer (some ⟨p, 0, none⟩) := hat 1 (List.contains_iff_mem.1 (by kernel_rfl)) 65 _ rfl rfl
  refine val_runs cutsOp2 rfl rfl ?_
  intro oo hoo
  simp only [execOp, hoo, Act.eval, Option.map_some, Option.map_none, h65]
  go_simp

theorem cutsStep3 (p bs bl n cs cl gw at_ : Nat) (O : ByteArray) (hat1 : (at_ : Int) < (n : Int)) (hat0 : at_ < n) {Q : Exit → Act → World → Prop} (a : Act) (w : World) (v0 : w.cell? ⟨gw, 0, none⟩ = some (.int .i64 at_)) (v1 : w.cell? ⟨p, 1, none⟩ = some (.slice (some ⟨bl, 0, none⟩) n cl)) (v2 : w.cell? ⟨p, 0, none⟩ = some (.slice (some ⟨bs, 0, none⟩) n cs)) (v3 : w.cell? ⟨bs, at_, none⟩ = some (.string O)) (h0 : a.tmps.getD 0 undef = .pointer (some ⟨p, 0, none⟩)) (h8 : a.tmps.getD 8 undef = .pointer (some ⟨gw, 0, none⟩)) (hat : ∀ jj ∈ deps ((Try.f13.body.bind (regionOps 11)).getD #[]) 3, ∀ dd vv, cutsDl[jj]? = some (some dd) → (cutsVals p bs bl n cs cl gw at_ O)[jj]? = some vv → a.tmps.getD dd undef = vv) :
    wpOp Try.prog ((Try.f13.body.bind (regionOps 11)).getD #[]) Q 3 (fun a' w' => ∃ dd vv, cutsDl[3]? = some (some dd) ∧ (cutsVals p bs bl n cs cl gw at_ O)[3]? = some vv ∧ a' = a.put (some dd) vv ∧ Step noF w w') a w := by
  have h66 : a.tmps.getD 66 undef = .pointer (some ⟨p, 1, none⟩) := hat 2 (List.contains_iff_mem.1 (by kernel_rfl)) 66 _ rfl rfl
  refine val_runs cutsOp3 rfl rfl ?_
  intro oo hoo
  simp only [execOp, hoo, Act.eval, Option.map_some, Option.map_none, h66]
  go_simp

theorem cutsStep4 (p bs bl n cs cl gw at_ : Nat) (O : ByteArray) (hat1 : (at_ : Int) < (n : Int)) (hat0 : at_ < n) {Q : Exit → Act → World → Prop} (a : Act) (w : World) (v0 : w.cell? ⟨gw, 0, none⟩ = some (.int .i64 at_)) (v1 : w.cell? ⟨p, 1, none⟩ = some (.slice (some ⟨bl, 0, none⟩) n cl)) (v2 : w.cell? ⟨p, 0, none⟩ = some (.slice (some ⟨bs, 0, none⟩) n cs)) (v3 : w.cell? ⟨bs, at_, none⟩ = some (.string O)) (h0 : a.tmps.getD 0 undef = .pointer (some ⟨p, 0, none⟩)) (h8 : a.tmps.getD 8 undef = .pointer (some ⟨gw, 0, none⟩)) (hat : ∀ jj ∈ deps ((Try.f13.body.bind (regionOps 11)).getD #[]) 4, ∀ dd vv, cutsDl[jj]? = some (some dd) → (cutsVals p bs bl n cs cl gw at_ O)[jj]? = some vv → a.tmps.getD dd undef = vv) :
    wpOp Try.prog ((Try.f13.body.bind (regionOps 11)).getD #[]) Q 4 (fun a' w' => ∃ dd vv, cutsDl[4]? = some (some dd) ∧ (cutsVals p bs bl n cs cl gw at_ O)[4]? = some vv ∧ a' = a.put (some dd) vv ∧ Step noF w w') a w := by
  refine val_runs cutsOp4 rfl rfl ?_
  intro oo hoo
  simp only [execOp, hoo, Act.eval, Option.map_some, Option.map_none, h8]
  go_simp

theorem cutsStep5 (p bs bl n cs cl gw at_ : Nat) (O : ByteArray) (hat1 : (at_ : Int) < (n : Int)) (hat0 : at_ < n) {Q : Exit → Act → World → Prop} (a : Act) (w : World) (v0 : w.cell? ⟨gw, 0, none⟩ = some (.int .i64 at_)) (v1 : w.cell? ⟨p, 1, none⟩ = some (.slice (some ⟨bl, 0, none⟩) n cl)) (v2 : w.cell? ⟨p, 0, none⟩ = some (.slice (some ⟨bs, 0, none⟩) n cs)) (v3 : w.cell? ⟨bs, at_, none⟩ = some (.string O)) (h0 : a.tmps.getD 0 undef = .pointer (some ⟨p, 0, none⟩)) (h8 : a.tmps.getD 8 undef = .pointer (some ⟨gw, 0, none⟩)) (hat : ∀ jj ∈ deps ((Try.f13.body.bind (regionOps 11)).getD #[]) 5, ∀ dd vv, cutsDl[jj]? = some (some dd) → (cutsVals p bs bl n cs cl gw at_ O)[jj]? = some vv → a.tmps.getD dd undef = vv) :
    wpOp Try.prog ((Try.f13.body.bind (regionOps 11)).getD #[]) Q 5 (fun a' w' => ∃ dd vv, cutsDl[5]? = some (some dd) ∧ (cutsVals p bs bl n cs cl gw at_ O)[5]? = some vv ∧ a' = a.put (some dd) vv ∧ Step noF w w') a w := by
  have h68 : a.tmps.getD 68 undef = .pointer (some ⟨gw, 0, none⟩) := hat 4 (List.contains_iff_mem.1 (by kernel_rfl)) 68 _ rfl rfl
  refine val_runs cutsOp5 rfl rfl ?_
  intro oo hoo
  simp only [execOp, hoo, Act.eval, Option.map_some, Option.map_none, h68]
  go_simp

theorem cutsStep6 (p bs bl n cs cl gw at_ : Nat) (O : ByteArray) (hat1 : (at_ : Int) < (n : Int)) (hat0 : at_ < n) {Q : Exit → Act → World → Prop} (a : Act) (w : World) (v0 : w.cell? ⟨gw, 0, none⟩ = some (.int .i64 at_)) (v1 : w.cell? ⟨p, 1, none⟩ = some (.slice (some ⟨bl, 0, none⟩) n cl)) (v2 : w.cell? ⟨p, 0, none⟩ = some (.slice (some ⟨bs, 0, none⟩) n cs)) (v3 : w.cell? ⟨bs, at_, none⟩ = some (.string O)) (h0 : a.tmps.getD 0 undef = .pointer (some ⟨p, 0, none⟩)) (h8 : a.tmps.getD 8 undef = .pointer (some ⟨gw, 0, none⟩)) (hat : ∀ jj ∈ deps ((Try.f13.body.bind (regionOps 11)).getD #[]) 6, ∀ dd vv, cutsDl[jj]? = some (some dd) → (cutsVals p bs bl n cs cl gw at_ O)[jj]? = some vv → a.tmps.getD dd undef = vv) :
    wpOp Try.prog ((Try.f13.body.bind (regionOps 11)).getD #[]) Q 6 (fun a' w' => ∃ dd vv, cutsDl[6]? = some (some dd) ∧ (cutsVals p bs bl n cs cl gw at_ O)[6]? = some vv ∧ a' = a.put (some dd) vv ∧ Step noF w w') a w := by
  exact val_runs cutsOp6 rfl rfl (runs_move (show a.eval _ = _ from h0))

theorem cutsStep7 (p bs bl n cs cl gw at_ : Nat) (O : ByteArray) (hat1 : (at_ : Int) < (n : Int)) (hat0 : at_ < n) {Q : Exit → Act → World → Prop} (a : Act) (w : World) (v0 : w.cell? ⟨gw, 0, none⟩ = some (.int .i64 at_)) (v1 : w.cell? ⟨p, 1, none⟩ = some (.slice (some ⟨bl, 0, none⟩) n cl)) (v2 : w.cell? ⟨p, 0, none⟩ = some (.slice (some ⟨bs, 0, none⟩) n cs)) (v3 : w.cell? ⟨bs, at_, none⟩ = some (.string O)) (h0 : a.tmps.getD 0 undef = .pointer (some ⟨p, 0, none⟩)) (h8 : a.tmps.getD 8 undef = .pointer (some ⟨gw, 0, none⟩)) (hat : ∀ jj ∈ deps ((Try.f13.body.bind (regionOps 11)).getD #[]) 7, ∀ dd vv, cutsDl[jj]? = some (some dd) → (cutsVals p bs bl n cs cl gw at_ O)[jj]? = some vv → a.tmps.getD dd undef = vv) :
    wpOp Try.prog ((Try.f13.body.bind (regionOps 11)).getD #[]) Q 7 (fun a' w' => ∃ dd vv, cutsDl[7]? = some (some dd) ∧ (cutsVals p bs bl n cs cl gw at_ O)[7]? = some vv ∧ a' = a.put (some dd) vv ∧ Step noF w w') a w := by
  have h70 : a.tmps.getD 70 undef = .pointer (some ⟨p, 0, none⟩) := hat 6 (List.contains_iff_mem.1 (by kernel_rfl)) 70 _ rfl rfl
  refine val_runs cutsOp7 rfl rfl ?_
  intro oo hoo
  simp only [execOp, hoo, Act.eval, Option.map_some, Option.map_none, h70]
  go_simp

theorem cutsStep8 (p bs bl n cs cl gw at_ : Nat) (O : ByteArray) (hat1 : (at_ : Int) < (n : Int)) (hat0 : at_ < n) {Q : Exit → Act → World → Prop} (a : Act) (w : World) (v0 : w.cell? ⟨gw, 0, none⟩ = some (.int .i64 at_)) (v1 : w.cell? ⟨p, 1, none⟩ = some (.slice (some ⟨bl, 0, none⟩) n cl)) (v2 : w.cell? ⟨p, 0, none⟩ = some (.slice (some ⟨bs, 0, none⟩) n cs)) (v3 : w.cell? ⟨bs, at_, none⟩ = some (.string O)) (h0 : a.tmps.getD 0 undef = .pointer (some ⟨p, 0, none⟩)) (h8 : a.tmps.getD 8 undef = .pointer (some ⟨gw, 0, none⟩)) (hat : ∀ jj ∈ deps ((Try.f13.body.bind (regionOps 11)).getD #[]) 8, ∀ dd vv, cutsDl[jj]? = some (some dd) → (cutsVals p bs bl n cs cl gw at_ O)[jj]? = some vv → a.tmps.getD dd undef = vv) :
    wpOp Try.prog ((Try.f13.body.bind (regionOps 11)).getD #[]) Q 8 (fun a' w' => ∃ dd vv, cutsDl[8]? = some (some dd) ∧ (cutsVals p bs bl n cs cl gw at_ O)[8]? = some vv ∧ a' = a.put (some dd) vv ∧ Step noF w w') a w := by
  have h71 : a.tmps.getD 71 undef = .pointer (some ⟨p, 0, none⟩) := hat 7 (List.contains_iff_mem.1 (by kernel_rfl)) 71 _ rfl rfl
  refine val_runs cutsOp8 rfl rfl ?_
  intro oo hoo
  simp only [execOp, hoo, Act.eval, Option.map_some, Option.map_none, h71]
  go_simp

theorem cutsStep9 (p bs bl n cs cl gw at_ : Nat) (O : ByteArray) (hat1 : (at_ : Int) < (n : Int)) (hat0 : at_ < n) {Q : Exit → Act → World → Prop} (a : Act) (w : World) (v0 : w.cell? ⟨gw, 0, none⟩ = some (.int .i64 at_)) (v1 : w.cell? ⟨p, 1, none⟩ = some (.slice (some ⟨bl, 0, none⟩) n cl)) (v2 : w.cell? ⟨p, 0, none⟩ = some (.slice (some ⟨bs, 0, none⟩) n cs)) (v3 : w.cell? ⟨bs, at_, none⟩ = some (.string O)) (h0 : a.tmps.getD 0 undef = .pointer (some ⟨p, 0, none⟩)) (h8 : a.tmps.getD 8 undef = .pointer (some ⟨gw, 0, none⟩)) (hat : ∀ jj ∈ deps ((Try.f13.body.bind (regionOps 11)).getD #[]) 9, ∀ dd vv, cutsDl[jj]? = some (some dd) → (cutsVals p bs bl n cs cl gw at_ O)[jj]? = some vv → a.tmps.getD dd undef = vv) :
    wpOp Try.prog ((Try.f13.body.bind (regionOps 11)).getD #[]) Q 9 (fun a' w' => ∃ dd vv, cutsDl[9]? = some (some dd) ∧ (cutsVals p bs bl n cs cl gw at_ O)[9]? = some vv ∧ a' = a.put (some dd) vv ∧ Step noF w w') a w := by
  have h72 : a.tmps.getD 72 undef = .pointer (some ⟨p, 0, none⟩) := hat 8 (List.contains_iff_mem.1 (by kernel_rfl)) 72 _ rfl rfl
  refine val_runs cutsOp9 rfl rfl ?_
  intro oo hoo
  simp only [execOp, hoo, Act.eval, Option.map_some, Option.map_none, h72]
  go_simp

theorem cutsStep10 (p bs bl n cs cl gw at_ : Nat) (O : ByteArray) (hat1 : (at_ : Int) < (n : Int)) (hat0 : at_ < n) {Q : Exit → Act → World → Prop} (a : Act) (w : World) (v0 : w.cell? ⟨gw, 0, none⟩ = some (.int .i64 at_)) (v1 : w.cell? ⟨p, 1, none⟩ = some (.slice (some ⟨bl, 0, none⟩) n cl)) (v2 : w.cell? ⟨p, 0, none⟩ = some (.slice (some ⟨bs, 0, none⟩) n cs)) (v3 : w.cell? ⟨bs, at_, none⟩ = some (.string O)) (h0 : a.tmps.getD 0 undef = .pointer (some ⟨p, 0, none⟩)) (h8 : a.tmps.getD 8 undef = .pointer (some ⟨gw, 0, none⟩)) (hat : ∀ jj ∈ deps ((Try.f13.body.bind (regionOps 11)).getD #[]) 10, ∀ dd vv, cutsDl[jj]? = some (some dd) → (cutsVals p bs bl n cs cl gw at_ O)[jj]? = some vv → a.tmps.getD dd undef = vv) :
    wpOp Try.prog ((Try.f13.body.bind (regionOps 11)).getD #[]) Q 10 (fun a' w' => ∃ dd vv, cutsDl[10]? = some (some dd) ∧ (cutsVals p bs bl n cs cl gw at_ O)[10]? = some vv ∧ a' = a.put (some dd) vv ∧ Step noF w w') a w := by
  refine val_runs cutsOp10 rfl rfl ?_
  intro oo hoo
  simp only [execOp, hoo, Act.eval, Option.map_some, Option.map_none, h8]
  go_simp

theorem cutsStep11 (p bs bl n cs cl gw at_ : Nat) (O : ByteArray) (hat1 : (at_ : Int) < (n : Int)) (hat0 : at_ < n) {Q : Exit → Act → World → Prop} (a : Act) (w : World) (v0 : w.cell? ⟨gw, 0, none⟩ = some (.int .i64 at_)) (v1 : w.cell? ⟨p, 1, none⟩ = some (.slice (some ⟨bl, 0, none⟩) n cl)) (v2 : w.cell? ⟨p, 0, none⟩ = some (.slice (some ⟨bs, 0, none⟩) n cs)) (v3 : w.cell? ⟨bs, at_, none⟩ = some (.string O)) (h0 : a.tmps.getD 0 undef = .pointer (some ⟨p, 0, none⟩)) (h8 : a.tmps.getD 8 undef = .pointer (some ⟨gw, 0, none⟩)) (hat : ∀ jj ∈ deps ((Try.f13.body.bind (regionOps 11)).getD #[]) 11, ∀ dd vv, cutsDl[jj]? = some (some dd) → (cutsVals p bs bl n cs cl gw at_ O)[jj]? = some vv → a.tmps.getD dd undef = vv) :
    wpOp Try.prog ((Try.f13.body.bind (regionOps 11)).getD #[]) Q 11 (fun a' w' => ∃ dd vv, cutsDl[11]? = some (some dd) ∧ (cutsVals p bs bl n cs cl gw at_ O)[11]? = some vv ∧ a' = a.put (some dd) vv ∧ Step noF w w') a w := by
  have h74 : a.tmps.getD 74 undef = .pointer (some ⟨gw, 0, none⟩) := hat 10 (List.contains_iff_mem.1 (by kernel_rfl)) 74 _ rfl rfl
  refine val_runs cutsOp11 rfl rfl ?_
  intro oo hoo
  simp only [execOp, hoo, Act.eval, Option.map_some, Option.map_none, h74]
  go_simp

theorem cutsStep12 (p bs bl n cs cl gw at_ : Nat) (O : ByteArray) (hat1 : (at_ : Int) < (n : Int)) (hat0 : at_ < n) {Q : Exit → Act → World → Prop} (a : Act) (w : World) (v0 : w.cell? ⟨gw, 0, none⟩ = some (.int .i64 at_)) (v1 : w.cell? ⟨p, 1, none⟩ = some (.slice (some ⟨bl, 0, none⟩) n cl)) (v2 : w.cell? ⟨p, 0, none⟩ = some (.slice (some ⟨bs, 0, none⟩) n cs)) (v3 : w.cell? ⟨bs, at_, none⟩ = some (.string O)) (h0 : a.tmps.getD 0 undef = .pointer (some ⟨p, 0, none⟩)) (h8 : a.tmps.getD 8 undef = .pointer (some ⟨gw, 0, none⟩)) (hat : ∀ jj ∈ deps ((Try.f13.body.bind (regionOps 11)).getD #[]) 12, ∀ dd vv, cutsDl[jj]? = some (some dd) → (cutsVals p bs bl n cs cl gw at_ O)[jj]? = some vv → a.tmps.getD dd undef = vv) :
    wpOp Try.prog ((Try.f13.body.bind (regionOps 11)).getD #[]) Q 12 (fun a' w' => ∃ dd vv, cutsDl[12]? = some (some dd) ∧ (cutsVals p bs bl n cs cl gw at_ O)[12]? = some vv ∧ a' = a.put (some dd) vv ∧ Step noF w w') a w := by
  have h73 : a.tmps.getD 73 undef = .slice (some ⟨bs, 0, none⟩) n cs := hat 9 (List.contains_iff_mem.1 (by kernel_rfl)) 73 _ rfl rfl
  have h75 : a.tmps.getD 75 undef = .int .i64 at_ := hat 11 (List.contains_iff_mem.1 (by kernel_rfl)) 75 _ rfl rfl
  refine val_runs cutsOp12 rfl rfl ?_
  intro oo hoo
  simp only [execOp, hoo, Act.eval, Option.map_some, Option.map_none, h73, h75]
  go_simp

theorem cutsStep13 (p bs bl n cs cl gw at_ : Nat) (O : ByteArray) (hat1 : (at_ : Int) < (n : Int)) (hat0 : at_ < n) {Q : Exit → Act → World → Prop} (a : Act) (w : World) (v0 : w.cell? ⟨gw, 0, none⟩ = some (.int .i64 at_)) (v1 : w.cell? ⟨p, 1, none⟩ = some (.slice (some ⟨bl, 0, none⟩) n cl)) (v2 : w.cell? ⟨p, 0, none⟩ = some (.slice (some ⟨bs, 0, none⟩) n cs)) (v3 : w.cell? ⟨bs, at_, none⟩ = some (.string O)) (h0 : a.tmps.getD 0 undef = .pointer (some ⟨p, 0, none⟩)) (h8 : a.tmps.getD 8 undef = .pointer (some ⟨gw, 0, none⟩)) (hat : ∀ jj ∈ deps ((Try.f13.body.bind (regionOps 11)).getD #[]) 13, ∀ dd vv, cutsDl[jj]? = some (some dd) → (cutsVals p bs bl n cs cl gw at_ O)[jj]? = some vv → a.tmps.getD dd undef = vv) :
    wpOp Try.prog ((Try.f13.body.bind (regionOps 11)).getD #[]) Q 13 (fun a' w' => ∃ dd vv, cutsDl[13]? = some (some dd) ∧ (cutsVals p bs bl n cs cl gw at_ O)[13]? = some vv ∧ a' = a.put (some dd) vv ∧ Step noF w w') a w := by
  have h76 : a.tmps.getD 76 undef = .pointer (some ⟨bs, at_, none⟩) := hat 12 (List.contains_iff_mem.1 (by kernel_rfl)) 76 _ rfl rfl
  refine val_runs cutsOp13 rfl rfl ?_
  intro oo hoo
  simp only [execOp, hoo, Act.eval, Option.map_some, Option.map_none, h76]
  go_simp

theorem cutsStep14 (p bs bl n cs cl gw at_ : Nat) (O : ByteArray) (hat1 : (at_ : Int) < (n : Int)) (hat0 : at_ < n) {Q : Exit → Act → World → Prop} (a : Act) (w : World) (v0 : w.cell? ⟨gw, 0, none⟩ = some (.int .i64 at_)) (v1 : w.cell? ⟨p, 1, none⟩ = some (.slice (some ⟨bl, 0, none⟩) n cl)) (v2 : w.cell? ⟨p, 0, none⟩ = some (.slice (some ⟨bs, 0, none⟩) n cs)) (v3 : w.cell? ⟨bs, at_, none⟩ = some (.string O)) (h0 : a.tmps.getD 0 undef = .pointer (some ⟨p, 0, none⟩)) (h8 : a.tmps.getD 8 undef = .pointer (some ⟨gw, 0, none⟩)) (hat : ∀ jj ∈ deps ((Try.f13.body.bind (regionOps 11)).getD #[]) 14, ∀ dd vv, cutsDl[jj]? = some (some dd) → (cutsVals p bs bl n cs cl gw at_ O)[jj]? = some vv → a.tmps.getD dd undef = vv) :
    wpOp Try.prog ((Try.f13.body.bind (regionOps 11)).getD #[]) Q 14 (fun a' w' => ∃ dd vv, cutsDl[14]? = some (some dd) ∧ (cutsVals p bs bl n cs cl gw at_ O)[14]? = some vv ∧ a' = a.put (some dd) vv ∧ Step noF w w') a w := by
  have h67 : a.tmps.getD 67 undef = .slice (some ⟨bl, 0, none⟩) n cl := hat 3 (List.contains_iff_mem.1 (by kernel_rfl)) 67 _ rfl rfl
  have h69 : a.tmps.getD 69 undef = .int .i64 at_ := hat 5 (List.contains_iff_mem.1 (by kernel_rfl)) 69 _ rfl rfl
  refine val_runs cutsOp14 rfl rfl ?_
  intro oo hoo
  simp only [execOp, hoo, Act.eval, Option.map_some, Option.map_none, h67, h69]
  go_simp

theorem cuts_last (p bs bl n cs cl gw at_ : Nat) (O : ByteArray) {Q : Exit → Act → World → Prop} (ap : Act) (w : World) (hx : ap.tmps.getD 78 undef = .pointer (some ⟨bl, at_, none⟩)) (hy : ap.tmps.getD 77 undef = .string O) (u : Value) (hu : w.cell? ⟨bl, at_, none⟩ = some u) (hf : w.frozen? ⟨bl, at_, none⟩ = false) (hK : Q .normal ap (w.setCell ⟨bl, at_, none⟩ (.string O))) : wpOp Try.prog ((Try.f13.body.bind (regionOps 11)).getD #[]) Q 15 (fun a' w' => Q .normal a' w') ap w := by
  have hr : Skips Try.prog ap (Op.store 9 (Operand.tmp 78) (Operand.tmp 77)) w (w.setCell ⟨bl, at_, none⟩ (.string O)) := by
    intro oo hoo
    simp only [execOp, hoo, Act.eval, hx, hy]
    go_simp
  exact op_skips cutsOp15 hr hK

theorem cuts_go (p bs bl n cs cl gw at_ : Nat) (O : ByteArray) (hat1 : (at_ : Int) < (n : Int)) (hat0 : at_ < n) {Q : Exit → Act → World → Prop} (a0 : Act) (w0 : World) (hsz : a0.tmps.size = 86) (h0 : a0.tmps.getD 0 undef = .pointer (some ⟨p, 0, none⟩)) (h8 : a0.tmps.getD 8 undef = .pointer (some ⟨gw, 0, none⟩))
    (hw : ∀ w, Step noF w0 w → (w.cell? ⟨gw, 0, none⟩ = some (.int .i64 at_)) ∧ (w.cell? ⟨p, 1, none⟩ = some (.slice (some ⟨bl, 0, none⟩) n cl)) ∧ (w.cell? ⟨p, 0, none⟩ = some (.slice (some ⟨bs, 0, none⟩) n cs)) ∧ (w.cell? ⟨bs, at_, none⟩ = some (.string O)) ∧ (∃ u, w.cell? ⟨bl, at_, none⟩ = some u) ∧ w.frozen? ⟨bl, at_, none⟩ = false)
    (hK : ∀ w, Step noF w0 w → Q .normal (putAll a0 cutsDl (cutsVals p bs bl n cs cl gw at_ O)) (w.setCell ⟨bl, at_, none⟩ (.string O))) : (Code.region 11 ((Try.f13.body.bind (regionOps 11)).getD #[]) true).wp Try.prog Q a0 w0 := by
  refine wp_region_vals noF (cutsVals p bs bl n cs cl gw at_ O) cutsDl 15 cuts_size (by kernel_rfl) cuts_back cuts_used cuts_dl cuts_nd (fun d h => by rw [hsz]; exact cuts_lt d h) rfl rfl ?_ ?_
  · intro ix hix a w hs hfr hat
    obtain ⟨v0, v1, v2, v3, _, _⟩ := hw w hs
    have h0 := (hfr 0 (by decide)).trans h0
    have h8 := (hfr 8 (by decide)).trans h8
    match ix, hix with
    | 0, _ => exact cutsStep0 p bs bl n cs cl gw at_ O hat1 hat0 a w v0 v1 v2 v3 h0 h8 hat
    | 1, _ => exact cutsStep1 p bs bl n cs cl gw at_ O hat1 hat0 a w v0 v1 v2 v3 h0 h8 hat
    | 2, _ => exact cutsStep2 p bs bl n cs cl gw at_ O hat1 hat0 a w v0 v1 v2 v3 h0 h8 hat
    | 3, _ => exact cutsStep3 p bs bl n cs cl gw at_ O hat1 hat0 a w v0 v1 v2 v3 h0 h8 hat
    | 4, _ => exact cutsStep4 p bs bl n cs cl gw at_ O hat1 hat0 a w v0 v1 v2 v3 h0 h8 hat
    | 5, _ => exact cutsStep5 p bs bl n cs cl gw at_ O hat1 hat0 a w v0 v1 v2 v3 h0 h8 hat
    | 6, _ => exact cutsStep6 p bs bl n cs cl gw at_ O hat1 hat0 a w v0 v1 v2 v3 h0 h8 hat
    | 7, _ => exact cutsStep7 p bs bl n cs cl gw at_ O hat1 hat0 a w v0 v1 v2 v3 h0 h8 hat
    | 8, _ => exact cutsStep8 p bs bl n cs cl gw at_ O hat1 hat0 a w v0 v1 v2 v3 h0 h8 hat
    | 9, _ => exact cutsStep9 p bs bl n cs cl gw at_ O hat1 hat0 a w v0 v1 v2 v3 h0 h8 hat
    | 10, _ => exact cutsStep10 p bs bl n cs cl gw at_ O hat1 hat0 a w v0 v1 v2 v3 h0 h8 hat
    | 11, _ => exact cutsStep11 p bs bl n cs cl gw at_ O hat1 hat0 a w v0 v1 v2 v3 h0 h8 hat
    | 12, _ => exact cutsStep12 p bs bl n cs cl gw at_ O hat1 hat0 a w v0 v1 v2 v3 h0 h8 hat
    | 13, _ => exact cutsStep13 p bs bl n cs cl gw at_ O hat1 hat0 a w v0 v1 v2 v3 h0 h8 hat
    | 14, _ => exact cutsStep14 p bs bl n cs cl gw at_ O hat1 hat0 a w v0 v1 v2 v3 h0 h8 hat
    | k + 15, h => exact absurd h (by omega)
  · intro w hs
    obtain ⟨_, _, _, _, ⟨u, hu⟩, hf⟩ := hw w hs
    have hx : (putAll a0 cutsDl (cutsVals p bs bl n cs cl gw at_ O)).tmps.getD 78 undef = .pointer (some ⟨bl, at_, none⟩) := (putAll_at cutsDl (cutsVals p bs bl n cs cl gw at_ O) a0 14 78 _ cuts_nd rfl rfl (by rw [hsz]; decide))
    have hy : (putAll a0 cutsDl (cutsVals p bs bl n cs cl gw at_ O)).tmps.getD 77 undef = .string O := (putAll_at cutsDl (cutsVals p bs bl n cs cl gw at_ O) a0 13 77 _ cuts_nd rfl rfl (by rw [hsz]; decide))
    exact cuts_last p bs bl n cs cl gw at_ O (putAll a0 cutsDl (cutsVals p bs bl n cs cl gw at_ O)) w hx hy u hu hf (hK w hs)
end Go.Proofs.Ythgcpeibjnflaaa
