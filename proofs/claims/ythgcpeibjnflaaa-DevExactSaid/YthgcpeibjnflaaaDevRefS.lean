/-
  The region that draws in grangerref03.Device.Flush (number 3), operation by operation. Written by draw2.py.
-/
import Derived.Test.YthgcpeibjnflaaaVals
import Derived.Test.YthgcpeibjnflaaaDevRef
namespace Go.Proofs.Ythgcpeibjnflaaa
open Go.RowKit
set_option linter.unusedVariables false
set_option linter.unusedSimpArgs false


def refsDl : List (Option Nat) := [some 12, some 13, some 14, some 15, some 16, some 17, some 18, some 19, some 20, some 21, some 22, some 23, some 24, some 25, some 26, some 27, some 28, some 29, some 30, some 31, some 32, some 33, some 34, some 35, some 36, none]
theorem refs_dl : ((Try.f12.body.bind (regionOps 3)).getD #[]).toList.map (·.dst) = refsDl := by kernel_rfl
theorem refs_back : backB ((Try.f12.body.bind (regionOps 3)).getD #[]) = true := by kernel_rfl
theorem refs_used : usedB ((Try.f12.body.bind (regionOps 3)).getD #[]) 25 = true := by kernel_rfl
theorem refs_size : ((Try.f12.body.bind (regionOps 3)).getD #[]).size = 26 := by kernel_rfl
theorem refs_nd : refsDl.Pairwise (fun x y => x = none ∨ x ≠ y) := by decide
theorem refs_lt (d : Nat) (h : some d ∈ refsDl) : d < 47 := by
  have hh : refsDl.all (fun o => o.all (fun d => decide (d < 47))) = true := by decide
  simpa using List.all_eq_true.1 hh _ h
def refsVals (q g n c j at_ A : Nat) (SF B Y : ByteArray) : List Value := [.pointer (some ⟨q, 0, none⟩), .pointer (some ⟨q, 0, none⟩), .pointer (some ⟨q, 0, none⟩), .pointer (some ⟨q, 0, none⟩), .string SF, .pointer (some ⟨q, 0, none⟩), .pointer (some ⟨q, 0, none⟩), .pointer (some ⟨q, 1, none⟩), .slice (some ⟨g, 0, none⟩) n c, .int .i64 j, .pointer (some ⟨g, j * 2, none⟩), .pointer (some ⟨g, j * 2, none⟩), .int .i64 at_, .int .i64 A, .pointer (some ⟨q, 0, none⟩), .pointer (some ⟨q, 0, none⟩), .pointer (some ⟨q, 1, none⟩), .slice (some ⟨g, 0, none⟩) n c, .int .i64 j, .pointer (some ⟨g, j * 2, none⟩), .pointer (some ⟨g, j * 2 + 1, none⟩), .string B, .string Y, .pointer (some ⟨q, 0, none⟩), .pointer (some ⟨q, 0, none⟩)]
theorem refsOp0 : opIs ((Try.f12.body.bind (regionOps 3)).getD #[]) 0 (some 12) (Op.move (Operand.tmp 0)) none := opIs_of (by kernel_rfl)
theorem refsOp1 : opIs ((Try.f12.body.bind (regionOps 3)).getD #[]) 1 (some 13) (Op.move (Operand.tmp 0)) none := opIs_of (by kernel_rfl)
theorem refsOp2 : opIs ((Try.f12.body.bind (regionOps 3)).getD #[]) 2 (some 14) (Op.nilCheck (Operand.tmp 13)) none := opIs_of (by kernel_rfl)
theorem refsOp3 : opIs ((Try.f12.body.bind (regionOps 3)).getD #[]) 3 (some 15) (Op.fieldAddr 38 (Operand.tmp 14) 0) none := opIs_of (by kernel_rfl)
theorem refsOp4 : opIs ((Try.f12.body.bind (regionOps 3)).getD #[]) 4 (some 16) (Op.load 9 (Operand.tmp 15)) none := opIs_of (by kernel_rfl)
theorem refsOp5 : opIs ((Try.f12.body.bind (regionOps 3)).getD #[]) 5 (some 17) (Op.move (Operand.tmp 0)) none := opIs_of (by kernel_rfl)
theorem refsOp6 : opIs ((Try.f12.body.bind (regionOps 3)).getD #[]) 6 (some 18) (Op.nilCheck (Operand.tmp 17)) none := opIs_of (by kernel_rfl)
theorem refsOp7 : opIs ((Try.f12.body.bind (regionOps 3)).getD #[]) 7 (some 19) (Op.fieldAddr 38 (Operand.tmp 18) 1) none := opIs_of (by kernel_rfl)
theorem refsOp8 : opIs ((Try.f12.body.bind (regionOps 3)).getD #[]) 8 (some 20) (Op.load 36 (Operand.tmp 19)) none := opIs_of (by kernel_rfl)
theorem refsOp9 : opIs ((Try.f12.body.bind (regionOps 3)).getD #[]) 9 (some 21) (Op.move (Operand.tmp 2)) none := opIs_of (by kernel_rfl)
theorem refsOp10 : opIs ((Try.f12.body.bind (regionOps 3)).getD #[]) 10 (some 22) (Op.indexAddr 36 (Operand.tmp 20) (Operand.tmp 21)) none := opIs_of (by kernel_rfl)
theorem refsOp11 : opIs ((Try.f12.body.bind (regionOps 3)).getD #[]) 11 (some 23) (Op.fieldAddr 45 (Operand.tmp 22) 0) none := opIs_of (by kernel_rfl)
theorem refsOp12 : opIs ((Try.f12.body.bind (regionOps 3)).getD #[]) 12 (some 24) (Op.load 3 (Operand.tmp 23)) none := opIs_of (by kernel_rfl)
theorem refsOp13 : opIs ((Try.f12.body.bind (regionOps 3)).getD #[]) 13 (some 25) (Op.binOp BinOp.mul 3 (Operand.const (Value.int IntKind.i64 256)) (Operand.tmp 24) 3) none := opIs_of (by kernel_rfl)
theorem refsOp14 : opIs ((Try.f12.body.bind (regionOps 3)).getD #[]) 14 (some 26) (Op.move (Operand.tmp 0)) none := opIs_of (by kernel_rfl)
theorem refsOp15 : opIs ((Try.f12.body.bind (regionOps 3)).getD #[]) 15 (some 27) (Op.nilCheck (Operand.tmp 26)) none := opIs_of (by kernel_rfl)
theorem refsOp16 : opIs ((Try.f12.body.bind (regionOps 3)).getD #[]) 16 (some 28) (Op.fieldAddr 38 (Operand.tmp 27) 1) none := opIs_of (by kernel_rfl)
theorem refsOp17 : opIs ((Try.f12.body.bind (regionOps 3)).getD #[]) 17 (some 29) (Op.load 36 (Operand.tmp 28)) none := opIs_of (by kernel_rfl)
theorem refsOp18 : opIs ((Try.f12.body.bind (regionOps 3)).getD #[]) 18 (some 30) (Op.move (Operand.tmp 2)) none := opIs_of (by kernel_rfl)
theorem refsOp19 : opIs ((Try.f12.body.bind (regionOps 3)).getD #[]) 19 (some 31) (Op.indexAddr 36 (Operand.tmp 29) (Operand.tmp 30)) none := opIs_of (by kernel_rfl)
theorem refsOp20 : opIs ((Try.f12.body.bind (regionOps 3)).getD #[]) 20 (some 32) (Op.fieldAddr 45 (Operand.tmp 31) 1) none := opIs_of (by kernel_rfl)
theorem refsOp21 : opIs ((Try.f12.body.bind (regionOps 3)).getD #[]) 21 (some 33) (Op.load 9 (Operand.tmp 32)) none := opIs_of (by kernel_rfl)
theorem refsOp22 : opIs ((Try.f12.body.bind (regionOps 3)).getD #[]) 22 (some 34) (Op.call { callee := Callee.value (Operand.func 30), args := #[Operand.tmp 16, Operand.tmp 25, Operand.tmp 33], argTypes := #[9, 3, 9] }) none := opIs_of (by kernel_rfl)
theorem refsOp23 : opIs ((Try.f12.body.bind (regionOps 3)).getD #[]) 23 (some 35) (Op.nilCheck (Operand.tmp 12)) none := opIs_of (by kernel_rfl)
theorem refsOp24 : opIs ((Try.f12.body.bind (regionOps 3)).getD #[]) 24 (some 36) (Op.fieldAddr 38 (Operand.tmp 35) 0) none := opIs_of (by kernel_rfl)
theorem refsOp25 : opIs ((Try.f12.body.bind (regionOps 3)).getD #[]) 25 none (Op.store 9 (Operand.tmp 36) (Operand.tmp 34)) none := opIs_of (by kernel_rfl)

theorem refsStep0 (q g n c j at_ A : Nat) (SF B Y : ByteArray) (hj1 : (j : Int) < (n : Int)) (hj0 : j < n) (m1 : (256 : Int) * (at_ : Int) = (A : Int)) (n1 : IntKind.i64.wrap (A : Int) = (A : Int)) {Q : Exit → Act → World → Prop} (a : Act) (w : World) (v0 : w.cell? ⟨q, 0, none⟩ = some (.string SF)) (v1 : w.cell? ⟨q, 1, none⟩ = some (.slice (some ⟨g, 0, none⟩) n c)) (v2 : w.cell? ⟨g, j * 2, none⟩ = some (.int .i64 at_)) (v3 : w.cell? ⟨g, j * 2 + 1, none⟩ = some (.string B)) (hc : Calls Try.prog 30 #[.string SF, .int .i64 A, .string B] w fun e w' => e = .returned (.string Y) ∧ Step noF w w') (h0 : a.tmps.getD 0 undef = .pointer (some ⟨q, 0, none⟩)) (h2 : a.tmps.getD 2 undef = .int .i64 j) (hat : ∀ jj ∈ deps ((Try.f12.body.bind (regionOps 3)).getD #[]) 0, ∀ dd vv, refsDl[jj]? = some (some dd) → (refsVals q g n c j at_ A SF B Y)[jj]? = some vv → a.tmps.getD dd undef = vv) :
    wpOp Try.prog ((Try.f12.body.bind (regionOps 3)).getD #[]) Q 0 (fun a' w' => ∃ dd vv, refsDl[0]? = some (some dd) ∧ (refsVals q g n c j at_ A SF B Y)[0]? = some vv ∧ a' = a.put (some dd) vv ∧ Step noF w w') a w := by
  exact val_runs refsOp0 rfl rfl (runs_move (show a.eval _ = _ from h0))

theorem refsStep1 (q g n c j at_ A : Nat) (SF B Y : ByteArray) (hj1 : (j : Int) < (n : Int)) (hj0 : j < n) (m1 : (256 : Int) * (at_ : Int) = (A : Int)) (n1 : IntKind.i64.wrap (A : Int) = (A : Int)) {Q : Exit → Act → World → Prop} (a : Act) (w : World) (v0 : w.cell? ⟨q, 0, none⟩ = some (.string SF)) (v1 : w.cell? ⟨q, 1, none⟩ = some (.slice (some ⟨g, 0, none⟩) n c)) (v2 : w.cell? ⟨g, j * 2, none⟩ = some (.int .i64 at_)) (v3 : w.cell? ⟨g, j * 2 + 1, none⟩ = some (.string B)) (hc : Calls Try.prog 30 #[.string SF, .int .i64 A, .string B] w fun e w' => e = .returned (.string Y) ∧ Step noF w w') (h0 : a.tmps.getD 0 undef = .pointer (some ⟨q, 0, none⟩)) (h2 : a.tmps.getD 2 undef = .int .i64 j) (hat : ∀ jj ∈ deps ((Try.f12.body.bind (regionOps 3)).getD #[]) 1, ∀ dd vv, refsDl[jj]? = some (some dd) → (refsVals q g n c j at_ A SF B Y)[jj]? = some vv → a.tmps.getD dd undef = vv) :
    wpOp Try.prog ((Try.f12.body.bind (regionOps 3)).getD #[]) Q 1 (fun a' w' => ∃ dd vv, refsDl[1]? = some (some dd) ∧ (refsVals q g n c j at_ A SF B Y)[1]? = some vv ∧ a' = a.put (some dd) vv ∧ Step noF w w') a w := by
  exact val_runs refsOp1 rfl rfl (runs_move (show a.eval _ = _ from h0))

theorem refsStep2 (q g n c j at_ A : Nat) (SF B Y : ByteArray) (hj1 : (j : Int) < (n : Int)) (hj0 : j < n) (m1 : (256 : Int) * (at_ : Int) = (A : Int)) (n1 : IntKind.i64.wrap (A : Int) = (A : Int)) {Q : Exit → Act → World → Prop} (a : Act) (w : World) (v0 : w.cell? ⟨q, 0, none⟩ = some (.string SF)) (v1 : w.cell? ⟨q, 1, none⟩ = some (.slice (some ⟨g, 0, none⟩) n c)) (v2 : w.cell? ⟨g, j * 2, none⟩ = some (.int .i64 at_)) (v3 : w.cell? ⟨g, j * 2 + 1, none⟩ = some (.string B)) (hc : Calls Try.prog 30 #[.string SF, .int .i64 A, .string B] w fun e w' => e = .returned (.string Y) ∧ Step noF w w') (h0 : a.tmps.getD 0 undef = .pointer (some ⟨q, 0, none⟩)) (h2 : a.tmps.getD 2 undef = .int .i64 j) (hat : ∀ jj ∈ deps ((Try.f12.body.bind (regionOps 3)).getD #[]) 2, ∀ dd vv, refsDl[jj]? = some (some dd) → (refsVals q g n c j at_ A SF B Y)[jj]? = some vv → a.tmps.getD dd undef = vv) :
    wpOp Try.prog ((Try.f12.body.bind (regionOps 3)).getD #[]) Q 2 (fun a' w' => ∃ dd vv, refsDl[2]? = some (some dd) ∧ (refsVals q g n c j at_ A SF B Y)[2]? = some vv ∧ a' = a.put (some dd) vv ∧ Step noF w w') a w := by
  have h13 : a.tmps.getD 13 undef = .pointer (some ⟨q, 0, none⟩) := hat 1 (List.contains_iff_mem.1 (by kernel_rfl)) 13 _ rfl rfl
  refine val_runs refsOp2 rfl rfl ?_
  intro oo hoo
  simp only [execOp, hoo, Act.eval, Option.map_some, Option.map_none, h13]
  go_simp

theorem refsStep3 (q g n c j at_ A : Nat) (SF B Y : ByteArray) (hj1 : (j : Int) < (n : Int)) (hj0 : j < n) (m1 : (256 : Int) * (at_ : Int) = (A : Int)) (n1 : IntKind.i64.wrap (A : Int) = (A : Int)) {Q : Exit → Act → World → Prop} (a : Act) (w : World) (v0 : w.cell? ⟨q, 0, none⟩ = some (.string SF)) (v1 : w.cell? ⟨q, 1, none⟩ = some (.slice (some ⟨g, 0, none⟩) n c)) (v2 : w.cell? ⟨g, j * 2, none⟩ = some (.int .i64 at_)) (v3 : w.cell? ⟨g, j * 2 + 1, none⟩ = some (.string B)) (hc : Calls Try.prog 30 #[.string SF, .int .i64 A, .string B] w fun e w' => e = .returned (.string Y) ∧ Step noF w w') (h0 : a.tmps.getD 0 undef = .pointer (some ⟨q, 0, none⟩)) (h2 : a.tmps.getD 2 undef = .int .i64 j) (hat : ∀ jj ∈ deps ((Try.f12.body.bind (regionOps 3)).getD #[]) 3, ∀ dd vv, refsDl[jj]? = some (some dd) → (refsVals q g n c j at_ A SF B Y)[jj]? = some vv → a.tmps.getD dd undef = vv) :
    wpOp Try.prog ((Try.f12.body.bind (regionOps 3)).getD #[]) Q 3 (fun a' w' => ∃ dd vv, refsDl[3]? = some (some dd) ∧ (refsVals q g n c j at_ A SF B Y)[3]? = some vv ∧ a' = a.put (some dd) vv ∧ Step noF w w') a w := by
  have h14 : a.tmps.getD 14 undef = .pointer (some ⟨q, 0, none⟩) := hat 2 (List.contains_iff_mem.1 (by kernel_rfl)) 14 _ rfl rfl
  refine val_runs refsOp3 rfl rfl ?_
  intro oo hoo
  simp only [execOp, hoo, Act.eval, Option.map_some, Option.map_none, h14]
  go_simp

theorem refsStep4 (q g n c j at_ A : Nat) (SF B Y : ByteArray) (hj1 : (j : Int) < (n : Int)) (hj0 : j < n) (m1 : (256 : Int) * (at_ : Int) = (A : Int)) (n1 : IntKind.i64.wrap (A : Int) = (A : Int)) {Q : Exit → Act → World → Prop} (a : Act) (w : World) (v0 : w.cell? ⟨q, 0, none⟩ = some (.string SF)) (v1 : w.cell? ⟨q, 1, none⟩ = some (.slice (some ⟨g, 0, none⟩) n c)) (v2 : w.cell? ⟨g, j * 2, none⟩ = some (.int .i64 at_)) (v3 : w.cell? ⟨g, j * 2 + 1, none⟩ = some (.string B)) (hc : Calls Try.prog 30 #[.string SF, .int .i64 A, .string B] w fun e w' => e = .returned (.string Y) ∧ Step noF w w') (h0 : a.tmps.getD 0 undef = .pointer (some ⟨q, 0, none⟩)) (h2 : a.tmps.getD 2 undef = .int .i64 j) (hat : ∀ jj ∈ deps ((Try.f12.body.bind (regionOps 3)).getD #[]) 4, ∀ dd vv, refsDl[jj]? = some (some dd) → (refsVals q g n c j at_ A SF B Y)[jj]? = some vv → a.tmps.getD dd undef = vv) :
    wpOp Try.prog ((Try.f12.body.bind (regionOps 3)).getD #[]) Q 4 (fun a' w' => ∃ dd vv, refsDl[4]? = some (some dd) ∧ (refsVals q g n c j at_ A SF B Y)[4]? = some vv ∧ a' = a.put (some dd) vv ∧ Step noF w w') a w := by
  have h15 : a.tmps.getD 15 undef = .pointer (some ⟨q, 0, none⟩) := hat 3 (List.contains_iff_mem.1 (by kernel_rfl)) 15 _ rfl rfl
  refine val_runs refsOp4 rfl rfl ?_
  intro oo hoo
  simp only [execOp, hoo, Act.eval, Option.map_some, Option.map_none, h15]
  go_simp

theorem refsStep5 (q g n c j at_ A : Nat) (SF B Y : ByteArray) (hj1 : (j : Int) < (n : Int)) (hj0 : j < n) (m1 : (256 : Int) * (at_ : Int) = (A : Int)) (n1 : IntKind.i64.wrap (A : Int) = (A : Int)) {Q : Exit → Act → World → Prop} (a : Act) (w : World) (v0 : w.cell? ⟨q, 0, none⟩ = some (.string SF)) (v1 : w.cell? ⟨q, 1, none⟩ = some (.slice (some ⟨g, 0, none⟩) n c)) (v2 : w.cell? ⟨g, j * 2, none⟩ = some (.int .i64 at_)) (v3 : w.cell? ⟨g, j * 2 + 1, none⟩ = some (.string B)) (hc : Calls Try.prog 30 #[.string SF, .int .i64 A, .string B] w fun e w' => e = .returned (.string Y) ∧ Step noF w w') (h0 : a.tmps.getD 0 undef = .pointer (some ⟨q, 0, none⟩)) (h2 : a.tmps.getD 2 undef = .int .i64 j) (hat : ∀ jj ∈ deps ((Try.f12.body.bind (regionOps 3)).getD #[]) 5, ∀ dd vv, refsDl[jj]? = some (some dd) → (refsVals q g n c j at_ A SF B Y)[jj]? = some vv → a.tmps.getD dd undef = vv) :
    wpOp Try.prog ((Try.f12.body.bind (regionOps 3)).getD #[]) Q 5 (fun a' w' => ∃ dd vv, refsDl[5]? = some (some dd) ∧ (refsVals q g n c j at_ A SF B Y)[5]? = some vv ∧ a' = a.put (some dd) vv ∧ Step noF w w') a w := by
  exact val_runs refsOp5 rfl rfl (runs_move (show a.eval _ = _ from h0))

theorem refsStep6 (q g n c j at_ A : Nat) (SF B Y : ByteArray) (hj1 : (j : Int) < (n : Int)) (hj0 : j < n) (m1 : (256 : Int) * (at_ : Int) = (A : Int)) (n1 : IntKind.i64.wrap (A : Int) = (A : Int)) {Q : Exit → Act → World → Prop} (a : Act) (w : World) (v0 : w.cell? ⟨q, 0, none⟩ = some (.string SF)) (v1 : w.cell? ⟨q, 1, none⟩ = some (.slice (some ⟨g, 0, none⟩) n c)) (v2 : w.cell? ⟨g, j * 2, none⟩ = some (.int .i64 at_)) (v3 : w.cell? ⟨g, j * 2 + 1, none⟩ = some (.string B)) (hc : Calls Try.prog 30 #[.string SF, .int .i64 A, .string B] w fun e w' => e = .returned (.string Y) ∧ Step noF w w') (h0 : a.tmps.getD 0 undef = .pointer (some ⟨q, 0, none⟩)) (h2 : a.tmps.getD 2 undef = .int .i64 j) (hat : ∀ jj ∈ deps ((Try.f12.body.bind (regionOps 3)).getD #[]) 6, ∀ dd vv, refsDl[jj]? = some (some dd) → (refsVals q g n c j at_ A SF B Y)[jj]? = some vv → a.tmps.getD dd undef = vv) :
    wpOp Try.prog ((Try.f12.body.bind (regionOps 3)).getD #[]) Q 6 (fun a' w' => ∃ dd vv, refsDl[6]? = some (some dd) ∧ (refsVals q g n c j at_ A SF B Y)[6]? = some vv ∧ a' = a.put (some dd) vv ∧ Step noF w w') a w := by
  have h17 : a.tmps.getD 17 undef = .pointer (some ⟨q, 0, none⟩) := hat 5 (List.contains_iff_mem.1 (by kernel_rfl)) 17 _ rfl rfl
  refine val_runs refsOp6 rfl rfl ?_
  intro oo hoo
  simp only [execOp, hoo, Act.eval, Option.map_some, Option.map_none, h17]
  go_simp

theorem refsStep7 (q g n c j at_ A : Nat) (SF B Y : ByteArray) (hj1 : (j : Int) < (n : Int)) (hj0 : j < n) (m1 : (256 : Int) * (at_ : Int) = (A : Int)) (n1 : IntKind.i64.wrap (A : Int) = (A : Int)) {Q : Exit → Act → World → Prop} (a : Act) (w : World) (v0 : w.cell? ⟨q, 0, none⟩ = some (.string SF)) (v1 : w.cell? ⟨q, 1, none⟩ = some (.slice (some ⟨g, 0, none⟩) n c)) (v2 : w.cell? ⟨g, j * 2, none⟩ = some (.int .i64 at_)) (v3 : w.cell? ⟨g, j * 2 + 1, none⟩ = some (.string B)) (hc : Calls Try.prog 30 #[.string SF, .int .i64 A, .string B] w fun e w' => e = .returned (.string Y) ∧ Step noF w w') (h0 : a.tmps.getD 0 undef = .pointer (some ⟨q, 0, none⟩)) (h2 : a.tmps.getD 2 undef = .int .i64 j) (hat : ∀ jj ∈ deps ((Try.f12.body.bind (regionOps 3)).getD #[]) 7, ∀ dd vv, refsDl[jj]? = some (some dd) → (refsVals q g n c j at_ A SF B Y)[jj]? = some vv → a.tmps.getD dd undef = vv) :
    wpOp Try.prog ((Try.f12.body.bind (regionOps 3)).getD #[]) Q 7 (fun a' w' => ∃ dd vv, refsDl[7]? = some (some dd) ∧ (refsVals q g n c j at_ A SF B Y)[7]? = some vv ∧ a' = a.put (some dd) vv ∧ Step noF w w') a w := by
  have h18 : a.tmps.getD 18 undef = .pointer (some ⟨q, 0, none⟩) := hat 6 (List.contains_iff_mem.1 (by kernel_rfl)) 18 _ rfl rfl
  refine val_runs refsOp7 rfl rfl ?_
  intro oo hoo
  simp only [execOp, hoo, Act.eval, Option.map_some, Option.map_none, h18]
  go_simp

theorem refsStep8 (q g n c j at_ A : Nat) (SF B Y : ByteArray) (hj1 : (j : Int) < (n : Int)) (hj0 : j < n) (m1 : (256 : Int) * (at_ : Int) = (A : Int)) (n1 : IntKind.i64.wrap (A : Int) = (A : Int)) {Q : Exit → Act → World → Prop} (a : Act) (w : World) (v0 : w.cell? ⟨q, 0, none⟩ = some (.string SF)) (v1 : w.cell? ⟨q, 1, none⟩ = some (.slice (some ⟨g, 0, none⟩) n c)) (v2 : w.cell? ⟨g, j * 2, none⟩ = some (.int .i64 at_)) (v3 : w.cell? ⟨g, j * 2 + 1, none⟩ = some (.string B)) (hc : Calls Try.prog 30 #[.string SF, .int .i64 A, .string B] w fun e w' => e = .returned (.string Y) ∧ Step noF w w') (h0 : a.tmps.getD 0 undef = .pointer (some ⟨q, 0, none⟩)) (h2 : a.tmps.getD 2 undef = .int .i64 j) (hat : ∀ jj ∈ deps ((Try.f12.body.bind (regionOps 3)).getD #[]) 8, ∀ dd vv, refsDl[jj]? = some (some dd) → (refsVals q g n c j at_ A SF B Y)[jj]? = some vv → a.tmps.getD dd undef = vv) :
    wpOp Try.prog ((Try.f12.body.bind (regionOps 3)).getD #[]) Q 8 (fun a' w' => ∃ dd vv, refsDl[8]? = some (some dd) ∧ (refsVals q g n c j at_ A SF B Y)[8]? = some vv ∧ a' = a.put (some dd) vv ∧ Step noF w w') a w := by
  have h19 : a.tmps.getD 19 undef = .pointer (some ⟨q, 1, none⟩) := hat 7 (List.contains_iff_mem.1 (by kernel_rfl)) 19 _ rfl rfl
  refine val_runs refsOp8 rfl rfl ?_
  intro oo hoo
  simp only [execOp, hoo, Act.eval, Option.map_some, Option.map_none, h19]
  go_simp

theorem refsStep9 (q g n c j at_ A : Nat) (SF B Y : ByteArray) (hj1 : (j : Int) < (n : Int)) (hj0 : j < n) (m1 : (256 : Int) * (at_ : Int) = (A : Int)) (n1 : IntKind.i64.wrap (A : Int) = (A : Int)) {Q : Exit → Act → World → Prop} (a : Act) (w : World) (v0 : w.cell? ⟨q, 0, none⟩ = some (.string SF)) (v1 : w.cell? ⟨q, 1, none⟩ = some (.slice (some ⟨g, 0, none⟩) n c)) (v2 : w.cell? ⟨g, j * 2, none⟩ = some (.int .i64 at_)) (v3 : w.cell? ⟨g, j * 2 + 1, none⟩ = some (.string B)) (hc : Calls Try.prog 30 #[.string SF, .int .i64 A, .string B] w fun e w' => e = .returned (.string Y) ∧ Step noF w w') (h0 : a.tmps.getD 0 undef = .pointer (some ⟨q, 0, none⟩)) (h2 : a.tmps.getD 2 undef = .int .i64 j) (hat : ∀ jj ∈ deps ((Try.f12.body.bind (regionOps 3)).getD #[]) 9, ∀ dd vv, refsDl[jj]? = some (some dd) → (refsVals q g n c j at_ A SF B Y)[jj]? = some vv → a.tmps.getD dd undef = vv) :
    wpOp Try.prog ((Try.f12.body.bind (regionOps 3)).getD #[]) Q 9 (fun a' w' => ∃ dd vv, refsDl[9]? = some (some dd) ∧ (refsVals q g n c j at_ A SF B Y)[9]? = some vv ∧ a' = a.put (some dd) vv ∧ Step noF w w') a w := by
  exact val_runs refsOp9 rfl rfl (runs_move (show a.eval _ = _ from h2))

theorem refsStep10 (q g n c j at_ A : Nat) (SF B Y : ByteArray) (hj1 : (j : Int) < (n : Int)) (hj0 : j < n) (m1 : (256 : Int) * (at_ : Int) = (A : Int)) (n1 : IntKind.i64.wrap (A : Int) = (A : Int)) {Q : Exit → Act → World → Prop} (a : Act) (w : World) (v0 : w.cell? ⟨q, 0, none⟩ = some (.string SF)) (v1 : w.cell? ⟨q, 1, none⟩ = some (.slice (some ⟨g, 0, none⟩) n c)) (v2 : w.cell? ⟨g, j * 2, none⟩ = some (.int .i64 at_)) (v3 : w.cell? ⟨g, j * 2 + 1, none⟩ = some (.string B)) (hc : Calls Try.prog 30 #[.string SF, .int .i64 A, .string B] w fun e w' => e = .returned (.string Y) ∧ Step noF w w') (h0 : a.tmps.getD 0 undef = .pointer (some ⟨q, 0, none⟩)) (h2 : a.tmps.getD 2 undef = .int .i64 j) (hat : ∀ jj ∈ deps ((Try.f12.body.bind (regionOps 3)).getD #[]) 10, ∀ dd vv, refsDl[jj]? = some (some dd) → (refsVals q g n c j at_ A SF B Y)[jj]? = some vv → a.tmps.getD dd undef = vv) :
    wpOp Try.prog ((Try.f12.body.bind (regionOps 3)).getD #[]) Q 10 (fun a' w' => ∃ dd vv, refsDl[10]? = some (some dd) ∧ (refsVals q g n c j at_ A SF B Y)[10]? = some vv ∧ a' = a.put (some dd) vv ∧ Step noF w w') a w := by
  have h20 : a.tmps.getD 20 undef = .slice (some ⟨g, 0, none⟩) n c := hat 8 (List.contains_iff_mem.1 (by kernel_rfl)) 20 _ rfl rfl
  have h21 : a.tmps.getD 21 undef = .int .i64 j := hat 9 (List.contains_iff_mem.1 (by kernel_rfl)) 21 _ rfl rfl
  refine val_runs refsOp10 rfl rfl ?_
  intro oo hoo
  simp only [execOp, hoo, Act.eval, Option.map_some, Option.map_none, h20, h21]
  go_simp

theorem refsStep11 (q g n c j at_ A : Nat) (SF B Y : ByteArray) (hj1 : (j : Int) < (n : Int)) (hj0 : j < n) (m1 : (256 : Int) * (at_ : Int) = (A : Int)) (n1 : IntKind.i64.wrap (A : Int) = (A : Int)) {Q : Exit → Act → World → Prop} (a : Act) (w : World) (v0 : w.cell? ⟨q, 0, none⟩ = some (.string SF)) (v1 : w.cell? ⟨q, 1, none⟩ = some (.slice (some ⟨g, 0, none⟩) n c)) (v2 : w.cell? ⟨g, j * 2, none⟩ = some (.int .i64 at_)) (v3 : w.cell? ⟨g, j * 2 + 1, none⟩ = some (.string B)) (hc : Calls Try.prog 30 #[.string SF, .int .i64 A, .string B] w fun e w' => e = .returned (.string Y) ∧ Step noF w w') (h0 : a.tmps.getD 0 undef = .pointer (some ⟨q, 0, none⟩)) (h2 : a.tmps.getD 2 undef = .int .i64 j) (hat : ∀ jj ∈ deps ((Try.f12.body.bind (regionOps 3)).getD #[]) 11, ∀ dd vv, refsDl[jj]? = some (some dd) → (refsVals q g n c j at_ A SF B Y)[jj]? = some vv → a.tmps.getD dd undef = vv) :
    wpOp Try.prog ((Try.f12.body.bind (regionOps 3)).getD #[]) Q 11 (fun a' w' => ∃ dd vv, refsDl[11]? = some (some dd) ∧ (refsVals q g n c j at_ A SF B Y)[11]? = some vv ∧ a' = a.put (some dd) vv ∧ Step noF w w') a w := by
  have h22 : a.tmps.getD 22 undef = .pointer (some ⟨g, j * 2, none⟩) := hat 10 (List.contains_iff_mem.1 (by kernel_rfl)) 22 _ rfl rfl
  refine val_runs refsOp11 rfl rfl ?_
  intro oo hoo
  simp only [execOp, hoo, Act.eval, Option.map_some, Option.map_none, h22]
  go_simp

theorem refsStep12 (q g n c j at_ A : Nat) (SF B Y : ByteArray) (hj1 : (j : Int) < (n : Int)) (hj0 : j < n) (m1 : (256 : Int) * (at_ : Int) = (A : Int)) (n1 : IntKind.i64.wrap (A : Int) = (A : Int)) {Q : Exit → Act → World → Prop} (a : Act) (w : World) (v0 : w.cell? ⟨q, 0, none⟩ = some (.string SF)) (v1 : w.cell? ⟨q, 1, none⟩ = some (.slice (some ⟨g, 0, none⟩) n c)) (v2 : w.cell? ⟨g, j * 2, none⟩ = some (.int .i64 at_)) (v3 : w.cell? ⟨g, j * 2 + 1, none⟩ = some (.string B)) (hc : Calls Try.prog 30 #[.string SF, .int .i64 A, .string B] w fun e w' => e = .returned (.string Y) ∧ Step noF w w') (h0 : a.tmps.getD 0 undef = .pointer (some ⟨q, 0, none⟩)) (h2 : a.tmps.getD 2 undef = .int .i64 j) (hat : ∀ jj ∈ deps ((Try.f12.body.bind (regionOps 3)).getD #[]) 12, ∀ dd vv, refsDl[jj]? = some (some dd) → (refsVals q g n c j at_ A SF B Y)[jj]? = some vv → a.tmps.getD dd undef = vv) :
    wpOp Try.prog ((Try.f12.body.bind (regionOps 3)).getD #[]) Q 12 (fun a' w' => ∃ dd vv, refsDl[12]? = some (some dd) ∧ (refsVals q g n c j at_ A SF B Y)[12]? = some vv ∧ a' = a.put (some dd) vv ∧ Step noF w w') a w := by
  have h23 : a.tmps.getD 23 undef = .pointer (some ⟨g, j * 2, none⟩) := hat 11 (List.contains_iff_mem.1 (by kernel_rfl)) 23 _ rfl rfl
  refine val_runs refsOp12 rfl rfl ?_
  intro oo hoo
  simp only [execOp, hoo, Act.eval, Option.map_some, Option.map_none, h23]
  go_simp

theorem refsStep13 (q g n c j at_ A : Nat) (SF B Y : ByteArray) (hj1 : (j : Int) < (n : Int)) (hj0 : j < n) (m1 : (256 : Int) * (at_ : Int) = (A : Int)) (n1 : IntKind.i64.wrap (A : Int) = (A : Int)) {Q : Exit → Act → World → Prop} (a : Act) (w : World) (v0 : w.cell? ⟨q, 0, none⟩ = some (.string SF)) (v1 : w.cell? ⟨q, 1, none⟩ = some (.slice (some ⟨g, 0, none⟩) n c)) (v2 : w.cell? ⟨g, j * 2, none⟩ = some (.int .i64 at_)) (v3 : w.cell? ⟨g, j * 2 + 1, none⟩ = some (.string B)) (hc : Calls Try.prog 30 #[.string SF, .int .i64 A, .string B] w fun e w' => e = .returned (.string Y) ∧ Step noF w w') (h0 : a.tmps.getD 0 undef = .pointer (some ⟨q, 0, none⟩)) (h2 : a.tmps.getD 2 undef = .int .i64 j) (hat : ∀ jj ∈ deps ((Try.f12.body.bind (regionOps 3)).getD #[]) 13, ∀ dd vv, refsDl[jj]? = some (some dd) → (refsVals q g n c j at_ A SF B Y)[jj]? = some vv → a.tmps.getD dd undef = vv) :
    wpOp Try.prog ((Try.f12.body.bind (regionOps 3)).getD #[]) Q 13 (fun a' w' => ∃ dd vv, refsDl[13]? = some (some dd) ∧ (refsVals q g n c j at_ A SF B Y)[13]? = some vv ∧ a' = a.put (some dd) vv ∧ Step noF w w') a w := by
  have h24 : a.tmps.getD 24 undef = .int .i64 at_ := hat 12 (List.contains_iff_mem.1 (by kernel_rfl)) 24 _ rfl rfl
  refine val_runs refsOp13 rfl rfl ?_
  intro oo hoo
  simp only [execOp, hoo, Act.eval, Option.map_some, Option.map_none, h24]
  go_simp

theorem refsStep14 (q g n c j at_ A : Nat) (SF B Y : ByteArray) (hj1 : (j : Int) < (n : Int)) (hj0 : j < n) (m1 : (256 : Int) * (at_ : Int) = (A : Int)) (n1 : IntKind.i64.wrap (A : Int) = (A : Int)) {Q : Exit → Act → World → Prop} (a : Act) (w : World) (v0 : w.cell? ⟨q, 0, none⟩ = some (.string SF)) (v1 : w.cell? ⟨q, 1, none⟩ = some (.slice (some ⟨g, 0, none⟩) n c)) (v2 : w.cell? ⟨g, j * 2, none⟩ = some (.int .i64 at_)) (v3 : w.cell? ⟨g, j * 2 + 1, none⟩ = some (.string B)) (hc : Calls Try.prog 30 #[.string SF, .int .i64 A, .string B] w fun e w' => e = .returned (.string Y) ∧ Step noF w w') (h0 : a.tmps.getD 0 undef = .pointer (some ⟨q, 0, none⟩)) (h2 : a.tmps.getD 2 undef = .int .i64 j) (hat : ∀ jj ∈ deps ((Try.f12.body.bind (regionOps 3)).getD #[]) 14, ∀ dd vv, refsDl[jj]? = some (some dd) → (refsVals q g n c j at_ A SF B Y)[jj]? = some vv → a.tmps.getD dd undef = vv) :
    wpOp Try.prog ((Try.f12.body.bind (regionOps 3)).getD #[]) Q 14 (fun a' w' => ∃ dd vv, refsDl[14]? = some (some dd) ∧ (refsVals q g n c j at_ A SF B Y)[14]? = some vv ∧ a' = a.put (some dd) vv ∧ Step noF w w') a w := by
  exact val_runs refsOp14 rfl rfl (runs_move (show a.eval _ = _ from h0))

theorem refsStep15 (q g n c j at_ A : Nat) (SF B Y : ByteArray) (hj1 : (j : Int) < (n : Int)) (hj0 : j < n) (m1 : (256 : Int) * (at_ : Int) = (A : Int)) (n1 : IntKind.i64.wrap (A : Int) = (A : Int)) {Q : Exit → Act → World → Prop} (a : Act) (w : World) (v0 : w.cell? ⟨q, 0, none⟩ = some (.string SF)) (v1 : w.cell? ⟨q, 1, none⟩ = some (.slice (some ⟨g, 0, none⟩) n c)) (v2 : w.cell? ⟨g, j * 2, none⟩ = some (.int .i64 at_)) (v3 : w.cell? ⟨g, j * 2 + 1, none⟩ = some (.string B)) (hc : Calls Try.prog 30 #[.string SF, .int .i64 A, .string B] w fun e w' => e = .returned (.string Y) ∧ Step noF w w') (h0 : a.tmps.getD 0 undef = .pointer (some ⟨q, 0, none⟩)) (h2 : a.tmps.getD 2 undef = .int .i64 j) (hat : ∀ jj ∈ deps ((Try.f12.body.bind (regionOps 3)).getD #[]) 15, ∀ dd vv, refsDl[jj]? = some (some dd) → (refsVals q g n c j at_ A SF B Y)[jj]? = some vv → a.tmps.getD dd undef = vv) :
    wpOp Try.prog ((Try.f12.body.bind (regionOps 3)).getD #[]) Q 15 (fun a' w' => ∃ dd vv, refsDl[15]? = some (some dd) ∧ (refsVals q g n c j at_ A SF B Y)[15]? = some vv ∧ a' = a.put (some dd) vv ∧ Step noF w w') a w := by
  have h26 : a.tmps.getD 26 undef = .pointer (some ⟨q, 0, none⟩) := hat 14 (List.contains_iff_mem.1 (by kernel_rfl)) 26 _ rfl rfl
  refine val_runs refsOp15 rfl rfl ?_
  intro oo hoo
  simp only [execOp, hoo, Act.eval, Option.map_some, Option.map_none, h26]
  go_simp

theorem refsStep16 (q g n c j at_ A : Nat) (SF B Y : ByteArray) (hj1 : (j : Int) < (n : Int)) (hj0 : j < n) (m1 : (256 : Int) * (at_ : Int) = (A : Int)) (n1 : IntKind.i64.wrap (A : Int) = (A : Int)) {Q : Exit → Act → World → Prop} (a : Act) (w : World) (v0 : w.cell? ⟨q, 0, none⟩ = some (.string SF)) (v1 : w.cell? ⟨q, 1, none⟩ = some (.slice (some ⟨g, 0, none⟩) n c)) (v2 : w.cell? ⟨g, j * 2, none⟩ = some (.int .i64 at_)) (v3 : w.cell? ⟨g, j * 2 + 1, none⟩ = some (.string B)) (hc : Calls Try.prog 30 #[.string SF, .int .i64 A, .string B] w fun e w' => e = .returned (.string Y) ∧ Step noF w w') (h0 : a.tmps.getD 0 undef = .pointer (some ⟨q, 0, none⟩)) (h2 : a.tmps.getD 2 undef = .int .i64 j) (hat : ∀ jj ∈ deps ((Try.f12.body.bind (regionOps 3)).getD #[]) 16, ∀ dd vv, refsDl[jj]? = some (some dd) → (refsVals q g n c j at_ A SF B Y)[jj]? = some vv → a.tmps.getD dd undef = vv) :
    wpOp Try.prog ((Try.f12.body.bind (regionOps 3)).getD #[]) Q 16 (fun a' w' => ∃ dd vv, refsDl[16]? = some (some dd) ∧ (refsVals q g n c j at_ A SF B Y)[16]? = some vv ∧ a' = a.put (some dd) vv ∧ Step noF w w') a w := by
  have h27 : a.tmps.getD 27 undef = .pointer (some ⟨q, 0, none⟩) := hat 15 (List.contains_iff_mem.1 (by kernel_rfl)) 27 _ rfl rfl
  refine val_runs refsOp16 rfl rfl ?_
  intro oo hoo
  simp only [execOp, hoo, Act.eval, Option.map_some, Option.map_none, h27]
  go_simp

theorem refsStep17 (q g n c j at_ A : Nat) (SF B Y : ByteArray) (hj1 : (j : Int) < (n : Int)) (hj0 : j < n) (m1 : (256 : Int) * (at_ : Int) = (A : Int)) (n1 : IntKind.i64.wrap (A : Int) = (A : Int)) {Q : Exit → Act → World → Prop} (a : Act) (w : World) (v0 : w.cell? ⟨q, 0, none⟩ = some (.string SF)) (v1 : w.cell? ⟨q, 1, none⟩ = some (.slice (some ⟨g, 0, none⟩) n c)) (v2 : w.cell? ⟨g, j * 2, none⟩ = some (.int .i64 at_)) (v3 : w.cell? ⟨g, j * 2 + 1, none⟩ = some (.string B)) (hc : Calls Try.prog 30 #[.string SF, .int .i64 A, .string B] w fun e w' => e = .returned (.string Y) ∧ Step noF w w') (h0 : a.tmps.getD 0 undef = .pointer (some ⟨q, 0, none⟩)) (h2 : a.tmps.getD 2 undef = .int .i64 j) (hat : ∀ jj ∈ deps ((Try.f12.body.bind (regionOps 3)).getD #[]) 17, ∀ dd vv, refsDl[jj]? = some (some dd) → (refsVals q g n c j at_ A SF B Y)[jj]? = some vv → a.tmps.getD dd undef = vv) :
    wpOp Try.prog ((Try.f12.body.bind (regionOps 3)).getD #[]) Q 17 (fun a' w' => ∃ dd vv, refsDl[17]? = some (some dd) ∧ (refsVals q g n c j at_ A SF B Y)[17]? = some vv ∧ a' = a.put (some dd) vv ∧ Step noF w w') a w := by
  have h28 : a.tmps.getD 28 undef = .pointer (some ⟨q, 1, none⟩) := hat 16 (List.contains_iff_mem.1 (by kernel_rfl)) 28 _ rfl rfl
  refine val_runs refsOp17 rfl rfl ?_
  intro oo hoo
  simp only [execOp, hoo, Act.eval, Option.map_some, Option.map_none, h28]
  go_simp

theorem refsStep18 (q g n c j at_ A : Nat) (SF B Y : ByteArray) (hj1 : (j : Int) < (n : Int)) (hj0 : j < n) (m1 : (256 : Int) * (at_ : Int) = (A : Int)) (n1 : IntKind.i64.wrap (A : Int) = (A : Int)) {Q : Exit → Act → World → Prop} (a : Act) (w : World) (v0 : w.cell? ⟨q, 0, none⟩ = some (.string SF)) (v1 : w.cell? ⟨q, 1, none⟩ = some (.slice (some ⟨g, 0, none⟩) n c)) (v2 : w.cell? ⟨g, j * 2, none⟩ = some (.int .i64 at_)) (v3 : w.cell? ⟨g, j * 2 + 1, none⟩ = some (.string B)) (hc : Calls Try.prog 30 #[.string SF, .int .i64 A, .string B] w fun e w' => e = .returned (.string Y) ∧ Step noF w w') (h0 : a.tmps.getD 0 undef = .pointer (some ⟨q, 0, none⟩)) (h2 : a.tmps.getD 2 undef = .int .i64 j) (hat : ∀ jj ∈ deps ((Try.f12.body.bind (regionOps 3)).getD #[]) 18, ∀ dd vv, refsDl[jj]? = some (some dd) → (refsVals q g n c j at_ A SF B Y)[jj]? = some vv → a.tmps.getD dd undef = vv) :
    wpOp Try.prog ((Try.f12.body.bind (regionOps 3)).getD #[]) Q 18 (fun a' w' => ∃ dd vv, refsDl[18]? = some (some dd) ∧ (refsVals q g n c j at_ A SF B Y)[18]? = some vv ∧ a' = a.put (some dd) vv ∧ Step noF w w') a w := by
  exact val_runs refsOp18 rfl rfl (runs_move (show a.eval _ = _ from h2))

theorem refsStep19 (q g n c j at_ A : Nat) (SF B Y : ByteArray) (hj1 : (j : Int) < (n : Int)) (hj0 : j < n) (m1 : (256 : Int) * (at_ : Int) = (A : Int)) (n1 : IntKind.i64.wrap (A : Int) = (A : Int)) {Q : Exit → Act → World → Prop} (a : Act) (w : World) (v0 : w.cell? ⟨q, 0, none⟩ = some (.string SF)) (v1 : w.cell? ⟨q, 1, none⟩ = some (.slice (some ⟨g, 0, none⟩) n c)) (v2 : w.cell? ⟨g, j * 2, none⟩ = some (.int .i64 at_)) (v3 : w.cell? ⟨g, j * 2 + 1, none⟩ = some (.string B)) (hc : Calls Try.prog 30 #[.string SF, .int .i64 A, .string B] w fun e w' => e = .returned (.string Y) ∧ Step noF w w') (h0 : a.tmps.getD 0 undef = .pointer (some ⟨q, 0, none⟩)) (h2 : a.tmps.getD 2 undef = .int .i64 j) (hat : ∀ jj ∈ deps ((Try.f12.body.bind (regionOps 3)).getD #[]) 19, ∀ dd vv, refsDl[jj]? = some (some dd) → (refsVals q g n c j at_ A SF B Y)[jj]? = some vv → a.tmps.getD dd undef = vv) :
    wpOp Try.prog ((Try.f12.body.bind (regionOps 3)).getD #[]) Q 19 (fun a' w' => ∃ dd vv, refsDl[19]? = some (some dd) ∧ (refsVals q g n c j at_ A SF B Y)[19]? = some vv ∧ a' = a.put (some dd) vv ∧ Step noF w w') a w := by
  have h29 : a.tmps.getD 29 undef = .slice (some ⟨g, 0, none⟩) n c := hat 17 (List.contains_iff_mem.1 (by kernel_rfl)) 29 _ rfl rfl
  have h30 : a.tmps.getD 30 undef = .int .i64 j := hat 18 (List.contains_iff_mem.1 (by kernel_rfl)) 30 _ rfl rfl
  refine val_runs refsOp19 rfl rfl ?_
  intro oo hoo
  simp only [execOp, hoo, Act.eval, Option.map_some, Option.map_none, h29, h30]
  go_simp

theorem refsStep20 (q g n c j at_ A : Nat) (SF B Y : ByteArray) (hj1 : (j : Int) < (n : Int)) (hj0 : j < n) (m1 : (256 : Int) * (at_ : Int) = (A : Int)) (n1 : IntKind.i64.wrap (A : Int) = (A : Int)) {Q : Exit → Act → World → Prop} (a : Act) (w : World) (v0 : w.cell? ⟨q, 0, none⟩ = some (.string SF)) (v1 : w.cell? ⟨q, 1, none⟩ = some (.slice (some ⟨g, 0, none⟩) n c)) (v2 : w.cell? ⟨g, j * 2, none⟩ = some (.int .i64 at_)) (v3 : w.cell? ⟨g, j * 2 + 1, none⟩ = some (.string B)) (hc : Calls Try.prog 30 #[.string SF, .int .i64 A, .string B] w fun e w' => e = .returned (.string Y) ∧ Step noF w w') (h0 : a.tmps.getD 0 undef = .pointer (some ⟨q, 0, none⟩)) (h2 : a.tmps.getD 2 undef = .int .i64 j) (hat : ∀ jj ∈ deps ((Try.f12.body.bind (regionOps 3)).getD #[]) 20, ∀ dd vv, refsDl[jj]? = some (some dd) → (refsVals q g n c j at_ A SF B Y)[jj]? = some vv → a.tmps.getD dd undef = vv) :
    wpOp Try.prog ((Try.f12.body.bind (regionOps 3)).getD #[]) Q 20 (fun a' w' => ∃ dd vv, refsDl[20]? = some (some dd) ∧ (refsVals q g n c j at_ A SF B Y)[20]? = some vv ∧ a' = a.put (some dd) vv ∧ Step noF w w') a w := by
  have h31 : a.tmps.getD 31 undef = .pointer (some ⟨g, j * 2, none⟩) := hat 19 (List.contains_iff_mem.1 (by kernel_rfl)) 31 _ rfl rfl
  refine val_runs refsOp20 rfl rfl ?_
  intro oo hoo
  simp only [execOp, hoo, Act.eval, Option.map_some, Option.map_none, h31]
  go_simp

theorem refsStep21 (q g n c j at_ A : Nat) (SF B Y : ByteArray) (hj1 : (j : Int) < (n : Int)) (hj0 : j < n) (m1 : (256 : Int) * (at_ : Int) = (A : Int)) (n1 : IntKind.i64.wrap (A : Int) = (A : Int)) {Q : Exit → Act → World → Prop} (a : Act) (w : World) (v0 : w.cell? ⟨q, 0, none⟩ = some (.string SF)) (v1 : w.cell? ⟨q, 1, none⟩ = some (.slice (some ⟨g, 0, none⟩) n c)) (v2 : w.cell? ⟨g, j * 2, none⟩ = some (.int .i64 at_)) (v3 : w.cell? ⟨g, j * 2 + 1, none⟩ = some (.string B)) (hc : Calls Try.prog 30 #[.string SF, .int .i64 A, .string B] w fun e w' => e = .returned (.string Y) ∧ Step noF w w') (h0 : a.tmps.getD 0 undef = .pointer (some ⟨q, 0, none⟩)) (h2 : a.tmps.getD 2 undef = .int .i64 j) (hat : ∀ jj ∈ deps ((Try.f12.body.bind (regionOps 3)).getD #[]) 21, ∀ dd vv, refsDl[jj]? = some (some dd) → (refsVals q g n c j at_ A SF B Y)[jj]? = some vv → a.tmps.getD dd undef = vv) :
    wpOp Try.prog ((Try.f12.body.bind (regionOps 3)).getD #[]) Q 21 (fun a' w' => ∃ dd vv, refsDl[21]? = some (some dd) ∧ (refsVals q g n c j at_ A SF B Y)[21]? = some vv ∧ a' = a.put (some dd) vv ∧ Step noF w w') a w := by
  have h32 : a.tmps.getD 32 undef = .pointer (some ⟨g, j * 2 + 1, none⟩) := hat 20 (List.contains_iff_mem.1 (by kernel_rfl)) 32 _ rfl rfl
  refine val_runs refsOp21 rfl rfl ?_
  intro oo hoo
  simp only [execOp, hoo, Act.eval, Option.map_some, Option.map_none, h32]
  go_simp

theorem refsStep22 (q g n c j at_ A : Nat) (SF B Y : ByteArray) (hj1 : (j : Int) < (n : Int)) (hj0 : j < n) (m1 : (256 : Int) * (at_ : Int) = (A : Int)) (n1 : IntKind.i64.wrap (A : Int) = (A : Int)) {Q : Exit → Act → World → Prop} (a : Act) (w : World) (v0 : w.cell? ⟨q, 0, none⟩ = some (.string SF)) (v1 : w.cell? ⟨q, 1, none⟩ = some (.slice (some ⟨g, 0, none⟩) n c)) (v2 : w.cell? ⟨g, j * 2, none⟩ = some (.int .i64 at_)) (v3 : w.cell? ⟨g, j * 2 + 1, none⟩ = some (.string B)) (hc : Calls Try.prog 30 #[.string SF, .int .i64 A, .string B] w fun e w' => e = .returned (.string Y) ∧ Step noF w w') (h0 : a.tmps.getD 0 undef = .pointer (some ⟨q, 0, none⟩)) (h2 : a.tmps.getD 2 undef = .int .i64 j) (hat : ∀ jj ∈ deps ((Try.f12.body.bind (regionOps 3)).getD #[]) 22, ∀ dd vv, refsDl[jj]? = some (some dd) → (refsVals q g n c j at_ A SF B Y)[jj]? = some vv → a.tmps.getD dd undef = vv) :
    wpOp Try.prog ((Try.f12.body.bind (regionOps 3)).getD #[]) Q 22 (fun a' w' => ∃ dd vv, refsDl[22]? = some (some dd) ∧ (refsVals q g n c j at_ A SF B Y)[22]? = some vv ∧ a' = a.put (some dd) vv ∧ Step noF w w') a w := by
  have h16 : a.tmps.getD 16 undef = .string SF := hat 4 (List.contains_iff_mem.1 (by kernel_rfl)) 16 _ rfl rfl
  have h25 : a.tmps.getD 25 undef = .int .i64 A := hat 13 (List.contains_iff_mem.1 (by kernel_rfl)) 25 _ rfl rfl
  have h33 : a.tmps.getD 33 undef = .string B := hat 21 (List.contains_iff_mem.1 (by kernel_rfl)) 33 _ rfl rfl
  refine val_calls refsOp22 rfl rfl Try.func30 (by kernel_rfl) (by kernel_rfl) (by simp only [List.map_toArray, List.map_cons, List.map_nil, Act.eval, h16, h25, h33]; rfl) ?_
  exact hc

theorem refsStep23 (q g n c j at_ A : Nat) (SF B Y : ByteArray) (hj1 : (j : Int) < (n : Int)) (hj0 : j < n) (m1 : (256 : Int) * (at_ : Int) = (A : Int)) (n1 : IntKind.i64.wrap (A : Int) = (A : Int)) {Q : Exit → Act → World → Prop} (a : Act) (w : World) (v0 : w.cell? ⟨q, 0, none⟩ = some (.string SF)) (v1 : w.cell? ⟨q, 1, none⟩ = some (.slice (some ⟨g, 0, none⟩) n c)) (v2 : w.cell? ⟨g, j * 2, none⟩ = some (.int .i64 at_)) (v3 : w.cell? ⟨g, j * 2 + 1, none⟩ = some (.string B)) (hc : Calls Try.prog 30 #[.string SF, .int .i64 A, .string B] w fun e w' => e = .returned (.string Y) ∧ Step noF w w') (h0 : a.tmps.getD 0 undef = .pointer (some ⟨q, 0, none⟩)) (h2 : a.tmps.getD 2 undef = .int .i64 j) (hat : ∀ jj ∈ deps ((Try.f12.body.bind (regionOps 3)).getD #[]) 23, ∀ dd vv, refsDl[jj]? = some (some dd) → (refsVals q g n c j at_ A SF B Y)[jj]? = some vv → a.tmps.getD dd undef = vv) :
    wpOp Try.prog ((Try.f12.body.bind (regionOps 3)).getD #[]) Q 23 (fun a' w' => ∃ dd vv, refsDl[23]? = some (some dd) ∧ (refsVals q g n c j at_ A SF B Y)[23]? = some vv ∧ a' = a.put (some dd) vv ∧ Step noF w w') a w := by
  have h12 : a.tmps.getD 12 undef = .pointer (some ⟨q, 0, none⟩) := hat 0 (List.contains_iff_mem.1 (by kernel_rfl)) 12 _ rfl rfl
  refine val_runs refsOp23 rfl rfl ?_
  intro oo hoo
  simp only [execOp, hoo, Act.eval, Option.map_some, Option.map_none, h12]
  go_simp

theorem refsStep24 (q g n c j at_ A : Nat) (SF B Y : ByteArray) (hj1 : (j : Int) < (n : Int)) (hj0 : j < n) (m1 : (256 : Int) * (at_ : Int) = (A : Int)) (n1 : IntKind.i64.wrap (A : Int) = (A : Int)) {Q : Exit → Act → World → Prop} (a : Act) (w : World) (v0 : w.cell? ⟨q, 0, none⟩ = some (.string SF)) (v1 : w.cell? ⟨q, 1, none⟩ = some (.slice (some ⟨g, 0, none⟩) n c)) (v2 : w.cell? ⟨g, j * 2, none⟩ = some (.int .i64 at_)) (v3 : w.cell? ⟨g, j * 2 + 1, none⟩ = some (.string B)) (hc : Calls Try.prog 30 #[.string SF, .int .i64 A, .string B] w fun e w' => e = .returned (.string Y) ∧ Step noF w w') (h0 : a.tmps.getD 0 undef = .pointer (some ⟨q, 0, none⟩)) (h2 : a.tmps.getD 2 undef = .int .i64 j) (hat : ∀ jj ∈ deps ((Try.f12.body.bind (regionOps 3)).getD #[]) 24, ∀ dd vv, refsDl[jj]? = some (some dd) → (refsVals q g n c j at_ A SF B Y)[jj]? = some vv → a.tmps.getD dd undef = vv) :
    wpOp Try.prog ((Try.f12.body.bind (regionOps 3)).getD #[]) Q 24 (fun a' w' => ∃ dd vv, refsDl[24]? = some (some dd) ∧ (refsVals q g n c j at_ A SF B Y)[24]? = some vv ∧ a' = a.put (some dd) vv ∧ Step noF w w') a w := by
  have h35 : a.tmps.getD 35 undef = .pointer (some ⟨q, 0, none⟩) := hat 23 (List.contains_iff_mem.1 (by kernel_rfl)) 35 _ rfl rfl
  refine val_runs refsOp24 rfl rfl ?_
  intro oo hoo
  simp only [execOp, hoo, Act.eval, Option.map_some, Option.map_none, h35]
  go_simp

theorem refs_last (q g n c j at_ A : Nat) (SF B Y : ByteArray) {Q : Exit → Act → World → Prop} (ap : Act) (w : World) (hx : ap.tmps.getD 36 undef = .pointer (some ⟨q, 0, none⟩)) (hy : ap.tmps.getD 34 undef = .string Y) (u : Value) (hu : w.cell? ⟨q, 0, none⟩ = some u) (hf : w.frozen? ⟨q, 0, none⟩ = false) (hK : Q .normal ap (w.setCell ⟨q, 0, none⟩ (.string Y))) : wpOp Try.prog ((Try.f12.body.bind (regionOps 3)).getD #[]) Q 25 (fun a' w' => Q .normal a' w') ap w := by
  have hr : Skips Try.prog ap (Op.store 9 (Operand.tmp 36) (Operand.tmp 34)) w (w.setCell ⟨q, 0, none⟩ (.string Y)) := by
    intro oo hoo
    simp only [execOp, hoo, Act.eval, hx, hy]
    go_simp
  exact op_skips refsOp25 hr hK

theorem refs_go (q g n c j at_ A : Nat) (SF B Y : ByteArray) (hj1 : (j : Int) < (n : Int)) (hj0 : j < n) (m1 : (256 : Int) * (at_ : Int) = (A : Int)) (n1 : IntKind.i64.wrap (A : Int) = (A : Int)) {Q : Exit → Act → World → Prop} (a0 : Act) (w0 : World) (hsz : a0.tmps.size = 47) (h0 : a0.tmps.getD 0 undef = .pointer (some ⟨q, 0, none⟩)) (h2 : a0.tmps.getD 2 undef = .int .i64 j)
    (hw : ∀ w, Step noF w0 w → (w.cell? ⟨q, 0, none⟩ = some (.string SF)) ∧ (w.cell? ⟨q, 1, none⟩ = some (.slice (some ⟨g, 0, none⟩) n c)) ∧ (w.cell? ⟨g, j * 2, none⟩ = some (.int .i64 at_)) ∧ (w.cell? ⟨g, j * 2 + 1, none⟩ = some (.string B)) ∧ (Calls Try.prog 30 #[.string SF, .int .i64 A, .string B] w fun e w' => e = .returned (.string Y) ∧ Step noF w w') ∧ (∃ u, w.cell? ⟨q, 0, none⟩ = some u) ∧ w.frozen? ⟨q, 0, none⟩ = false)
    (hK : ∀ w, Step noF w0 w → Q .normal (putAll a0 refsDl (refsVals q g n c j at_ A SF B Y)) (w.setCell ⟨q, 0, none⟩ (.string Y))) : (Code.region 3 ((Try.f12.body.bind (regionOps 3)).getD #[]) true).wp Try.prog Q a0 w0 := by
  refine wp_region_vals noF (refsVals q g n c j at_ A SF B Y) refsDl 25 refs_size (by kernel_rfl) refs_back refs_used refs_dl refs_nd (fun d h => by rw [hsz]; exact refs_lt d h) rfl rfl ?_ ?_
  · intro ix hix a w hs hfr hat
    obtain ⟨v0, v1, v2, v3, hc, _, _⟩ := hw w hs
    have h0 := (hfr 0 (by decide)).trans h0
    have h2 := (hfr 2 (by decide)).trans h2
    match ix, hix with
    | 0, _ => exact refsStep0 q g n c j at_ A SF B Y hj1 hj0 m1 n1 a w v0 v1 v2 v3 hc h0 h2 hat
    | 1, _ => exact refsStep1 q g n c j at_ A SF B Y hj1 hj0 m1 n1 a w v0 v1 v2 v3 hc h0 h2 hat
    | 2, _ => exact refsStep2 q g n c j at_ A SF B Y hj1 hj0 m1 n1 a w v0 v1 v2 v3 hc h0 h2 hat
    | 3, _ => exact refsStep3 q g n c j at_ A SF B Y hj1 hj0 m1 n1 a w v0 v1 v2 v3 hc h0 h2 hat
    | 4, _ => exact refsStep4 q g n c j at_ A SF B Y hj1 hj0 m1 n1 a w v0 v1 v2 v3 hc h0 h2 hat
    | 5, _ => exact refsStep5 q g n c j at_ A SF B Y hj1 hj0 m1 n1 a w v0 v1 v2 v3 hc h0 h2 hat
    | 6, _ => exact refsStep6 q g n c j at_ A SF B Y hj1 hj0 m1 n1 a w v0 v1 v2 v3 hc h0 h2 hat
    | 7, _ => exact refsStep7 q g n c j at_ A SF B Y hj1 hj0 m1 n1 a w v0 v1 v2 v3 hc h0 h2 hat
    | 8, _ => exact refsStep8 q g n c j at_ A SF B Y hj1 hj0 m1 n1 a w v0 v1 v2 v3 hc h0 h2 hat
    | 9, _ => exact refsStep9 q g n c j at_ A SF B Y hj1 hj0 m1 n1 a w v0 v1 v2 v3 hc h0 h2 hat
    | 10, _ => exact refsStep10 q g n c j at_ A SF B Y hj1 hj0 m1 n1 a w v0 v1 v2 v3 hc h0 h2 hat
    | 11, _ => exact refsStep11 q g n c j at_ A SF B Y hj1 hj0 m1 n1 a w v0 v1 v2 v3 hc h0 h2 hat
    | 12, _ => exact refsStep12 q g n c j at_ A SF B Y hj1 hj0 m1 n1 a w v0 v1 v2 v3 hc h0 h2 hat
    | 13, _ => exact refsStep13 q g n c j at_ A SF B Y hj1 hj0 m1 n1 a w v0 v1 v2 v3 hc h0 h2 hat
    | 14, _ => exact refsStep14 q g n c j at_ A SF B Y hj1 hj0 m1 n1 a w v0 v1 v2 v3 hc h0 h2 hat
    | 15, _ => exact refsStep15 q g n c j at_ A SF B Y hj1 hj0 m1 n1 a w v0 v1 v2 v3 hc h0 h2 hat
    | 16, _ => exact refsStep16 q g n c j at_ A SF B Y hj1 hj0 m1 n1 a w v0 v1 v2 v3 hc h0 h2 hat
    | 17, _ => exact refsStep17 q g n c j at_ A SF B Y hj1 hj0 m1 n1 a w v0 v1 v2 v3 hc h0 h2 hat
    | 18, _ => exact refsStep18 q g n c j at_ A SF B Y hj1 hj0 m1 n1 a w v0 v1 v2 v3 hc h0 h2 hat
    | 19, _ => exact refsStep19 q g n c j at_ A SF B Y hj1 hj0 m1 n1 a w v0 v1 v2 v3 hc h0 h2 hat
    | 20, _ => exact refsStep20 q g n c j at_ A SF B Y hj1 hj0 m1 n1 a w v0 v1 v2 v3 hc h0 h2 hat
    | 21, _ => exact refsStep21 q g n c j at_ A SF B Y hj1 hj0 m1 n1 a w v0 v1 v2 v3 hc h0 h2 hat
    | 22, _ => exact refsStep22 q g n c j at_ A SF B Y hj1 hj0 m1 n1 a w v0 v1 v2 v3 hc h0 h2 hat
    | 23, _ => exact refsStep23 q g n c j at_ A SF B Y hj1 hj0 m1 n1 a w v0 v1 v2 v3 hc h0 h2 hat
    | 24, _ => exact refsStep24 q g n c j at_ A SF B Y hj1 hj0 m1 n1 a w v0 v1 v2 v3 hc h0 h2 hat
    | k + 25, h => exact absurd h (by omega)
  · intro w hs
    obtain ⟨_, _, _, _, _, ⟨u, hu⟩, hf⟩ := hw w hs
    have hx : (putAll a0 refsDl (refsVals q g n c j at_ A SF B Y)).tmps.getD 36 undef = .pointer (some ⟨q, 0, none⟩) := (putAll_at refsDl (refsVals q g n c j at_ A SF B Y) a0 24 36 _ refs_nd rfl rfl (by rw [hsz]; decide))
    have hy : (putAll a0 refsDl (refsVals q g n c j at_ A SF B Y)).tmps.getD 34 undef = .string Y := (putAll_at refsDl (refsVals q g n c j at_ A SF B Y) a0 22 34 _ refs_nd rfl rfl (by rw [hsz]; decide))
    exact refs_last q g n c j at_ A SF B Y (putAll a0 refsDl (refsVals q g n c j at_ A SF B Y)) w hx hy u hu hf (hK w hs)
end Go.Proofs.Ythgcpeibjnflaaa
