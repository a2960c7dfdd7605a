/-
  The region that draws in dev.Device.Cut (number 5), operation by operation. Written by draw2.py.
-/
import Derived.Test.YthgcpeibjnflaaaVals
import Derived.Test.YthgcpeibjnflaaaDevD
namespace Go.Proofs.Ythgcpeibjnflaaa
open Go.RowKit
set_option linter.unusedVariables false
set_option linter.unusedSimpArgs false


def cutrDl : List (Option Nat) := [some 30, some 31, some 32, some 33, some 34, some 35, some 36, some 37, some 38, some 39, some 40, some 41, some 42, some 43, some 44, some 45, some 46, some 47, some 48, some 49, some 50, none]
theorem cutr_dl : ((Try.f13.body.bind (regionOps 5)).getD #[]).toList.map (·.dst) = cutrDl := by kernel_rfl
theorem cutr_back : backB ((Try.f13.body.bind (regionOps 5)).getD #[]) = true := by kernel_rfl
theorem cutr_used : usedB ((Try.f13.body.bind (regionOps 5)).getD #[]) 21 = true := by kernel_rfl
theorem cutr_size : ((Try.f13.body.bind (regionOps 5)).getD #[]).size = 22 := by kernel_rfl
theorem cutr_nd : cutrDl.Pairwise (fun x y => x = none ∨ x ≠ y) := by decide
theorem cutr_lt (d : Nat) (h : some d ∈ cutrDl) : d < 86 := by
  have hh : cutrDl.all (fun o => o.all (fun d => decide (d < 86))) = true := by decide
  simpa using List.all_eq_true.1 hh _ h
def cutrVals (p bs n cs gw at_ : Nat) (X O Y : ByteArray) (a1 : Option Addr) (m c1 tl : Nat) : List Value := [.pointer (some ⟨p, 0, none⟩), .pointer (some ⟨p, 0, none⟩), .pointer (some ⟨p, 0, none⟩), .slice (some ⟨bs, 0, none⟩) n cs, .pointer (some ⟨gw, 0, none⟩), .int .i64 at_, .pointer (some ⟨p, 0, none⟩), .pointer (some ⟨p, 0, none⟩), .pointer (some ⟨p, 0, none⟩), .slice (some ⟨bs, 0, none⟩) n cs, .pointer (some ⟨gw, 0, none⟩), .int .i64 at_, .pointer (some ⟨bs, at_, none⟩), .string O, .pointer (some ⟨gw, 1, none⟩), .string X, .slice a1 m c1, .int .i64 tl, .slice a1 tl c1, .string Y, .pointer (some ⟨bs, at_, none⟩)]
theorem cutrOp0 : opIs ((Try.f13.body.bind (regionOps 5)).getD #[]) 0 (some 30) (Op.move (Operand.tmp 0)) none := opIs_of (by kernel_rfl)
theorem cutrOp1 : opIs ((Try.f13.body.bind (regionOps 5)).getD #[]) 1 (some 31) (Op.nilCheck (Operand.tmp 30)) none := opIs_of (by kernel_rfl)
theorem cutrOp2 : opIs ((Try.f13.body.bind (regionOps 5)).getD #[]) 2 (some 32) (Op.fieldAddr 67 (Operand.tmp 31) 0) none := opIs_of (by kernel_rfl)
theorem cutrOp3 : opIs ((Try.f13.body.bind (regionOps 5)).getD #[]) 3 (some 33) (Op.load 62 (Operand.tmp 32)) none := opIs_of (by kernel_rfl)
theorem cutrOp4 : opIs ((Try.f13.body.bind (regionOps 5)).getD #[]) 4 (some 34) (Op.fieldAddr 69 (Operand.tmp 5) 0) none := opIs_of (by kernel_rfl)
theorem cutrOp5 : opIs ((Try.f13.body.bind (regionOps 5)).getD #[]) 5 (some 35) (Op.load 3 (Operand.tmp 34)) none := opIs_of (by kernel_rfl)
theorem cutrOp6 : opIs ((Try.f13.body.bind (regionOps 5)).getD #[]) 6 (some 36) (Op.move (Operand.tmp 0)) none := opIs_of (by kernel_rfl)
theorem cutrOp7 : opIs ((Try.f13.body.bind (regionOps 5)).getD #[]) 7 (some 37) (Op.nilCheck (Operand.tmp 36)) none := opIs_of (by kernel_rfl)
theorem cutrOp8 : opIs ((Try.f13.body.bind (regionOps 5)).getD #[]) 8 (some 38) (Op.fieldAddr 67 (Operand.tmp 37) 0) none := opIs_of (by kernel_rfl)
theorem cutrOp9 : opIs ((Try.f13.body.bind (regionOps 5)).getD #[]) 9 (some 39) (Op.load 62 (Operand.tmp 38)) none := opIs_of (by kernel_rfl)
theorem cutrOp10 : opIs ((Try.f13.body.bind (regionOps 5)).getD #[]) 10 (some 40) (Op.fieldAddr 69 (Operand.tmp 5) 0) none := opIs_of (by kernel_rfl)
theorem cutrOp11 : opIs ((Try.f13.body.bind (regionOps 5)).getD #[]) 11 (some 41) (Op.load 3 (Operand.tmp 40)) none := opIs_of (by kernel_rfl)
theorem cutrOp12 : opIs ((Try.f13.body.bind (regionOps 5)).getD #[]) 12 (some 42) (Op.indexAddr 62 (Operand.tmp 39) (Operand.tmp 41)) none := opIs_of (by kernel_rfl)
theorem cutrOp13 : opIs ((Try.f13.body.bind (regionOps 5)).getD #[]) 13 (some 43) (Op.load 9 (Operand.tmp 42)) none := opIs_of (by kernel_rfl)
theorem cutrOp14 : opIs ((Try.f13.body.bind (regionOps 5)).getD #[]) 14 (some 44) (Op.fieldAddr 69 (Operand.tmp 5) 1) none := opIs_of (by kernel_rfl)
theorem cutrOp15 : opIs ((Try.f13.body.bind (regionOps 5)).getD #[]) 15 (some 45) (Op.load 9 (Operand.tmp 44)) none := opIs_of (by kernel_rfl)
theorem cutrOp16 : opIs ((Try.f13.body.bind (regionOps 5)).getD #[]) 16 (some 46) (Op.move (Operand.tmp 1)) none := opIs_of (by kernel_rfl)
theorem cutrOp17 : opIs ((Try.f13.body.bind (regionOps 5)).getD #[]) 17 (some 47) (Op.move (Operand.tmp 6)) none := opIs_of (by kernel_rfl)
theorem cutrOp18 : opIs ((Try.f13.body.bind (regionOps 5)).getD #[]) 18 (some 48) (Op.slice 28 (Operand.tmp 46) none (some (Operand.tmp 47)) none) none := opIs_of (by kernel_rfl)
theorem cutrOp19 : opIs ((Try.f13.body.bind (regionOps 5)).getD #[]) 19 (some 49) (Op.call { callee := Callee.value (Operand.func 31), args := #[Operand.tmp 43, Operand.tmp 45, Operand.tmp 48], argTypes := #[9, 9, 28] }) none := opIs_of (by kernel_rfl)
theorem cutrOp20 : opIs ((Try.f13.body.bind (regionOps 5)).getD #[]) 20 (some 50) (Op.indexAddr 62 (Operand.tmp 33) (Operand.tmp 35)) none := opIs_of (by kernel_rfl)
theorem cutrOp21 : opIs ((Try.f13.body.bind (regionOps 5)).getD #[]) 21 none (Op.store 9 (Operand.tmp 50) (Operand.tmp 49)) none := opIs_of (by kernel_rfl)

theorem cutrStep0 (p bs n cs gw at_ : Nat) (X O Y : ByteArray) (a1 : Option Addr) (m c1 tl : Nat) (hat1 : (at_ : Int) < (n : Int)) (hat0 : at_ < n) (htl : tl ≤ m) (htc : tl ≤ c1) {Q : Exit → Act → World → Prop} (a : Act) (w : World) (v0 : w.cell? ⟨gw, 0, none⟩ = some (.int .i64 at_)) (v1 : w.cell? ⟨gw, 1, none⟩ = some (.string X)) (v2 : w.cell? ⟨p, 0, none⟩ = some (.slice (some ⟨bs, 0, none⟩) n cs)) (v3 : w.cell? ⟨bs, at_, none⟩ = some (.string O)) (hc : Calls Try.prog 31 #[.string O, .string X, .slice a1 tl c1] w fun e w' => e = .returned (.string Y) ∧ Step noF w w') (h0 : a.tmps.getD 0 undef = .pointer (some ⟨p, 0, none⟩)) (h1 : a.tmps.getD 1 undef = .slice a1 m c1) (h5 : a.tmps.getD 5 undef = .pointer (some ⟨gw, 0, none⟩)) (h6 : a.tmps.getD 6 undef = .int .i64 tl) (hat : ∀ jj ∈ deps ((Try.f13.body.bind (regionOps 5)).getD #[]) 0, ∀ dd vv, cutrDl[jj]? = some (some dd) → (cutrVals p bs n cs gw at_ X O Y a1 m c1 tl)[jj]? = some vv → a.tmps.getD dd undef = vv) :
    wpOp Try.prog ((Try.f13.body.bind (regionOps 5)).getD #[]) Q 0 (fun a' w' => ∃ dd vv, cutrDl[0]? = some (some dd) ∧ (cutrVals p bs n cs gw at_ X O Y a1 m c1 tl)[0]? = some vv ∧ a' = a.put (some dd) vv ∧ Step noF w w') a w := by
  exact val_runs cutrOp0 rfl rfl (runs_move (show a.eval _ = _ from h0))

theorem cutrStep1 (p bs n cs gw at_ : Nat) (X O Y : ByteArray) (a1 : Option Addr) (m c1 tl : Nat) (hat1 : (at_ : Int) < (n : Int)) (hat0 : at_ < n) (htl : tl ≤ m) (htc : tl ≤ c1) {Q : Exit → Act → World → Prop} (a : Act) (w : World) (v0 : w.cell? ⟨gw, 0, none⟩ = some (.int .i64 at_)) (v1 : w.cell? ⟨gw, 1, none⟩ = some (.string X)) (v2 : w.cell? ⟨p, 0, none⟩ = some (.slice (some ⟨bs, 0, none⟩) n cs)) (v3 : w.cell? ⟨bs, at_, none⟩ = some (.string O)) (hc : Calls Try.prog 31 #[.string O, .string X, .slice a1 tl c1] w fun e w' => e = .returned (.string Y) ∧ Step noF w w') (h0 : a.tmps.getD 0 undef = .pointer (some ⟨p, 0, none⟩)) (h1 : a.tmps.getD 1 undef = .slice a1 m c1) (h5 : a.tmps.getD 5 undef = .pointer (some ⟨gw, 0, none⟩)) (h6 : a.tmps.getD 6 undef = .int .i64 tl) (hat : ∀ jj ∈ deps ((Try.f13.body.bind (regionOps 5)).getD #[]) 1, ∀ dd vv, cutrDl[jj]? = some (some dd) → (cutrVals p bs n cs gw at_ X O Y a1 m c1 tl)[jj]? = some vv → a.tmps.getD dd undef = vv) :
    wpOp Try.prog ((Try.f13.body.bind (regionOps 5)).getD #[]) Q 1 (fun a' w' => ∃ dd vv, cutrDl[1]? = some (some dd) ∧ (cutrVals p bs n cs gw at_ X O Y a1 m c1 tl)[1]? = some vv ∧ a' = a.put (some dd) vv ∧ Step noF w w') a w := by
  have h30 : a.tmps.getD 30 undef = .pointer (some ⟨p, 0, none⟩) := hat 0 (List.contains_iff_mem.1 (by kernel_rfl)) 30 _ rfl rfl
  refine val_runs cutrOp1 rfl rfl ?_
  intro oo hoo
  simp only [execOp, hoo, Act.eval, Option.map_some, Option.map_none, h30]
  go_simp

theorem cutrStep2 (p bs n cs gw at_ : Nat) (X O Y : ByteArray) (a1 : Option Addr) (m c1 tl : Nat) (hat1 : (at_ : Int) < (n : Int)) (hat0 : at_ < n) (htl : tl ≤ m) (htc : tl ≤ c1) {Q : Exit → Act → World → Prop} (a : Act) (w : World) (v0 : w.cell? ⟨gw, 0, none⟩ = some (.int .i64 at_)) (v1 : w.cell? ⟨gw, 1, none⟩ = some (.string X)) (v2 : w.cell? ⟨p, 0, none⟩ = some (.slice (some ⟨bs, 0, none⟩) n cs)) (v3 : w.cell? ⟨bs, at_, none⟩ = some (.string O)) (hc : Calls Try.prog 31 #[.string O, .string X, .slice a1 tl c1] w fun e w' => e = .returned (.string Y) ∧ Step noF w w') (h0 : a.tmps.getD 0 undef = .pointer (some ⟨p, 0, none⟩)) (h1 : a.tmps.getD 1 undef = .slice a1 m c1) (h5 : a.tmps.getD 5 undef = .pointer (some ⟨gw, 0, none⟩)) (h6 : a.tmps.getD 6 undef = .int .i64 tl) (hat : ∀ jj ∈ deps ((Try.f13.body.bind (regionOps 5)).getD #[]) 2, ∀ dd vv, cutrDl[jj]? = some (some dd) → (cutrVals p bs n cs gw at_ X O Y a1 m c1 tl)[jj]? = some vv → a.tmps.getD dd undef = vv) :
    wpOp Try.prog ((Try.f13.body.bind (regionOps 5)).getD #[]) Q 2 (fun a' w' => ∃ dd vv, cutrDl[2]? = some (some dd) ∧ (cutrVals p bs n cs gw at_ X O Y a1 m c1 tl)[2]? = some vv ∧ a' = a.put (some dd) vv ∧ Step noF w w') a w := by
  have h31 : a.tmps.getD 31 undef = .pointer (some ⟨p, 0, none⟩) := hat 1 (List.contains_iff_mem.1 (by kernel_rfl)) 31 _ rfl rfl
  refine val_runs cutrOp2 rfl rfl ?_
  intro oo hoo
  simp only [execOp, hoo, Act.eval, Option.map_some, Option.map_none, h31]
  go_simp

theorem cutrStep3 (p bs n cs gw at_ : Nat) (X O Y : ByteArray) (a1 : Option Addr) (m c1 tl : Nat) (hat1 : (at_ : Int) < (n : Int)) (hat0 : at_ < n) (htl : tl ≤ m) (htc : tl ≤ c1) {Q : Exit → Act → World → Prop} (a : Act) (w : World) (v0 : w.cell? ⟨gw, 0, none⟩ = some (.int .i64 at_)) (v1 : w.cell? ⟨gw, 1, none⟩ = some (.string X)) (v2 : w.cell? ⟨p, 0, none⟩ = some (.slice (some ⟨bs, 0, none⟩) n cs)) (v3 : w.cell? ⟨bs, at_, none⟩ = some (.string O)) (hc : Calls Try.prog 31 #[.string O, .string X, .slice a1 tl c1] w fun e w' => e = .returned (.string Y) ∧ Step noF w w') (h0 : a.tmps.getD 0 undef = .pointer (some ⟨p, 0, none⟩)) (h1 : a.tmps.getD 1 undef = .slice a1 m c1) (h5 : a.tmps.getD 5 undef = .pointer (some ⟨gw, 0, none⟩)) (h6 : a.tmps.getD 6 undef = .int .i64 tl) (hat : ∀ jj ∈ deps ((Try.f13.body.bind (regionOps 5)).getD #[]) 3, ∀ dd vv, cutrDl[jj]? = some (some dd) → (cutrVals p bs n cs gw at_ X O Y a1 m c1 tl)[jj]? = some vv → a.tmps.getD dd undef = vv) :
    wpOp Try.prog ((Try.f13.body.bind (regionOps 5)).getD #[]) Q 3 (fun a' w' => ∃ dd vv, cutrDl[3]? = some (some dd) ∧ (cutrVals p bs n cs gw at_ X O Y a1 m c1 tl)[3]? = some vv ∧ a' = a.put (some dd) vv ∧ Step noF w w') a w := by
  have h32 : a.tmps.getD 32 undef = .pointer (some ⟨p, 0, none⟩) := hat 2 (List.contains_iff_mem.1 (by kernel_rfl)) 32 _ rfl rfl
  refine val_runs cutrOp3 rfl rfl ?_
  intro oo hoo
  simp only [execOp, hoo, Act.eval, Option.map_some, Option.map_none, h32]
  go_simp

theorem cutrStep4 (p bs n cs gw at_ : Nat) (X O Y : ByteArray) (a1 : Option Addr) (m c1 tl : Nat) (hat1 : (at_ : Int) < (n : Int)) (hat0 : at_ < n) (htl : tl ≤ m) (htc : tl ≤ c1) {Q : Exit → Act → World → Prop} (a : Act) (w : World) (v0 : w.cell? ⟨gw, 0, none⟩ = some (.int .i64 at_)) (v1 : w.cell? ⟨gw, 1, none⟩ = some (.string X)) (v2 : w.cell? ⟨p, 0, none⟩ = some (.slice (some ⟨bs, 0, none⟩) n cs)) (v3 : w.cell? ⟨bs, at_, none⟩ = some (.string O)) (hc : Calls Try.prog 31 #[.string O, .string X, .slice a1 tl c1] w fun e w' => e = .returned (.string Y) ∧ Step noF w w') (h0 : a.tmps.getD 0 undef = .pointer (some ⟨p, 0, none⟩)) (h1 : a.tmps.getD 1 undef = .slice a1 m c1) (h5 : a.tmps.getD 5 undef = .pointer (some ⟨gw, 0, none⟩)) (h6 : a.tmps.getD 6 undef = .int .i64 tl) (hat : ∀ jj ∈ deps ((Try.f13.body.bind (regionOps 5)).getD #[]) 4, ∀ dd vv, cutrDl[jj]? = some (some dd) → (cutrVals p bs n cs gw at_ X O Y a1 m c1 tl)[jj]? = some vv → a.tmps.getD dd undef = vv) :
    wpOp Try.prog ((Try.f13.body.bind (regionOps 5)).getD #[]) Q 4 (fun a' w' => ∃ dd vv, cutrDl[4]? = some (some dd) ∧ (cutrVals p bs n cs gw at_ X O Y a1 m c1 tl)[4]? = some vv ∧ a' = a.put (some dd) vv ∧ Step noF w w') a w := by
  refine val_runs cutrOp4 rfl rfl ?_
  intro oo hoo
  simp only [execOp, hoo, Act.eval, Option.map_some, Option.map_none, h5]
  go_simp

theorem cutrStep5 (p bs n cs gw at_ : Nat) (X O Y : ByteArray) (a1 : Option Addr) (m c1 tl : Nat) (hat1 : (at_ : Int) < (n : Int)) (hat0 : at_ < n) (htl : tl ≤ m) (htc : tl ≤ c1) {Q : Exit → Act → World → Prop} (a : Act) (w : World) (v0 : w.cell? ⟨gw, 0, none⟩ = some (.int .i64 at_)) (v1 : w.cell? ⟨gw, 1, none⟩ = some (.string X)) (v2 : w.cell? ⟨p, 0, none⟩ = some (.slice (some ⟨bs, 0, none⟩) n cs)) (v3 : w.cell? ⟨bs, at_, none⟩ = some (.string O)) (hc : Calls Try.prog 31 #[.string O, .string X, .slice a1 tl c1] w fun e w' => e = .returned (.string Y) ∧ Step noF w w') (h0 : a.tmps.getD 0 undef = .pointer (some ⟨p, 0, none⟩)) (h1 : a.tmps.getD 1 undef = .slice a1 m c1) (h5 : a.tmps.getD 5 undef = .pointer (some ⟨gw, 0, none⟩)) (h6 : a.tmps.getD 6 undef = .int .i64 tl) (hat : ∀ jj ∈ deps ((Try.f13.body.bind (regionOps 5)).getD #[]) 5, ∀ dd vv, cutrDl[jj]? = some (some dd) → (cutrVals p bs n cs gw at_ X O Y a1 m c1 tl)[jj]? = some vv → a.tmps.getD dd undef = vv) :
    wpOp Try.prog ((Try.f13.body.bind (regionOps 5)).getD #[]) Q 5 (fun a' w' => ∃ dd vv, cutrDl[5]? = some (some dd) ∧ (cutrVals p bs n cs gw at_ X O Y a1 m c1 tl)[5]? = some vv ∧ a' = a.put (some dd) vv ∧ Step noF w w') a w := by
  have h34 : a.tmps.getD 34 undef = .pointer (some ⟨gw, 0, none⟩) := hat 4 (List.contains_iff_mem.1 (by kernel_rfl)) 34 _ rfl rfl
  refine val_runs cutrOp5 rfl rfl ?_
  intro oo hoo
  simp only [execOp, hoo, Act.eval, Option.map_some, Option.map_none, h34]
  go_simp

theorem cutrStep6 (p bs n cs gw at_ : Nat) (X O Y : ByteArray) (a1 : Option Addr) (m c1 tl : Nat) (hat1 : (at_ : Int) < (n : Int)) (hat0 : at_ < n) (htl : tl ≤ m) (htc : tl ≤ c1) {Q : Exit → Act → World → Prop} (a : Act) (w : World) (v0 : w.cell? ⟨gw, 0, none⟩ = some (.int .i64 at_)) (v1 : w.cell? ⟨gw, 1, none⟩ = some (.string X)) (v2 : w.cell? ⟨p, 0, none⟩ = some (.slice (some ⟨bs, 0, none⟩) n cs)) (v3 : w.cell? ⟨bs, at_, none⟩ = some (.string O)) (hc : Calls Try.prog 31 #[.string O, .string X, .slice a1 tl c1] w fun e w' => e = .returned (.string Y) ∧ Step noF w w') (h0 : a.tmps.getD 0 undef = .pointer (some ⟨p, 0, none⟩)) (h1 : a.tmps.getD 1 undef = .slice a1 m c1) (h5 : a.tmps.getD 5 undef = .pointer (some ⟨gw, 0, none⟩)) (h6 : a.tmps.getD 6 undef = .int .i64 tl) (hat : ∀ jj ∈ deps ((Try.f13.body.bind (regionOps 5)).getD #[]) 6, ∀ dd vv, cutrDl[jj]? = some (some dd) → (cutrVals p bs n cs gw at_ X O Y a1 m c1 tl)[jj]? = some vv → a.tmps.getD dd undef = vv) :
    wpOp Try.prog ((Try.f13.body.bind (regionOps 5)).getD #[]) Q 6 (fun a' w' => ∃ dd vv, cutrDl[6]? = some (some dd) ∧ (cutrVals p bs n cs gw at_ X O Y a1 m c1 tl)[6]? = some vv ∧ a' = a.put (some dd) vv ∧ Step noF w w') a w := by
  exact val_runs cutrOp6 rfl rfl (runs_move (show a.eval _ = _ from h0))

theorem cutrStep7 (p bs n cs gw at_ : Nat) (X O Y : ByteArray) (a1 : Option Addr) (m c1 tl : Nat) (hat1 : (at_ : Int) < (n : Int)) (hat0 : at_ < n) (htl : tl ≤ m) (htc : tl ≤ c1) {Q : Exit → Act → World → Prop} (a : Act) (w : World) (v0 : w.cell? ⟨gw, 0, none⟩ = some (.int .i64 at_)) (v1 : w.cell? ⟨gw, 1, none⟩ = some (.string X)) (v2 : w.cell? ⟨p, 0, none⟩ = some (.slice (some ⟨bs, 0, none⟩) n cs)) (v3 : w.cell? ⟨bs, at_, none⟩ = some (.string O)) (hc : Calls Try.prog 31 #[.string O, .string X, .slice a1 tl c1] w fun e w' => e = .returned (.string Y) ∧ Step noF w w') (h0 : a.tmps.getD 0 undef = .pointer (some ⟨p, 0, none⟩)) (h1 : a.tmps.getD 1 undef = .slice a1 m c1) (h5 : a.tmps.getD 5 undef = .pointer (some ⟨gw, 0, none⟩)) (h6 : a.tmps.getD 6 undef = .int .i64 tl) (hat : ∀ jj ∈ deps ((Try.f13.body.bind (regionOps 5)).getD #[]) 7, ∀ dd vv, cutrDl[jj]? = some (some dd) → (cutrVals p bs n cs gw at_ X O Y a1 m c1 tl)[jj]? = some vv → a.tmps.getD dd undef = vv) :
    wpOp Try.prog ((Try.f13.body.bind (regionOps 5)).getD #[]) Q 7 (fun a' w' => ∃ dd vv, cutrDl[7]? = some (some dd) ∧ (cutrVals p bs n cs gw at_ X O Y a1 m c1 tl)[7]? = some vv ∧ a' = a.put (some dd) vv ∧ Step noF w w') a w := by
  have h36 : a.tmps.getD 36 undef = .pointer (some ⟨p, 0, none⟩) := hat 6 (List.contains_iff_mem.1 (by kernel_rfl)) 36 _ rfl rfl
  refine val_runs cutrOp7 rfl rfl ?_
  intro oo hoo
  simp only [execOp, hoo, Act.eval, Option.map_some, Option.map_none, h36]
  go_simp

theorem cutrStep8 (p bs n cs gw at_ : Nat) (X O Y : ByteArray) (a1 : Option Addr) (m c1 tl : Nat) (hat1 : (at_ : Int) < (n : Int)) (hat0 : at_ < n) (htl : tl ≤ m) (htc : tl ≤ c1) {Q : Exit → Act → World → Prop} (a : Act) (w : World) (v0 : w.cell? ⟨gw, 0, none⟩ = some (.int .i64 at_)) (v1 : w.cell? ⟨gw, 1, none⟩ = some (.string X)) (v2 : w.cell? ⟨p, 0, none⟩ = some (.slice (some ⟨bs, 0, none⟩) n cs)) (v3 : w.cell? ⟨bs, at_, none⟩ = some (.string O)) (hc : Calls Try.prog 31 #[.string O, .string X, .slice a1 tl c1] w fun e w' => e = .returned (.string Y) ∧ Step noF w w') (h0 : a.tmps.getD 0 undef = .pointer (some ⟨p, 0, none⟩)) (h1 : a.tmps.getD 1 undef = .slice a1 m c1) (h5 : a.tmps.getD 5 undef = .pointer (some ⟨gw, 0, none⟩)) (h6 : a.tmps.getD 6 undef = .int .i64 tl) (hat : ∀ jj ∈ deps ((Try.f13.body.bind (regionOps 5)).getD #[]) 8, ∀ dd vv, cutrDl[jj]? = some (some dd) → (cutrVals p bs n cs gw at_ X O Y a1 m c1 tl)[jj]? = some vv → a.tmps.getD dd undef = vv) :
    wpOp Try.prog ((Try.f13.body.bind (regionOps 5)).getD #[]) Q 8 (fun a' w' => ∃ dd vv, cutrDl[8]? = some (some dd) ∧ (cutrVals p bs n cs gw at_ X O Y a1 m c1 tl)[8]? = some vv ∧ a' = a.put (some dd) vv ∧ Step noF w w') a w := by
  have h37 : a.tmps.getD 37 undef = .pointer (some ⟨p, 0, none⟩) := hat 7 (List.contains_iff_mem.1 (by kernel_rfl)) 37 _ rfl rfl
  refine val_runs cutrOp8 rfl rfl ?_
  intro oo hoo
  simp only [execOp, hoo, Act.eval, Option.map_some, Option.map_none, h37]
  go_simp

theorem cutrStep9 (p bs n cs gw at_ : Nat) (X O Y : ByteArray) (a1 : Option Addr) (m c1 tl : Nat) (hat1 : (at_ : Int) < (n : Int)) (hat0 : at_ < n) (htl : tl ≤ m) (htc : tl ≤ c1) {Q : Exit → Act → World → Prop} (a : Act) (w : World) (v0 : w.cell? ⟨gw, 0, none⟩ = some (.int .i64 at_)) (v1 : w.cell? ⟨gw, 1, none⟩ = some (.string X)) (v2 : w.cell? ⟨p, 0, none⟩ = some (.slice (some ⟨bs, 0, none⟩) n cs)) (v3 : w.cell? ⟨bs, at_, none⟩ = some (.string O)) (hc : Calls Try.prog 31 #[.string O, .string X, .slice a1 tl c1] w fun e w' => e = .returned (.string Y) ∧ Step noF w w') (h0 : a.tmps.getD 0 undef = .pointer (some ⟨p, 0, none⟩)) (h1 : a.tmps.getD 1 undef = .slice a1 m c1) (h5 : a.tmps.getD 5 undef = .pointer (some ⟨gw, 0, none⟩)) (h6 : a.tmps.getD 6 undef = .int .i64 tl) (hat : ∀ jj ∈ deps ((Try.f13.body.bind (regionOps 5)).getD #[]) 9, ∀ dd vv, cutrDl[jj]? = some (some dd) → (cutrVals p bs n cs gw at_ X O Y a1 m c1 tl)[jj]? = some vv → a.tmps.getD dd undef = vv) :
    wpOp Try.prog ((Try.f13.body.bind (regionOps 5)).getD #[]) Q 9 (fun a' w' => ∃ dd vv, cutrDl[9]? = some (some dd) ∧ (cutrVals p bs n cs gw at_ X O Y a1 m c1 tl)[9]? = some vv ∧ a' = a.put (some dd) vv ∧ Step noF w w') a w := by
  have h38 : a.tmps.getD 38 undef = .pointer (some ⟨p, 0, none⟩) := hat 8 (List.contains_iff_mem.1 (by kernel_rfl)) 38 _ rfl rfl
  refine val_runs cutrOp9 rfl rfl ?_
  intro oo hoo
  simp only [execOp, hoo, Act.eval, Option.map_some, Option.map_none, h38]
  go_simp

theorem cutrStep10 (p bs n cs gw at_ : Nat) (X O Y : ByteArray) (a1 : Option Addr) (m c1 tl : Nat) (hat1 : (at_ : Int) < (n : Int)) (hat0 : at_ < n) (htl : tl ≤ m) (htc : tl ≤ c1) {Q : Exit → Act → World → Prop} (a : Act) (w : World) (v0 : w.cell? ⟨gw, 0, none⟩ = some (.int .i64 at_)) (v1 : w.cell? ⟨gw, 1, none⟩ = some (.string X)) (v2 : w.cell? ⟨p, 0, none⟩ = some (.slice (some ⟨bs, 0, none⟩) n cs)) (v3 : w.cell? ⟨bs, at_, none⟩ = some (.string O)) (hc : Calls Try.prog 31 #[.string O, .string X, .slice a1 tl c1] w fun e w' => e = .returned (.string Y) ∧ Step noF w w') (h0 : a.tmps.getD 0 undef = .pointer (some ⟨p, 0, none⟩)) (h1 : a.tmps.getD 1 undef = .slice a1 m c1) (h5 : a.tmps.getD 5 undef = .pointer (some ⟨gw, 0, none⟩)) (h6 : a.tmps.getD 6 undef = .int .i64 tl) (hat : ∀ jj ∈ deps ((Try.f13.body.bind (regionOps 5)).getD #[]) 10, ∀ dd vv, cutrDl[jj]? = some (some dd) → (cutrVals p bs n cs gw at_ X O Y a1 m c1 tl)[jj]? = some vv → a.tmps.getD dd undef = vv) :
    wpOp Try.prog ((Try.f13.body.bind (regionOps 5)).getD #[]) Q 10 (fun a' w' => ∃ dd vv, cutrDl[10]? = some (some dd) ∧ (cutrVals p bs n cs gw at_ X O Y a1 m c1 tl)[10]? = some vv ∧ a' = a.put (some dd) vv ∧ Step noF w w') a w := by
  refine val_runs cutrOp10 rfl rfl ?_
  intro oo hoo
  simp only [execOp, hoo, Act.eval, Option.map_some, Option.map_none, h5]
  go_simp

theorem cutrStep11 (p bs n cs gw at_ : Nat) (X O Y : ByteArray) (a1 : Option Addr) (m c1 tl : Nat) (hat1 : (at_ : Int) < (n : Int)) (hat0 : at_ < n) (htl : tl ≤ m) (htc : tl ≤ c1) {Q : Exit → Act → World → Prop} (a : Act) (w : World) (v0 : w.cell? ⟨gw, 0, none⟩ = some (.int .i64 at_)) (v1 : w.cell? ⟨gw, 1, none⟩ = some (.string X)) (v2 : w.cell? ⟨p, 0, none⟩ = some (.slice (some ⟨bs, 0, none⟩) n cs)) (v3 : w.cell? ⟨bs, at_, none⟩ = some (.string O)) (hc : Calls Try.prog 31 #[.string O, .string X, .slice a1 tl c1] w fun e w' => e = .returned (.string Y) ∧ Step noF w w') (h0 : a.tmps.getD 0 undef = .pointer (some ⟨p, 0, none⟩)) (h1 : a.tmps.getD 1 undef = .slice a1 m c1) (h5 : a.tmps.getD 5 undef = .pointer (some ⟨gw, 0, none⟩)) (h6 : a.tmps.getD 6 undef = .int .i64 tl) (hat : ∀ jj ∈ deps ((Try.f13.body.bind (regionOps 5)).getD #[]) 11, ∀ dd vv, cutrDl[jj]? = some (some dd) → (cutrVals p bs n cs gw at_ X O Y a1 m c1 tl)[jj]? = some vv → a.tmps.getD dd undef = vv) :
    wpOp Try.prog ((Try.f13.body.bind (regionOps 5)).getD #[]) Q 11 (fun a' w' => ∃ dd vv, cutrDl[11]? = some (some dd) ∧ (cutrVals p bs n cs gw at_ X O Y a1 m c1 tl)[11]? = some vv ∧ a' = a.put (some dd) vv ∧ Step noF w w') a w := by
  have h40 : a.tmps.getD 40 undef = .pointer (some ⟨gw, 0, none⟩) := hat 10 (List.contains_iff_mem.1 (by kernel_rfl)) 40 _ rfl rfl
  refine val_runs cutrOp11 rfl rfl ?_
  intro oo hoo
  simp only [execOp, hoo, Act.eval, Option.map_some, Option.map_none, h40]
  go_simp

theorem cutrStep12 (p bs n cs gw at_ : Nat) (X O Y : ByteArray) (a1 : Option Addr) (m c1 tl : Nat) (hat1 : (at_ : Int) < (n : Int)) (hat0 : at_ < n) (htl : tl ≤ m) (htc : tl ≤ c1) {Q : Exit → Act → World → Prop} (a : Act) (w : World) (v0 : w.cell? ⟨gw, 0, none⟩ = some (.int .i64 at_)) (v1 : w.cell? ⟨gw, 1, none⟩ = some (.string X)) (v2 : w.cell? ⟨p, 0, none⟩ = some (.slice (some ⟨bs, 0, none⟩) n cs)) (v3 : w.cell? ⟨bs, at_, none⟩ = some (.string O)) (hc : Calls Try.prog 31 #[.string O, .string X, .slice a1 tl c1] w fun e w' => e = .returned (.string Y) ∧ Step noF w w') (h0 : a.tmps.getD 0 undef = .pointer (some ⟨p, 0, none⟩)) (h1 : a.tmps.getD 1 undef = .slice a1 m c1) (h5 : a.tmps.getD 5 undef = .pointer (some ⟨gw, 0, none⟩)) (h6 : a.tmps.getD 6 undef = .int .i64 tl) (hat : ∀ jj ∈ deps ((Try.f13.body.bind (regionOps 5)).getD #[]) 12, ∀ dd vv, cutrDl[jj]? = some (some dd) → (cutrVals p bs n cs gw at_ X O Y a1 m c1 tl)[jj]? = some vv → a.tmps.getD dd undef = vv) :
    wpOp Try.prog ((Try.f13.body.bind (regionOps 5)).getD #[]) Q 12 (fun a' w' => ∃ dd vv, cutrDl[12]? = some (some dd) ∧ (cutrVals p bs n cs gw at_ X O Y a1 m c1 tl)[12]? = some vv ∧ a' = a.put (some dd) vv ∧ Step noF w w') a w := by
  have h39 : a.tmps.getD 39 undef = .slice (some ⟨bs, 0, none⟩) n cs := hat 9 (List.contains_iff_mem.1 (by kernel_rfl)) 39 _ rfl rfl
  have h41 : a.tmps.getD 41 undef = .int .i64 at_ := hat 11 (List.contains_iff_mem.1 (by kernel_rfl)) 41 _ rfl rfl
  refine val_runs cutrOp12 rfl rfl ?_
  intro oo hoo
  simp only [execOp, hoo, Act.eval, Option.map_some, Option.map_none, h39, h41]
  go_simp

theorem cutrStep13 (p bs n cs gw at_ : Nat) (X O Y : ByteArray) (a1 : Option Addr) (m c1 tl : Nat) (hat1 : (at_ : Int) < (n : Int)) (hat0 : at_ < n) (htl : tl ≤ m) (htc : tl ≤ c1) {Q : Exit → Act → World → Prop} (a : Act) (w : World) (v0 : w.cell? ⟨gw, 0, none⟩ = some (.int .i64 at_)) (v1 : w.cell? ⟨gw, 1, none⟩ = some (.string X)) (v2 : w.cell? ⟨p, 0, none⟩ = some (.slice (some ⟨bs, 0, none⟩) n cs)) (v3 : w.cell? ⟨bs, at_, none⟩ = some (.string O)) (hc : Calls Try.prog 31 #[.string O, .string X, .slice a1 tl c1] w fun e w' => e = .returned (.string Y) ∧ Step noF w w') (h0 : a.tmps.getD 0 undef = .pointer (some ⟨p, 0, none⟩)) (h1 : a.tmps.getD 1 undef = .slice a1 m c1) (h5 : a.tmps.getD 5 undef = .pointer (some ⟨gw, 0, none⟩)) (h6 : a.tmps.getD 6 undef = .int .i64 tl) (hat : ∀ jj ∈ deps ((Try.f13.body.bind (regionOps 5)).getD #[]) 13, ∀ dd vv, cutrDl[jj]? = some (some dd) → (cutrVals p bs n cs gw at_ X O Y a1 m c1 tl)[jj]? = some vv → a.tmps.getD dd undef = vv) :
    wpOp Try.prog ((Try.f13.body.bind (regionOps 5)).getD #[]) Q 13 (fun a' w' => ∃ dd vv, cutrDl[13]? = some (some dd) ∧ (cutrVals p bs n cs gw at_ X O Y a1 m c1 tl)[13]? = some vv ∧ a' = a.put (some dd) vv ∧ Step noF w w') a w := by
  have h42 : a.tmps.getD 42 undef = .pointer (some ⟨bs, at_, none⟩) := hat 12 (List.contains_iff_mem.1 (by kernel_rfl)) 42 _ rfl rfl
  refine val_runs cutrOp13 rfl rfl ?_
  intro oo hoo
  simp only [execOp, hoo, Act.eval, Option.map_some, Option.map_none, h42]
  go_simp

theorem cutrStep14 (p bs n cs gw at_ : Nat) (X O Y : ByteArray) (a1 : Option Addr) (m c1 tl : Nat) (hat1 : (at_ : Int) < (n : Int)) (hat0 : at_ < n) (htl : tl ≤ m) (htc : tl ≤ c1) {Q : Exit → Act → World → Prop} (a : Act) (w : World) (v0 : w.cell? ⟨gw, 0, none⟩ = some (.int .i64 at_)) (v1 : w.cell? ⟨gw, 1, none⟩ = some (.string X)) (v2 : w.cell? ⟨p, 0, none⟩ = some (.slice (some ⟨bs, 0, none⟩) n cs)) (v3 : w.cell? ⟨bs, at_, none⟩ = some (.string O)) (hc : Calls Try.prog 31 #[.string O, .string X, .slice a1 tl c1] w fun e w' => e = .returned (.string Y) ∧ Step noF w w') (h0 : a.tmps.getD 0 undef = .pointer (some ⟨p, 0, none⟩)) (h1 : a.tmps.getD 1 undef = .slice a1 m c1) (h5 : a.tmps.getD 5 undef = .pointer (some ⟨gw, 0, none⟩)) (h6 : a.tmps.getD 6 undef = .int .i64 tl) (hat : ∀ jj ∈ deps ((Try.f13.body.bind (regionOps 5)).getD #[]) 14, ∀ dd vv, cutrDl[jj]? = some (some dd) → (cutrVals p bs n cs gw at_ X O Y a1 m c1 tl)[jj]? = some vv → a.tmps.getD dd undef = vv) :
    wpOp Try.prog ((Try.f13.body.bind (regionOps 5)).getD #[]) Q 14 (fun a' w' => ∃ dd vv, cutrDl[14]? = some (some dd) ∧ (cutrVals p bs n cs gw at_ X O Y a1 m c1 tl)[14]? = some vv ∧ a' = a.put (some dd) vv ∧ Step noF w w') a w := by
  refine val_runs cutrOp14 rfl rfl ?_
  intro oo hoo
  simp only [execOp, hoo, Act.eval, Option.map_some, Option.map_none, h5]
  go_simp

theorem cutrStep15 (p bs n cs gw at_ : Nat) (X O Y : ByteArray) (a1 : Option Addr) (m c1 tl : Nat) (hat1 : (at_ : Int) < (n : Int)) (hat0 : at_ < n) (htl : tl ≤ m) (htc : tl ≤ c1) {Q : Exit → Act → World → Prop} (a : Act) (w : World) (v0 : w.cell? ⟨gw, 0, none⟩ = some (.int .i64 at_)) (v1 : w.cell? ⟨gw, 1, none⟩ = some (.string X)) (v2 : w.cell? ⟨p, 0, none⟩ = some (.slice (some ⟨bs, 0, none⟩) n cs)) (v3 : w.cell? ⟨bs, at_, none⟩ = some (.string O)) (hc : Calls Try.prog 31 #[.string O, .string X, .slice a1 tl c1] w fun e w' => e = .returned (.string Y) ∧ Step noF w w') (h0 : a.tmps.getD 0 undef = .pointer (some ⟨p, 0, none⟩)) (h1 : a.tmps.getD 1 undef = .slice a1 m c1) (h5 : a.tmps.getD 5 undef = .pointer (some ⟨gw, 0, none⟩)) (h6 : a.tmps.getD 6 undef = .int .i64 tl) (hat : ∀ jj ∈ deps ((Try.f13.body.bind (regionOps 5)).getD #[]) 15, ∀ dd vv, cutrDl[jj]? = some (some dd) → (cutrVals p bs n cs gw at_ X O Y a1 m c1 tl)[jj]? = some vv → a.tmps.getD dd undef = vv) :
    wpOp Try.prog ((Try.f13.body.bind (regionOps 5)).getD #[]) Q 15 (fun a' w' => ∃ dd vv, cutrDl[15]? = some (some dd) ∧ (cutrVals p bs n cs gw at_ X O Y a1 m c1 tl)[15]? = some vv ∧ a' = a.put (some dd) vv ∧ Step noF w w') a w := by
  have h44 : a.tmps.getD 44 undef = .pointer (some ⟨gw, 1, none⟩) := hat 14 (List.contains_iff_mem.1 (by kernel_rfl)) 44 _ rfl rfl
  refine val_runs cutrOp15 rfl rfl ?_
  intro oo hoo
  simp only [execOp, hoo, Act.eval, Option.map_some, Option.map_none, h44]
  go_simp

theorem cutrStep16 (p bs n cs gw at_ : Nat) (X O Y : ByteArray) (a1 : Option Addr) (m c1 tl : Nat) (hat1 : (at_ : Int) < (n : Int)) (hat0 : at_ < n) (htl : tl ≤ m) (htc : tl ≤ c1) {Q : Exit → Act → World → Prop} (a : Act) (w : World) (v0 : w.cell? ⟨gw, 0, none⟩ = some (.int .i64 at_)) (v1 : w.cell? ⟨gw, 1, none⟩ = some (.string X)) (v2 : w.cell? ⟨p, 0, none⟩ = some (.slice (some ⟨bs, 0, none⟩) n cs)) (v3 : w.cell? ⟨bs, at_, none⟩ = some (.string O)) (hc : Calls Try.prog 31 #[.string O, .string X, .slice a1 tl c1] w fun e w' => e = .returned (.string Y) ∧ Step noF w w') (h0 : a.tmps.getD 0 undef = .pointer (some ⟨p, 0, none⟩)) (h1 : a.tmps.getD 1 undef = .slice a1 m c1) (h5 : a.tmps.getD 5 undef = .pointer (some ⟨gw, 0, none⟩)) (h6 : a.tmps.getD 6 undef = .int .i64 tl) (hat : ∀ jj ∈ deps ((Try.f13.body.bind (regionOps 5)).getD #[]) 16, ∀ dd vv, cutrDl[jj]? = some (some dd) → (cutrVals p bs n cs gw at_ X O Y a1 m c1 tl)[jj]? = some vv → a.tmps.getD dd undef = vv) :
    wpOp Try.prog ((Try.f13.body.bind (regionOps 5)).getD #[]) Q 16 (fun a' w' => ∃ dd vv, cutrDl[16]? = some (some dd) ∧ (cutrVals p bs n cs gw at_ X O Y a1 m c1 tl)[16]? = some vv ∧ a' = a.put (some dd) vv ∧ Step noF w w') a w := by
  exact val_runs cutrOp16 rfl rfl (runs_move (show a.eval _ = _ from h1))

theorem cutrStep17 (p bs n cs gw at_ : Nat) (X O Y : ByteArray) (a1 : Option Addr) (m c1 tl : Nat) (hat1 : (at_ : Int) < (n : Int)) (hat0 : at_ < n) (htl : tl ≤ m) (htc : tl ≤ c1) {Q : Exit → Act → World → Prop} (a : Act) (w : World) (v0 : w.cell? ⟨gw, 0, none⟩ = some (.int .i64 at_)) (v1 : w.cell? ⟨gw, 1, none⟩ = some (.string X)) (v2 : w.cell? ⟨p, 0, none⟩ = some (.slice (some ⟨bs, 0, none⟩) n cs)) (v3 : w.cell? ⟨bs, at_, none⟩ = some (.string O)) (hc : Calls Try.prog 31 #[.string O, .string X, .slice a1 tl c1] w fun e w' => e = .returned (.string Y) ∧ Step noF w w') (h0 : a.tmps.getD 0 undef = .pointer (some ⟨p, 0, none⟩)) (h1 : a.tmps.getD 1 undef = .slice a1 m c1) (h5 : a.tmps.getD 5 undef = .pointer (some ⟨gw, 0, none⟩)) (h6 : a.tmps.getD 6 undef = .int .i64 tl) (hat : ∀ jj ∈ deps ((Try.f13.body.bind (regionOps 5)).getD #[]) 17, ∀ dd vv, cutrDl[jj]? = some (some dd) → (cutrVals p bs n cs gw at_ X O Y a1 m c1 tl)[jj]? = some vv → a.tmps.getD dd undef = vv) :
    wpOp Try.prog ((Try.f13.body.bind (regionOps 5)).getD #[]) Q 17 (fun a' w' => ∃ dd vv, cutrDl[17]? = some (some dd) ∧ (cutrVals p bs n cs gw at_ X O Y a1 m c1 tl)[17]? = some vv ∧ a' = a.put (some dd) vv ∧ Step noF w w') a w := by
  exact val_runs cutrOp17 rfl rfl (runs_move (show a.eval _ = _ from h6))

theorem cutrStep18 (p bs n cs gw at_ : Nat) (X O Y : ByteArray) (a1 : Option Addr) (m c1 tl : Nat) (hat1 : (at_ : Int) < (n : Int)) (hat0 : at_ < n) (htl : tl ≤ m) (htc : tl ≤ c1) {Q : Exit → Act → World → Prop} (a : Act) (w : World) (v0 : w.cell? ⟨gw, 0, none⟩ = some (.int .i64 at_)) (v1 : w.cell? ⟨gw, 1, none⟩ = some (.string X)) (v2 : w.cell? ⟨p, 0, none⟩ = some (.slice (some ⟨bs, 0, none⟩) n cs)) (v3 : w.cell? ⟨bs, at_, none⟩ = some (.string O)) (hc : Calls Try.prog 31 #[.string O, .string X, .slice a1 tl c1] w fun e w' => e = .returned (.string Y) ∧ Step noF w w') (h0 : a.tmps.getD 0 undef = .pointer (some ⟨p, 0, none⟩)) (h1 : a.tmps.getD 1 undef = .slice a1 m c1) (h5 : a.tmps.getD 5 undef = .pointer (some ⟨gw, 0, none⟩)) (h6 : a.tmps.getD 6 undef = .int .i64 tl) (hat : ∀ jj ∈ deps ((Try.f13.body.bind (regionOps 5)).getD #[]) 18, ∀ dd vv, cutrDl[jj]? = some (some dd) → (cutrVals p bs n cs gw at_ X O Y a1 m c1 tl)[jj]? = some vv → a.tmps.getD dd undef = vv) :
    wpOp Try.prog ((Try.f13.body.bind (regionOps 5)).getD #[]) Q 18 (fun a' w' => ∃ dd vv, cutrDl[18]? = some (some dd) ∧ (cutrVals p bs n cs gw at_ X O Y a1 m c1 tl)[18]? = some vv ∧ a' = a.put (some dd) vv ∧ Step noF w w') a w := by
  have h46 : a.tmps.getD 46 undef = .slice a1 m c1 := hat 16 (List.contains_iff_mem.1 (by kernel_rfl)) 46 _ rfl rfl
  have h47 : a.tmps.getD 47 undef = .int .i64 tl := hat 17 (List.contains_iff_mem.1 (by kernel_rfl)) 47 _ rfl rfl
  refine val_runs cutrOp18 rfl rfl ?_
  intro oo hoo
  simp only [execOp, hoo, Act.eval, Option.map_some, Option.map_none, h46, h47]
  go_simp

theorem cutrStep19 (p bs n cs gw at_ : Nat) (X O Y : ByteArray) (a1 : Option Addr) (m c1 tl : Nat) (hat1 : (at_ : Int) < (n : Int)) (hat0 : at_ < n) (htl : tl ≤ m) (htc : tl ≤ c1) {Q : Exit → Act → World → Prop} (a : Act) (w : World) (v0 : w.cell? ⟨gw, 0, none⟩ = some (.int .i64 at_)) (v1 : w.cell? ⟨gw, 1, none⟩ = some (.string X)) (v2 : w.cell? ⟨p, 0, none⟩ = some (.slice (some ⟨bs, 0, none⟩) n cs)) (v3 : w.cell? ⟨bs, at_, none⟩ = some (.string O)) (hc : Calls Try.prog 31 #[.string O, .string X, .slice a1 tl c1] w fun e w' => e = .returned (.string Y) ∧ Step noF w w') (h0 : a.tmps.getD 0 undef = .pointer (some ⟨p, 0, none⟩)) (h1 : a.tmps.getD 1 undef = .slice a1 m c1) (h5 : a.tmps.getD 5 undef = .pointer (some ⟨gw, 0, none⟩)) (h6 : a.tmps.getD 6 undef = .int .i64 tl) (hat : ∀ jj ∈ deps ((Try.f13.body.bind (regionOps 5)).getD #[]) 19, ∀ dd vv, cutrDl[jj]? = some (some dd) → (cutrVals p bs n cs gw at_ X O Y a1 m c1 tl)[jj]? = some vv → a.tmps.getD dd undef = vv) :
    wpOp Try.prog ((Try.f13.body.bind (regionOps 5)).getD #[]) Q 19 (fun a' w' => ∃ dd vv, cutrDl[19]? = some (some dd) ∧ (cutrVals p bs n cs gw at_ X O Y a1 m c1 tl)[19]? = some vv ∧ a' = a.put (some dd) vv ∧ Step noF w w') a w := by
  have h43 : a.tmps.getD 43 undef = .string O := hat 13 (List.contains_iff_mem.1 (by kernel_rfl)) 43 _ rfl rfl
  have h45 : a.tmps.getD 45 undef = .string X := hat 15 (List.contains_iff_mem.1 (by kernel_rfl)) 45 _ rfl rfl
  have h48 : a.tmps.getD 48 undef = .slice a1 tl c1 := hat 18 (List.contains_iff_mem.1 (by kernel_rfl)) 48 _ rfl rfl
  refine val_calls cutrOp19 rfl rfl Try.func31 (by kernel_rfl) (by kernel_rfl) (by simp only [List.map_toArray, List.map_cons, List.map_nil, Act.eval, h43, h45, h48]; rfl) ?_
  exact hc

theorem cutrStep20 (p bs n cs gw at_ : Nat) (X O Y : ByteArray) (a1 : Option Addr) (m c1 tl : Nat) (hat1 : (at_ : Int) < (n : Int)) (hat0 : at_ < n) (htl : tl ≤ m) (htc : tl ≤ c1) {Q : Exit → Act → World → Prop} (a : Act) (w : World) (v0 : w.cell? ⟨gw, 0, none⟩ = some (.int .i64 at_)) (v1 : w.cell? ⟨gw, 1, none⟩ = some (.string X)) (v2 : w.cell? ⟨p, 0, none⟩ = some (.slice (some ⟨bs, 0, none⟩) n cs)) (v3 : w.cell? ⟨bs, at_, none⟩ = some (.string O)) (hc : Calls Try.prog 31 #[.string O, .string X, .slice a1 tl c1] w fun e w' => e = .returned (.string Y) ∧ Step noF w w') (h0 : a.tmps.getD 0 undef = .pointer (some ⟨p, 0, none⟩)) (h1 : a.tmps.getD 1 undef = .slice a1 m c1) (h5 : a.tmps.getD 5 undef = .pointer (some ⟨gw, 0, none⟩)) (h6 : a.tmps.getD 6 undef = .int .i64 tl) (hat : ∀ jj ∈ deps ((Try.f13.body.bind (regionOps 5)).getD #[]) 20, ∀ dd vv, cutrDl[jj]? = some (some dd) → (cutrVals p bs n cs gw at_ X O Y a1 m c1 tl)[jj]? = some vv → a.tmps.getD dd undef = vv) :
    wpOp Try.prog ((Try.f13.body.bind (regionOps 5)).getD #[]) Q 20 (fun a' w' => ∃ dd vv, cutrDl[20]? = some (some dd) ∧ (cutrVals p bs n cs gw at_ X O Y a1 m c1 tl)[20]? = some vv ∧ a' = a.put (some dd) vv ∧ Step noF w w') a w := by
  have h33 : a.tmps.getD 33 undef = .slice (some ⟨bs, 0, none⟩) n cs := hat 3 (List.contains_iff_mem.1 (by kernel_rfl)) 33 _ rfl rfl
  have h35 : a.tmps.getD 35 undef = .int .i64 at_ := hat 5 (List.contains_iff_mem.1 (by kernel_rfl)) 35 _ rfl rfl
  refine val_runs cutrOp20 rfl rfl ?_
  intro oo hoo
  simp only [execOp, hoo, Act.eval, Option.map_some, Option.map_none, h33, h35]
  go_simp

theorem cutr_last (p bs n cs gw at_ : Nat) (X O Y : ByteArray) (a1 : Option Addr) (m c1 tl : Nat) {Q : Exit → Act → World → Prop} (ap : Act) (w : World) (hx : ap.tmps.getD 50 undef = .pointer (some ⟨bs, at_, none⟩)) (hy : ap.tmps.getD 49 undef = .string Y) (u : Value) (hu : w.cell? ⟨bs, at_, none⟩ = some u) (hf : w.frozen? ⟨bs, at_, none⟩ = false) (hK : Q .normal ap (w.setCell ⟨bs, at_, none⟩ (.string Y))) : wpOp Try.prog ((Try.f13.body.bind (regionOps 5)).getD #[]) Q 21 (fun a' w' => Q .normal a' w') ap w := by
  have hr : Skips Try.prog ap (Op.store 9 (Operand.tmp 50) (Operand.tmp 49)) w (w.setCell ⟨bs, at_, none⟩ (.string Y)) := by
    intro oo hoo
    simp only [execOp, hoo, Act.eval, hx, hy]
    go_simp
  exact op_skips cutrOp21 hr hK

theorem cutr_go (p bs n cs gw at_ : Nat) (X O Y : ByteArray) (a1 : Option Addr) (m c1 tl : Nat) (hat1 : (at_ : Int) < (n : Int)) (hat0 : at_ < n) (htl : tl ≤ m) (htc : tl ≤ c1) {Q : Exit → Act → World → Prop} (a0 : Act) (w0 : World) (hsz : a0.tmps.size = 86) (h0 : a0.tmps.getD 0 undef = .pointer (some ⟨p, 0, none⟩)) (h1 : a0.tmps.getD 1 undef = .slice a1 m c1) (h5 : a0.tmps.getD 5 undef = .pointer (some ⟨gw, 0, none⟩)) (h6 : a0.tmps.getD 6 undef = .int .i64 tl)
    (hw : ∀ w, Step noF w0 w → (w.cell? ⟨gw, 0, none⟩ = some (.int .i64 at_)) ∧ (w.cell? ⟨gw, 1, none⟩ = some (.string X)) ∧ (w.cell? ⟨p, 0, none⟩ = some (.slice (some ⟨bs, 0, none⟩) n cs)) ∧ (w.cell? ⟨bs, at_, none⟩ = some (.string O)) ∧ (Calls Try.prog 31 #[.string O, .string X, .slice a1 tl c1] w fun e w' => e = .returned (.string Y) ∧ Step noF w w') ∧ (∃ u, w.cell? ⟨bs, at_, none⟩ = some u) ∧ w.frozen? ⟨bs, at_, none⟩ = false)
    (hK : ∀ w, Step noF w0 w → Q .normal (putAll a0 cutrDl (cutrVals p bs n cs gw at_ X O Y a1 m c1 tl)) (w.setCell ⟨bs, at_, none⟩ (.string Y))) : (Code.region 5 ((Try.f13.body.bind (regionOps 5)).getD #[]) true).wp Try.prog Q a0 w0 := by
  refine wp_region_vals noF (cutrVals p bs n cs gw at_ X O Y a1 m c1 tl) cutrDl 21 cutr_size (by kernel_rfl) cutr_back cutr_used cutr_dl cutr_nd (fun d h => by rw [hsz]; exact cutr_lt d h) rfl rfl ?_ ?_
  · intro ix hix a w hs hfr hat
    obtain ⟨v0, v1, v2, v3, hc, _, _⟩ := hw w hs
    have h0 := (hfr 0 (by decide)).trans h0
    have h1 := (hfr 1 (by decide)).trans h1
    have h5 := (hfr 5 (by decide)).trans h5
    have h6 := (hfr 6 (by decide)).trans h6
    match ix, hix with
    | 0, _ => exact cutrStep0 p bs n cs gw at_ X O Y a1 m c1 tl hat1 hat0 htl htc a w v0 v1 v2 v3 hc h0 h1 h5 h6 hat
    | 1, _ => exact cutrStep1 p bs n cs gw at_ X O Y a1 m c1 tl hat1 hat0 htl htc a w v0 v1 v2 v3 hc h0 h1 h5 h6 hat
    | 2, _ => exact cutrStep2 p bs n cs gw at_ X O Y a1 m c1 tl hat1 hat0 htl htc a w v0 v1 v2 v3 hc h0 h1 h5 h6 hat
    | 3, _ => exact cutrStep3 p bs n cs gw at_ X O Y a1 m c1 tl hat1 hat0 htl htc a w v0 v1 v2 v3 hc h0 h1 h5 h6 hat
    | 4, _ => exact cutrStep4 p bs n cs gw at_ X O Y a1 m c1 tl hat1 hat0 htl htc a w v0 v1 v2 v3 hc h0 h1 h5 h6 hat
    | 5, _ => exact cutrStep5 p bs n cs gw at_ X O Y a1 m c1 tl hat1 hat0 htl htc a w v0 v1 v2 v3 hc h0 h1 h5 h6 hat
    | 6, _ => exact cutrStep6 p bs n cs gw at_ X O Y a1 m c1 tl hat1 hat0 htl htc a w v0 v1 v2 v3 hc h0 h1 h5 h6 hat
    | 7, _ => exact cutrStep7 p bs n cs gw at_ X O Y a1 m c1 tl hat1 hat0 htl htc a w v0 v1 v2 v3 hc h0 h1 h5 h6 hat
    | 8, _ => exact cutrStep8 p bs n cs gw at_ X O Y a1 m c1 tl hat1 hat0 htl htc a w v0 v1 v2 v3 hc h0 h1 h5 h6 hat
    | 9, _ => exact cutrStep9 p bs n cs gw at_ X O Y a1 m c1 tl hat1 hat0 htl htc a w v0 v1 v2 v3 hc h0 h1 h5 h6 hat
    | 10, _ => exact cutrStep10 p bs n cs gw at_ X O Y a1 m c1 tl hat1 hat0 htl htc a w v0 v1 v2 v3 hc h0 h1 h5 h6 hat
    | 11, _ => exact cutrStep11 p bs n cs gw at_ X O Y a1 m c1 tl hat1 hat0 htl htc a w v0 v1 v2 v3 hc h0 h1 h5 h6 hat
    | 12, _ => exact cutrStep12 p bs n cs gw at_ X O Y a1 m c1 tl hat1 hat0 htl htc a w v0 v1 v2 v3 hc h0 h1 h5 h6 hat
    | 13, _ => exact cutrStep13 p bs n cs gw at_ X O Y a1 m c1 tl hat1 hat0 htl htc a w v0 v1 v2 v3 hc h0 h1 h5 h6 hat
    | 14, _ => exact cutrStep14 p bs n cs gw at_ X O Y a1 m c1 tl hat1 hat0 htl htc a w v0 v1 v2 v3 hc h0 h1 h5 h6 hat
    | 15, _ => exact cutrStep15 p bs n cs gw at_ X O Y a1 m c1 tl hat1 hat0 htl htc a w v0 v1 v2 v3 hc h0 h1 h5 h6 hat
    | 16, _ => exact cutrStep16 p bs n cs gw at_ X O Y a1 m c1 tl hat1 hat0 htl htc a w v0 v1 v2 v3 hc h0 h1 h5 h6 hat
    | 17, _ => exact cutrStep17 p bs n cs gw at_ X O Y a1 m c1 tl hat1 hat0 htl htc a w v0 v1 v2 v3 hc h0 h1 h5 h6 hat
    | 18, _ => exact cutrStep18 p bs n cs gw at_ X O Y a1 m c1 tl hat1 hat0 htl htc a w v0 v1 v2 v3 hc h0 h1 h5 h6 hat
    | 19, _ => exact cutrStep19 p bs n cs gw at_ X O Y a1 m c1 tl hat1 hat0 htl htc a w v0 v1 v2 v3 hc h0 h1 h5 h6 hat
    | 20, _ => exact cutrStep20 p bs n cs gw at_ X O Y a1 m c1 tl hat1 hat0 htl htc a w v0 v1 v2 v3 hc h0 h1 h5 h6 hat
    | k + 21, h => exact absurd h (by omega)
  · intro w hs
    obtain ⟨_, _, _, _, _, ⟨u, hu⟩, hf⟩ := hw w hs
    have hx : (putAll a0 cutrDl (cutrVals p bs n cs gw at_ X O Y a1 m c1 tl)).tmps.getD 50 undef = .pointer (some ⟨bs, at_, none⟩) := (putAll_at cutrDl (cutrVals p bs n cs gw at_ X O Y a1 m c1 tl) a0 20 50 _ cutr_nd rfl rfl (by rw [hsz]; decide))
    have hy : (putAll a0 cutrDl (cutrVals p bs n cs gw at_ X O Y a1 m c1 tl)).tmps.getD 49 undef = .string Y := (putAll_at cutrDl (cutrVals p bs n cs gw at_ X O Y a1 m c1 tl) a0 19 49 _ cutr_nd rfl rfl (by rw [hsz]; decide))
    exact cutr_last p bs n cs gw at_ X O Y a1 m c1 tl (putAll a0 cutrDl (cutrVals p bs n cs gw at_ X O Y a1 m c1 tl)) w hx hy u hu hf (hK w hs)
end Go.Proofs.Ythgcpeibjnflaaa
