/-
  The region that draws in space.Parse (number 9), operation by operation. Written by draw2.py.
-/
import Derived.Test.YtdcomcpinlgpdaaVals
import Derived.Test.YtdcomcpinlgpdaaSpE
namespace Go.Proofs.Ytdcomcpinlgpdaa
open Go.RowKit
set_option linter.unusedVariables false
set_option linter.unusedSimpArgs false


def psrDl : List (Option Nat) := [some 21, some 22, some 23, some 24, some 25, some 26, some 27, some 28, some 29, some 30, some 31, some 32, some 33, some 34, none]
theorem psr_dl : ((Try.f23.body.bind (regionOps 9)).getD #[]).toList.map (·.dst) = psrDl := by kernel_rfl
theorem psr_back : backB ((Try.f23.body.bind (regionOps 9)).getD #[]) = true := by kernel_rfl
theorem psr_used : usedB ((Try.f23.body.bind (regionOps 9)).getD #[]) 14 = true := by kernel_rfl
theorem psr_size : ((Try.f23.body.bind (regionOps 9)).getD #[]).size = 15 := by kernel_rfl
theorem psr_nd : psrDl.Pairwise (fun x y => x = none ∨ x ≠ y) := by decide
theorem psr_lt (d : Nat) (h : some d ∈ psrDl) : d < 41 := by
  have hh : psrDl.all (fun o => o.all (fun d => decide (d < 41))) = true := by decide
  simpa using List.all_eq_true.1 hh _ h
def psrVals (p g n c j q x y z : Nat) (T : ByteArray) (b : Bool) : List Value := [.pointer (some ⟨p, 0, none⟩), .pointer (some ⟨p, 0, none⟩), .pointer (some ⟨p, 0, none⟩), .slice (some ⟨g, 0, none⟩) n c, .int .i64 j, .string T, .int .i64 j, .int .i64 q, .int .u8 x, .int .i64 j, .int .u8 y, .int .u8 z, .bool b, .pointer (some ⟨g, j, none⟩)]
theorem psrOp0 : opIs ((Try.f23.body.bind (regionOps 9)).getD #[]) 0 (some 21) (Op.move (Operand.tmp 6)) none := opIs_of (by kernel_rfl)
theorem psrOp1 : opIs ((Try.f23.body.bind (regionOps 9)).getD #[]) 1 (some 22) (Op.nilCheck (Operand.tmp 21)) none := opIs_of (by kernel_rfl)
theorem psrOp2 : opIs ((Try.f23.body.bind (regionOps 9)).getD #[]) 2 (some 23) (Op.fieldAddr 58 (Operand.tmp 22) 0) none := opIs_of (by kernel_rfl)
theorem psrOp3 : opIs ((Try.f23.body.bind (regionOps 9)).getD #[]) 3 (some 24) (Op.load 26 (Operand.tmp 23)) none := opIs_of (by kernel_rfl)
theorem psrOp4 : opIs ((Try.f23.body.bind (regionOps 9)).getD #[]) 4 (some 25) (Op.move (Operand.tmp 7)) none := opIs_of (by kernel_rfl)
theorem psrOp5 : opIs ((Try.f23.body.bind (regionOps 9)).getD #[]) 5 (some 26) (Op.move (Operand.tmp 1)) none := opIs_of (by kernel_rfl)
theorem psrOp6 : opIs ((Try.f23.body.bind (regionOps 9)).getD #[]) 6 (some 27) (Op.move (Operand.tmp 7)) none := opIs_of (by kernel_rfl)
theorem psrOp7 : opIs ((Try.f23.body.bind (regionOps 9)).getD #[]) 7 (some 28) (Op.binOp BinOp.quo 3 (Operand.tmp 27) (Operand.const (Value.int IntKind.i64 8)) 3) none := opIs_of (by kernel_rfl)
theorem psrOp8 : opIs ((Try.f23.body.bind (regionOps 9)).getD #[]) 8 (some 29) (Op.index 9 (Operand.tmp 26) (Operand.tmp 28)) none := opIs_of (by kernel_rfl)
theorem psrOp9 : opIs ((Try.f23.body.bind (regionOps 9)).getD #[]) 9 (some 30) (Op.move (Operand.tmp 7)) none := opIs_of (by kernel_rfl)
theorem psrOp10 : opIs ((Try.f23.body.bind (regionOps 9)).getD #[]) 10 (some 31) (Op.call { callee := Callee.value (Operand.func 30), args := #[Operand.tmp 30], argTypes := #[3] }) none := opIs_of (by kernel_rfl)
theorem psrOp11 : opIs ((Try.f23.body.bind (regionOps 9)).getD #[]) 11 (some 32) (Op.binOp BinOp.and 5 (Operand.tmp 29) (Operand.tmp 31) 5) none := opIs_of (by kernel_rfl)
theorem psrOp12 : opIs ((Try.f23.body.bind (regionOps 9)).getD #[]) 12 (some 33) (Op.binOp BinOp.neq 5 (Operand.tmp 32) (Operand.const (Value.int IntKind.u8 0)) 5) none := opIs_of (by kernel_rfl)
theorem psrOp13 : opIs ((Try.f23.body.bind (regionOps 9)).getD #[]) 13 (some 34) (Op.indexAddr 26 (Operand.tmp 24) (Operand.tmp 25)) none := opIs_of (by kernel_rfl)
theorem psrOp14 : opIs ((Try.f23.body.bind (regionOps 9)).getD #[]) 14 none (Op.store 4 (Operand.tmp 34) (Operand.tmp 33)) none := opIs_of (by kernel_rfl)

theorem psrStep0 (p g n c j q x y z : Nat) (T : ByteArray) (b : Bool) (hqw : IntKind.i64.wrap (q : Int) = (q : Int)) (hq : (j : Int).tdiv 8 = (q : Int)) (hj : (j : Int) ≤ 1000) (hjn : (j : Int) < (n : Int)) (hjn2 : j < n) (hqt : (q : Int) < (T.size : Int)) (hqt2 : q < T.size) (hx : ∀ h : q < T.size, (T[q]).toNat = x) (hand : bits .and .u8 (x : Int) (y : Int) = (z : Int)) (hb : ((z : Int) != 0) = b) {Q : Exit → Act → World → Prop} (a : Act) (w : World) (v0 : w.cell? ⟨p, 0, none⟩ = some (.slice (some ⟨g, 0, none⟩) n c)) (hc : Calls Try.prog 30 #[.int .i64 j] w fun e w' => e = .returned (.int .u8 y) ∧ Step noF w w') (h1 : a.tmps.getD 1 undef = .string T) (h6 : a.tmps.getD 6 undef = .pointer (some ⟨p, 0, none⟩)) (h7 : a.tmps.getD 7 undef = .int .i64 j) (hat : ∀ jj ∈ deps ((Try.f23.body.bind (regionOps 9)).getD #[]) 0, ∀ dd vv, psrDl[jj]? = some (some dd) → (psrVals p g n c j q x y z T b)[jj]? = some vv → a.tmps.getD dd undef = vv) :
    wpOp Try.prog ((Try.f23.body.bind (regionOps 9)).getD #[]) Q 0 (fun a' w' => ∃ dd vv, psrDl[0]? = some (some dd) ∧ (psrVals p g n c j q x y z T b)[0]? = some vv ∧ a' = a.put (some dd) vv ∧ Step noF w w') a w := by
  exact val_runs psrOp0 rfl rfl (runs_move (show a.eval _ = _ from h6))

theorem psrStep1 (p g n c j q x y z : Nat) (T : ByteArray) (b : Bool) (hqw : IntKind.i64.wrap (q : Int) = (q : Int)) (hq : (j : Int).tdiv 8 = (q : Int)) (hj : (j : Int) ≤ 1000) (hjn : (j : Int) < (n : Int)) (hjn2 : j < n) (hqt : (q : Int) < (T.size : Int)) (hqt2 : q < T.size) (hx : ∀ h : q < T.size, (T[q]).toNat = x) (hand : bits .and .u8 (x : Int) (y : Int) = (z : Int)) (hb : ((z : Int) != 0) = b) {Q : Exit → Act → World → Prop} (a : Act) (w : World) (v0 : w.cell? ⟨p, 0, none⟩ = some (.slice (some ⟨g, 0, none⟩) n c)) (hc : Calls Try.prog 30 #[.int .i64 j] w fun e w' => e = .returned (.int .u8 y) ∧ Step noF w w') (h1 : a.tmps.getD 1 undef = .string T) (h6 : a.tmps.getD 6 undef = .pointer (some ⟨p, 0, none⟩)) (h7 : a.tmps.getD 7 undef = .int .i64 j) (hat : ∀ jj ∈ deps ((Try.f23.body.bind (regionOps 9)).getD #[]) 1, ∀ dd vv, psrDl[jj]? = some (some dd) → (psrVals p g n c j q x y z T b)[jj]? = some vv → a.tmps.getD dd undef = vv) :
    wpOp Try.prog ((Try.f23.body.bind (regionOps 9)).getD #[]) Q 1 (fun a' w' => ∃ dd vv, psrDl[1]? = some (some dd) ∧ (psrVals p g n c j q x y z T b)[1]? = some vv ∧ a' = a.put (some dd) vv ∧ Step noF w w') a w := by
  have h21 : a.tmps.getD 21 undef = .pointer (some ⟨p, 0, none⟩) := hat 0 (List.contains_iff_mem.1 (by kernel_rfl)) 21 _ rfl rfl
  refine val_runs psrOp1 rfl rfl ?_
  intro oo hoo
  simp only [execOp, hoo, Act.eval, Option.map_some, Option.map_none, h21]
  go_simp

theorem psrStep2 (p g n c j q x y z : Nat) (T : ByteArray) (b : Bool) (hqw : IntKind.i64.wrap (q : Int) = (q : Int)) (hq : (j : Int).tdiv 8 = (q : Int)) (hj : (j : Int) ≤ 1000) (hjn : (j : Int) < (n : Int)) (hjn2 : j < n) (hqt : (q : Int) < (T.size : Int)) (hqt2 : q < T.size) (hx : ∀ h : q < T.size, (T[q]).toNat = x) (hand : bits .and .u8 (x : Int) (y : Int) = (z : Int)) (hb : ((z : Int) != 0) = b) {Q : Exit → Act → World → Prop} (a : Act) (w : World) (v0 : w.cell? ⟨p, 0, none⟩ = some (.slice (some ⟨g, 0, none⟩) n c)) (hc : Calls Try.prog 30 #[.int .i64 j] w fun e w' => e = .returned (.int .u8 y) ∧ Step noF w w') (h1 : a.tmps.getD 1 undef = .string T) (h6 : a.tmps.getD 6 undef = .pointer (some ⟨p, 0, none⟩)) (h7 : a.tmps.getD 7 undef = .int .i64 j) (hat : ∀ jj ∈ deps ((Try.f23.body.bind (regionOps 9)).getD #[]) 2, ∀ dd vv, psrDl[jj]? = some (some dd) → (psrVals p g n c j q x y z T b)[jj]? = some vv → a.tmps.getD dd undef = vv) :
    wpOp Try.prog ((Try.f23.body.bind (regionOps 9)).getD #[]) Q 2 (fun a' w' => ∃ dd vv, psrDl[2]? = some (some dd) ∧ (psrVals p g n c j q x y z T b)[2]? = some vv ∧ a' = a.put (some dd) vv ∧ Step noF w w') a w := by
  have h22 : a.tmps.getD 22 undef = .pointer (some ⟨p, 0, none⟩) := hat 1 (List.contains_iff_mem.1 (by kernel_rfl)) 22 _ rfl rfl
  refine val_runs psrOp2 rfl rfl ?_
  intro oo hoo
  simp only [execOp, hoo, Act.eval, Option.map_some, Option.map_none, h22]
  go_simp

theorem psrStep3 (p g n c j q x y z : Nat) (T : ByteArray) (b : Bool) (hqw : IntKind.i64.wrap (q : Int) = (q : Int)) (hq : (j : Int).tdiv 8 = (q : Int)) (hj : (j : Int) ≤ 1000) (hjn : (j : Int) < (n : Int)) (hjn2 : j < n) (hqt : (q : Int) < (T.size : Int)) (hqt2 : q < T.size) (hx : ∀ h : q < T.size, (T[q]).toNat = x) (hand : bits .and .u8 (x : Int) (y : Int) = (z : Int)) (hb : ((z : Int) != 0) = b) {Q : Exit → Act → World → Prop} (a : Act) (w : World) (v0 : w.cell? ⟨p, 0, none⟩ = some (.slice (some ⟨g, 0, none⟩) n c)) (hc : Calls Try.prog 30 #[.int .i64 j] w fun e w' => e = .returned (.int .u8 y) ∧ Step noF w w') (h1 : a.tmps.getD 1 undef = .string T) (h6 : a.tmps.getD 6 undef = .pointer (some ⟨p, 0, none⟩)) (h7 : a.tmps.getD 7 undef = .int .i64 j) (hat : ∀ jj ∈ deps ((Try.f23.body.bind (regionOps 9)).getD #[]) 3, ∀ dd vv, psrDl[jj]? = some (some dd) → (psrVals p g n c j q x y z T b)[jj]? = some vv → a.tmps.getD dd undef = vv) :
    wpOp Try.prog ((Try.f23.body.bind (regionOps 9)).getD #[]) Q 3 (fun a' w' => ∃ dd vv, psrDl[3]? = some (some dd) ∧ (psrVals p g n c j q x y z T b)[3]? = some vv ∧ a' = a.put (some dd) vv ∧ Step noF w w') a w := by
  have h23 : a.tmps.getD 23 undef = .pointer (some ⟨p, 0, none⟩) := hat 2 (List.contains_iff_mem.1 (by kernel_rfl)) 23 _ rfl rfl
  refine val_runs psrOp3 rfl rfl ?_
  intro oo hoo
  simp only [execOp, hoo, Act.eval, Option.map_some, Option.map_none, h23]
  go_simp

theorem psrStep4 (p g n c j q x y z : Nat) (T : ByteArray) (b : Bool) (hqw : IntKind.i64.wrap (q : Int) = (q : Int)) (hq : (j : Int).tdiv 8 = (q : Int)) (hj : (j : Int) ≤ 1000) (hjn : (j : Int) < (n : Int)) (hjn2 : j < n) (hqt : (q : Int) < (T.size : Int)) (hqt2 : q < T.size) (hx : ∀ h : q < T.size, (T[q]).toNat = x) (hand : bits .and .u8 (x : Int) (y : Int) = (z : Int)) (hb : ((z : Int) != 0) = b) {Q : Exit → Act → World → Prop} (a : Act) (w : World) (v0 : w.cell? ⟨p, 0, none⟩ = some (.slice (some ⟨g, 0, none⟩) n c)) (hc : Calls Try.prog 30 #[.int .i64 j] w fun e w' => e = .returned (.int .u8 y) ∧ Step noF w w') (h1 : a.tmps.getD 1 undef = .string T) (h6 : a.tmps.getD 6 undef = .pointer (some ⟨p, 0, none⟩)) (h7 : a.tmps.getD 7 undef = .int .i64 j) (hat : ∀ jj ∈ deps ((Try.f23.body.bind (regionOps 9)).getD #[]) 4, ∀ dd vv, psrDl[jj]? = some (some dd) → (psrVals p g n c j q x y z T b)[jj]? = some vv → a.tmps.getD dd undef = vv) :
    wpOp Try.prog ((Try.f23.body.bind (regionOps 9)).getD #[]) Q 4 (fun a' w' => ∃ dd vv, psrDl[4]? = some (some dd) ∧ (psrVals p g n c j q x y z T b)[4]? = some vv ∧ a' = a.put (some dd) vv ∧ Step noF w w') a w := by
  exact val_runs psrOp4 rfl rfl (runs_move (show a.eval _ = _ from h7))

theorem psrStep5 (p g n c j q x y z : Nat) (T : ByteArray) (b : Bool) (hqw : IntKind.i64.wrap (q : Int) = (q : Int)) (hq : (j : Int).tdiv 8 = (q : Int)) (hj : (j : Int) ≤ 1000) (hjn : (j : Int) < (n : Int)) (hjn2 : j < n) (hqt : (q : Int) < (T.size : Int)) (hqt2 : q < T.size) (hx : ∀ h : q < T.size, (T[q]).toNat = x) (hand : bits .and .u8 (x : Int) (y : Int) = (z : Int)) (hb : ((z : Int) != 0) = b) {Q : Exit → Act → World → Prop} (a : Act) (w : World) (v0 : w.cell? ⟨p, 0, none⟩ = some (.slice (some ⟨g, 0, none⟩) n c)) (hc : Calls Try.prog 30 #[.int .i64 j] w fun e w' => e = .returned (.int .u8 y) ∧ Step noF w w') (h1 : a.tmps.getD 1 undef = .string T) (h6 : a.tmps.getD 6 undef = .pointer (some ⟨p, 0, none⟩)) (h7 : a.tmps.getD 7 undef = .int .i64 j) (hat : ∀ jj ∈ deps ((Try.f23.body.bind (regionOps 9)).getD #[]) 5, ∀ dd vv, psrDl[jj]? = some (some dd) → (psrVals p g n c j q x y z T b)[jj]? = some vv → a.tmps.getD dd undef = vv) :
    wpOp Try.prog ((Try.f23.body.bind (regionOps 9)).getD #[]) Q 5 (fun a' w' => ∃ dd vv, psrDl[5]? = some (some dd) ∧ (psrVals p g n c j q x y z T b)[5]? = some vv ∧ a' = a.put (some dd) vv ∧ Step noF w w') a w := by
  exact val_runs psrOp5 rfl rfl (runs_move (show a.eval _ = _ from h1))

theorem psrStep6 (p g n c j q x y z : Nat) (T : ByteArray) (b : Bool) (hqw : IntKind.i64.wrap (q : Int) = (q : Int)) (hq : (j : Int).tdiv 8 = (q : Int)) (hj : (j : Int) ≤ 1000) (hjn : (j : Int) < (n : Int)) (hjn2 : j < n) (hqt : (q : Int) < (T.size : Int)) (hqt2 : q < T.size) (hx : ∀ h : q < T.size, (T[q]).toNat = x) (hand : bits .and .u8 (x : Int) (y : Int) = (z : Int)) (hb : ((z : Int) != 0) = b) {Q : Exit → Act → World → Prop} (a : Act) (w : World) (v0 : w.cell? ⟨p, 0, none⟩ = some (.slice (some ⟨g, 0, none⟩) n c)) (hc : Calls Try.prog 30 #[.int .i64 j] w fun e w' => e = .returned (.int .u8 y) ∧ Step noF w w') (h1 : a.tmps.getD 1 undef = .string T) (h6 : a.tmps.getD 6 undef = .pointer (some ⟨p, 0, none⟩)) (h7 : a.tmps.getD 7 undef = .int .i64 j) (hat : ∀ jj ∈ deps ((Try.f23.body.bind (regionOps 9)).getD #[]) 6, ∀ dd vv, psrDl[jj]? = some (some dd) → (psrVals p g n c j q x y z T b)[jj]? = some vv → a.tmps.getD dd undef = vv) :
    wpOp Try.prog ((Try.f23.body.bind (regionOps 9)).getD #[]) Q 6 (fun a' w' => ∃ dd vv, psrDl[6]? = some (some dd) ∧ (psrVals p g n c j q x y z T b)[6]? = some vv ∧ a' = a.put (some dd) vv ∧ Step noF w w') a w := by
  exact val_runs psrOp6 rfl rfl (runs_move (show a.eval _ = _ from h7))

theorem psrStep7 (p g n c j q x y z : Nat) (T : ByteArray) (b : Bool) (hqw : IntKind.i64.wrap (q : Int) = (q : Int)) (hq : (j : Int).tdiv 8 = (q : Int)) (hj : (j : Int) ≤ 1000) (hjn : (j : Int) < (n : Int)) (hjn2 : j < n) (hqt : (q : Int) < (T.size : Int)) (hqt2 : q < T.size) (hx : ∀ h : q < T.size, (T[q]).toNat = x) (hand : bits .and .u8 (x : Int) (y : Int) = (z : Int)) (hb : ((z : Int) != 0) = b) {Q : Exit → Act → World → Prop} (a : Act) (w : World) (v0 : w.cell? ⟨p, 0, none⟩ = some (.slice (some ⟨g, 0, none⟩) n c)) (hc : Calls Try.prog 30 #[.int .i64 j] w fun e w' => e = .returned (.int .u8 y) ∧ Step noF w w') (h1 : a.tmps.getD 1 undef = .string T) (h6 : a.tmps.getD 6 undef = .pointer (some ⟨p, 0, none⟩)) (h7 : a.tmps.getD 7 undef = .int .i64 j) (hat : ∀ jj ∈ deps ((Try.f23.body.bind (regionOps 9)).getD #[]) 7, ∀ dd vv, psrDl[jj]? = some (some dd) → (psrVals p g n c j q x y z T b)[jj]? = some vv → a.tmps.getD dd undef = vv) :
    wpOp Try.prog ((Try.f23.body.bind (regionOps 9)).getD #[]) Q 7 (fun a' w' => ∃ dd vv, psrDl[7]? = some (some dd) ∧ (psrVals p g n c j q x y z T b)[7]? = some vv ∧ a' = a.put (some dd) vv ∧ Step noF w w') a w := by
  have h27 : a.tmps.getD 27 undef = .int .i64 j := hat 6 (List.contains_iff_mem.1 (by kernel_rfl)) 27 _ rfl rfl
  refine val_runs psrOp7 rfl rfl ?_
  intro oo hoo
  simp only [execOp, hoo, Act.eval, Option.map_some, Option.map_none, h27]
  go_simp

theorem psrStep8 (p g n c j q x y z : Nat) (T : ByteArray) (b : Bool) (hqw : IntKind.i64.wrap (q : Int) = (q : Int)) (hq : (j : Int).tdiv 8 = (q : Int)) (hj : (j : Int) ≤ 1000) (hjn : (j : Int) < (n : Int)) (hjn2 : j < n) (hqt : (q : Int) < (T.size : Int)) (hqt2 : q < T.size) (hx : ∀ h : q < T.size, (T[q]).toNat = x) (hand : bits .and .u8 (x : Int) (y : Int) = (z : Int)) (hb : ((z : Int) != 0) = b) {Q : Exit → Act → World → Prop} (a : Act) (w : World) (v0 : w.cell? ⟨p, 0, none⟩ = some (.slice (some ⟨g, 0, none⟩) n c)) (hc : Calls Try.prog 30 #[.int .i64 j] w fun e w' => e = .returned (.int .u8 y) ∧ Step noF w w') (h1 : a.tmps.getD 1 undef = .string T) (h6 : a.tmps.getD 6 undef = .pointer (some ⟨p, 0, none⟩)) (h7 : a.tmps.getD 7 undef = .int .i64 j) (hat : ∀ jj ∈ deps ((Try.f23.body.bind (regionOps 9)).getD #[]) 8, ∀ dd vv, psrDl[jj]? = some (some dd) → (psrVals p g n c j q x y z T b)[jj]? = some vv → a.tmps.getD dd undef = vv) :
    wpOp Try.prog ((Try.f23.body.bind (regionOps 9)).getD #[]) Q 8 (fun a' w' => ∃ dd vv, psrDl[8]? = some (some dd) ∧ (psrVals p g n c j q x y z T b)[8]? = some vv ∧ a' = a.put (some dd) vv ∧ Step noF w w') a w := by
  have h26 : a.tmps.getD 26 undef = .string T := hat 5 (List.contains_iff_mem.1 (by kernel_rfl)) 26 _ rfl rfl
  have h28 : a.tmps.getD 28 undef = .int .i64 q := hat 7 (List.contains_iff_mem.1 (by kernel_rfl)) 28 _ rfl rfl
  refine val_runs psrOp8 rfl rfl ?_
  intro oo hoo
  simp only [execOp, hoo, Act.eval, Option.map_some, Option.map_none, h26, h28]
  go_simp

theorem psrStep9 (p g n c j q x y z : Nat) (T : ByteArray) (b : Bool) (hqw : IntKind.i64.wrap (q : Int) = (q : Int)) (hq : (j : Int).tdiv 8 = (q : Int)) (hj : (j : Int) ≤ 1000) (hjn : (j : Int) < (n : Int)) (hjn2 : j < n) (hqt : (q : Int) < (T.size : Int)) (hqt2 : q < T.size) (hx : ∀ h : q < T.size, (T[q]).toNat = x) (hand : bits .and .u8 (x : Int) (y : Int) = (z : Int)) (hb : ((z : Int) != 0) = b) {Q : Exit → Act → World → Prop} (a : Act) (w : World) (v0 : w.cell? ⟨p, 0, none⟩ = some (.slice (some ⟨g, 0, none⟩) n c)) (hc : Calls Try.prog 30 #[.int .i64 j] w fun e w' => e = .returned (.int .u8 y) ∧ Step noF w w') (h1 : a.tmps.getD 1 undef = .string T) (h6 : a.tmps.getD 6 undef = .pointer (some ⟨p, 0, none⟩)) (h7 : a.tmps.getD 7 undef = .int .i64 j) (hat : ∀ jj ∈ deps ((Try.f23.body.bind (regionOps 9)).getD #[]) 9, ∀ dd vv, psrDl[jj]? = some (some dd) → (psrVals p g n c j q x y z T b)[jj]? = some vv → a.tmps.getD dd undef = vv) :
    wpOp Try.prog ((Try.f23.body.bind (regionOps 9)).getD #[]) Q 9 (fun a' w' => ∃ dd vv, psrDl[9]? = some (some dd) ∧ (psrVals p g n c j q x y z T b)[9]? = some vv ∧ a' = a.put (some dd) vv ∧ Step noF w w') a w := by
  exact val_runs psrOp9 rfl rfl (runs_move (show a.eval _ = _ from h7))

theorem psrStep10 (p g n c j q x y z : Nat) (T : ByteArray) (b : Bool) (hqw : IntKind.i64.wrap (q : Int) = (q : Int)) (hq : (j : Int).tdiv 8 = (q : Int)) (hj : (j : Int) ≤ 1000) (hjn : (j : Int) < (n : Int)) (hjn2 : j < n) (hqt : (q : Int) < (T.size : Int)) (hqt2 : q < T.size) (hx : ∀ h : q < T.size, (T[q]).toNat = x) (hand : bits .and .u8 (x : Int) (y : Int) = (z : Int)) (hb : ((z : Int) != 0) = b) {Q : Exit → Act → World → Prop} (a : Act) (w : World) (v0 : w.cell? ⟨p, 0, none⟩ = some (.slice (some ⟨g, 0, none⟩) n c)) (hc : Calls Try.prog 30 #[.int .i64 j] w fun e w' => e = .returned (.int .u8 y) ∧ Step noF w w') (h1 : a.tmps.getD 1 undef = .string T) (h6 : a.tmps.getD 6 undef = .pointer (some ⟨p, 0, none⟩)) (h7 : a.tmps.getD 7 undef = .int .i64 j) (hat : ∀ jj ∈ deps ((Try.f23.body.bind (regionOps 9)).getD #[]) 10, ∀ dd vv, psrDl[jj]? = some (some dd) → (psrVals p g n c j q x y z T b)[jj]? = some vv → a.tmps.getD dd undef = vv) :
    wpOp Try.prog ((Try.f23.body.bind (regionOps 9)).getD #[]) Q 10 (fun a' w' => ∃ dd vv, psrDl[10]? = some (some dd) ∧ (psrVals p g n c j q x y z T b)[10]? = some vv ∧ a' = a.put (some dd) vv ∧ Step noF w w') a w := by
  have h30 : a.tmps.getD 30 undef = .int .i64 j := hat 9 (List.contains_iff_mem.1 (by kernel_rfl)) 30 _ rfl rfl
  refine val_calls psrOp10 rfl rfl Try.func30 (by kernel_rfl) (by kernel_rfl) (by simp only [List.map_toArray, List.map_cons, List.map_nil, Act.eval, h30]; rfl) ?_
  exact hc

theorem psrStep11 (p g n c j q x y z : Nat) (T : ByteArray) (b : Bool) (hqw : IntKind.i64.wrap (q : Int) = (q : Int)) (hq : (j : Int).tdiv 8 = (q : Int)) (hj : (j : Int) ≤ 1000) (hjn : (j : Int) < (n : Int)) (hjn2 : j < n) (hqt : (q : Int) < (T.size : Int)) (hqt2 : q < T.size) (hx : ∀ h : q < T.size, (T[q]).toNat = x) (hand : bits .and .u8 (x : Int) (y : Int) = (z : Int)) (hb : ((z : Int) != 0) = b) {Q : Exit → Act → World → Prop} (a : Act) (w : World) (v0 : w.cell? ⟨p, 0, none⟩ = some (.slice (some ⟨g, 0, none⟩) n c)) (hc : Calls Try.prog 30 #[.int .i64 j] w fun e w' => e = .returned (.int .u8 y) ∧ Step noF w w') (h1 : a.tmps.getD 1 undef = .string T) (h6 : a.tmps.getD 6 undef = .pointer (some ⟨p, 0, none⟩)) (h7 : a.tmps.getD 7 undef = .int .i64 j) (hat : ∀ jj ∈ deps ((Try.f23.body.bind (regionOps 9)).getD #[]) 11, ∀ dd vv, psrDl[jj]? = some (some dd) → (psrVals p g n c j q x y z T b)[jj]? = some vv → a.tmps.getD dd undef = vv) :
    wpOp Try.prog ((Try.f23.body.bind (regionOps 9)).getD #[]) Q 11 (fun a' w' => ∃ dd vv, psrDl[11]? = some (some dd) ∧ (psrVals p g n c j q x y z T b)[11]? = some vv ∧ a' = a.put (some dd) vv ∧ Step noF w w') a w := by
  have h29 : a.tmps.getD 29 undef = .int .u8 x := hat 8 (List.contains_iff_mem.1 (by kernel_rfl)) 29 _ rfl rfl
  have h31 : a.tmps.getD 31 undef = .int .u8 y := hat 10 (List.contains_iff_mem.1 (by kernel_rfl)) 31 _ rfl rfl
  refine val_runs psrOp11 rfl rfl ?_
  intro oo hoo
  simp only [execOp, hoo, Act.eval, Option.map_some, Option.map_none, h29, h31]
  go_simp

theorem psrStep12 (p g n c j q x y z : Nat) (T : ByteArray) (b : Bool) (hqw : IntKind.i64.wrap (q : Int) = (q : Int)) (hq : (j : Int).tdiv 8 = (q : Int)) (hj : (j : Int) ≤ 1000) (hjn : (j : Int) < (n : Int)) (hjn2 : j < n) (hqt : (q : Int) < (T.size : Int)) (hqt2 : q < T.size) (hx : ∀ h : q < T.size, (T[q]).toNat = x) (hand : bits .and .u8 (x : Int) (y : Int) = (z : Int)) (hb : ((z : Int) != 0) = b) {Q : Exit → Act → World → Prop} (a : Act) (w : World) (v0 : w.cell? ⟨p, 0, none⟩ = some (.slice (some ⟨g, 0, none⟩) n c)) (hc : Calls Try.prog 30 #[.int .i64 j] w fun e w' => e = .returned (.int .u8 y) ∧ Step noF w w') (h1 : a.tmps.getD 1 undef = .string T) (h6 : a.tmps.getD 6 undef = .pointer (some ⟨p, 0, none⟩)) (h7 : a.tmps.getD 7 undef = .int .i64 j) (hat : ∀ jj ∈ deps ((Try.f23.body.bind (regionOps 9)).getD #[]) 12, ∀ dd vv, psrDl[jj]? = some (some dd) → (psrVals p g n c j q x y z T b)[jj]? = some vv → a.tmps.getD dd undef = vv) :
    wpOp Try.prog ((Try.f23.body.bind (regionOps 9)).getD #[]) Q 12 (fun a' w' => ∃ dd vv, psrDl[12]? = some (some dd) ∧ (psrVals p g n c j q x y z T b)[12]? = some vv ∧ a' = a.put (some dd) vv ∧ Step noF w w') a w := by
  have h32 : a.tmps.getD 32 undef = .int .u8 z := hat 11 (List.contains_iff_mem.1 (by kernel_rfl)) 32 _ rfl rfl
  refine val_runs psrOp12 rfl rfl ?_
  intro oo hoo
  simp only [execOp, hoo, Act.eval, Option.map_some, Option.map_none, h32]
  go_simp

theorem psrStep13 (p g n c j q x y z : Nat) (T : ByteArray) (b : Bool) (hqw : IntKind.i64.wrap (q : Int) = (q : Int)) (hq : (j : Int).tdiv 8 = (q : Int)) (hj : (j : Int) ≤ 1000) (hjn : (j : Int) < (n : Int)) (hjn2 : j < n) (hqt : (q : Int) < (T.size : Int)) (hqt2 : q < T.size) (hx : ∀ h : q < T.size, (T[q]).toNat = x) (hand : bits .and .u8 (x : Int) (y : Int) = (z : Int)) (hb : ((z : Int) != 0) = b) {Q : Exit → Act → World → Prop} (a : Act) (w : World) (v0 : w.cell? ⟨p, 0, none⟩ = some (.slice (some ⟨g, 0, none⟩) n c)) (hc : Calls Try.prog 30 #[.int .i64 j] w fun e w' => e = .returned (.int .u8 y) ∧ Step noF w w') (h1 : a.tmps.getD 1 undef = .string T) (h6 : a.tmps.getD 6 undef = .pointer (some ⟨p, 0, none⟩)) (h7 : a.tmps.getD 7 undef = .int .i64 j) (hat : ∀ jj ∈ deps ((Try.f23.body.bind (regionOps 9)).getD #[]) 13, ∀ dd vv, psrDl[jj]? = some (some dd) → (psrVals p g n c j q x y z T b)[jj]? = some vv → a.tmps.getD dd undef = vv) :
    wpOp Try.prog ((Try.f23.body.bind (regionOps 9)).getD #[]) Q 13 (fun a' w' => ∃ dd vv, psrDl[13]? = some (some dd) ∧ (psrVals p g n c j q x y z T b)[13]? = some vv ∧ a' = a.put (some dd) vv ∧ Step noF w w') a w := by
  have h24 : a.tmps.getD 24 undef = .slice (some ⟨g, 0, none⟩) n c := hat 3 (List.contains_iff_mem.1 (by kernel_rfl)) 24 _ rfl rfl
  have h25 : a.tmps.getD 25 undef = .int .i64 j := hat 4 (List.contains_iff_mem.1 (by kernel_rfl)) 25 _ rfl rfl
  refine val_runs psrOp13 rfl rfl ?_
  intro oo hoo
  simp only [execOp, hoo, Act.eval, Option.map_some, Option.map_none, h24, h25]
  go_simp

theorem psr_last (p g n c j q x y z : Nat) (T : ByteArray) (b : Bool) {Q : Exit → Act → World → Prop} (ap : Act) (w : World) (hx : ap.tmps.getD 34 undef = .pointer (some ⟨g, j, none⟩)) (hy : ap.tmps.getD 33 undef = .bool b) (u : Value) (hu : w.cell? ⟨g, j, none⟩ = some u) (hf : w.frozen? ⟨g, j, none⟩ = false) (hK : Q .normal ap (w.setCell ⟨g, j, none⟩ (.bool b))) : wpOp Try.prog ((Try.f23.body.bind (regionOps 9)).getD #[]) Q 14 (fun a' w' => Q .normal a' w') ap w := by
  have hr : Skips Try.prog ap (Op.store 4 (Operand.tmp 34) (Operand.tmp 33)) w (w.setCell ⟨g, j, none⟩ (.bool b)) := by
    intro oo hoo
    simp only [execOp, hoo, Act.eval, hx, hy]
    go_simp
  exact op_skips psrOp14 hr hK

theorem psr_go (p g n c j q x y z : Nat) (T : ByteArray) (b : Bool) (hqw : IntKind.i64.wrap (q : Int) = (q : Int)) (hq : (j : Int).tdiv 8 = (q : Int)) (hj : (j : Int) ≤ 1000) (hjn : (j : Int) < (n : Int)) (hjn2 : j < n) (hqt : (q : Int) < (T.size : Int)) (hqt2 : q < T.size) (hx : ∀ h : q < T.size, (T[q]).toNat = x) (hand : bits .and .u8 (x : Int) (y : Int) = (z : Int)) (hb : ((z : Int) != 0) = b) {Q : Exit → Act → World → Prop} (a0 : Act) (w0 : World) (hsz : a0.tmps.size = 41) (h1 : a0.tmps.getD 1 undef = .string T) (h6 : a0.tmps.getD 6 undef = .pointer (some ⟨p, 0, none⟩)) (h7 : a0.tmps.getD 7 undef = .int .i64 j)
    (hw : ∀ w, Step noF w0 w → (w.cell? ⟨p, 0, none⟩ = some (.slice (some ⟨g, 0, none⟩) n c)) ∧ (Calls Try.prog 30 #[.int .i64 j] w fun e w' => e = .returned (.int .u8 y) ∧ Step noF w w') ∧ (∃ u, w.cell? ⟨g, j, none⟩ = some u) ∧ w.frozen? ⟨g, j, none⟩ = false)
    (hK : ∀ w, Step noF w0 w → Q .normal (putAll a0 psrDl (psrVals p g n c j q x y z T b)) (w.setCell ⟨g, j, none⟩ (.bool b))) : (Code.region 9 ((Try.f23.body.bind (regionOps 9)).getD #[]) true).wp Try.prog Q a0 w0 := by
  refine wp_region_vals noF (psrVals p g n c j q x y z T b) psrDl 14 psr_size (by kernel_rfl) psr_back psr_used psr_dl psr_nd (fun d h => by rw [hsz]; exact psr_lt d h) rfl rfl ?_ ?_
  · intro ix hix a w hs hfr hat
    obtain ⟨v0, hc, _, _⟩ := hw w hs
    have h1 := (hfr 1 (by decide)).trans h1
    have h6 := (hfr 6 (by decide)).trans h6
    have h7 := (hfr 7 (by decide)).trans h7
    match ix, hix with
    | 0, _ => exact psrStep0 p g n c j q x y z T b hqw hq hj hjn hjn2 hqt hqt2 hx hand hb a w v0 hc h1 h6 h7 hat
    | 1, _ => exact psrStep1 p g n c j q x y z T b hqw hq hj hjn hjn2 hqt hqt2 hx hand hb a w v0 hc h1 h6 h7 hat
    | 2, _ => exact psrStep2 p g n c j q x y z T b hqw hq hj hjn hjn2 hqt hqt2 hx hand hb a w v0 hc h1 h6 h7 hat
    | 3, _ => exact psrStep3 p g n c j q x y z T b hqw hq hj hjn hjn2 hqt hqt2 hx hand hb a w v0 hc h1 h6 h7 hat
    | 4, _ => exact psrStep4 p g n c j q x y z T b hqw hq hj hjn hjn2 hqt hqt2 hx hand hb a w v0 hc h1 h6 h7 hat
    | 5, _ => exact psrStep5 p g n c j q x y z T b hqw hq hj hjn hjn2 hqt hqt2 hx hand hb a w v0 hc h1 h6 h7 hat
    | 6, _ => exact psrStep6 p g n c j q x y z T b hqw hq hj hjn hjn2 hqt hqt2 hx hand hb a w v0 hc h1 h6 h7 hat
    | 7, _ => exact psrStep7 p g n c j q x y z T b hqw hq hj hjn hjn2 hqt hqt2 hx hand hb a w v0 hc h1 h6 h7 hat
    | 8, _ => exact psrStep8 p g n c j q x y z T b hqw hq hj hjn hjn2 hqt hqt2 hx hand hb a w v0 hc h1 h6 h7 hat
    | 9, _ => exact psrStep9 p g n c j q x y z T b hqw hq hj hjn hjn2 hqt hqt2 hx hand hb a w v0 hc h1 h6 h7 hat
    | 10, _ => exact psrStep10 p g n c j q x y z T b hqw hq hj hjn hjn2 hqt hqt2 hx hand hb a w v0 hc h1 h6 h7 hat
    | 11, _ => exact psrStep11 p g n c j q x y z T b hqw hq hj hjn hjn2 hqt hqt2 hx hand hb a w v0 hc h1 h6 h7 hat
    | 12, _ => exact psrStep12 p g n c j q x y z T b hqw hq hj hjn hjn2 hqt hqt2 hx hand hb a w v0 hc h1 h6 h7 hat
    | 13, _ => exact psrStep13 p g n c j q x y z T b hqw hq hj hjn hjn2 hqt hqt2 hx hand hb a w v0 hc h1 h6 h7 hat
    | k + 14, h => exact absurd h (by omega)
  · intro w hs
    obtain ⟨_, _, ⟨u, hu⟩, hf⟩ := hw w hs
    have hx : (putAll a0 psrDl (psrVals p g n c j q x y z T b)).tmps.getD 34 undef = .pointer (some ⟨g, j, none⟩) := (putAll_at psrDl (psrVals p g n c j q x y z T b) a0 13 34 _ psr_nd rfl rfl (by rw [hsz]; decide))
    have hy : (putAll a0 psrDl (psrVals p g n c j q x y z T b)).tmps.getD 33 undef = .bool b := (putAll_at psrDl (psrVals p g n c j q x y z T b) a0 12 33 _ psr_nd rfl rfl (by rw [hsz]; decide))
    exact psr_last p g n c j q x y z T b (putAll a0 psrDl (psrVals p g n c j q x y z T b)) w hx hy u hu hf (hK w hs)
end Go.Proofs.Ytdcomcpinlgpdaa
