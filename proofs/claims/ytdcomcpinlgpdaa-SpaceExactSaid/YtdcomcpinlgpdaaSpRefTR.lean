/-
  The region that draws in grangerref05.Text (number 6), operation by operation. Written by draw2.py.
-/
import Derived.Test.YtdcomcpinlgpdaaVals
import Derived.Test.YtdcomcpinlgpdaaSpRefA
namespace Go.Proofs.Ytdcomcpinlgpdaa
open Go.RowKit
set_option linter.unusedVariables false
set_option linter.unusedSimpArgs false


def rtrDl : List (Option Nat) := [some 20, some 21, some 22, some 23, some 24, some 25, some 26, some 27, some 28, some 29, some 30, some 31, some 32, none]
theorem rtr_dl : ((Try.f21.body.bind (regionOps 6)).getD #[]).toList.map (·.dst) = rtrDl := by kernel_rfl
theorem rtr_back : backB ((Try.f21.body.bind (regionOps 6)).getD #[]) = true := by kernel_rfl
theorem rtr_used : usedB ((Try.f21.body.bind (regionOps 6)).getD #[]) 13 = true := by kernel_rfl
theorem rtr_size : ((Try.f21.body.bind (regionOps 6)).getD #[]).size = 14 := by kernel_rfl
theorem rtr_nd : rtrDl.Pairwise (fun x y => x = none ∨ x ≠ y) := by decide
theorem rtr_lt (d : Nat) (h : some d ∈ rtrDl) : d < 35 := by
  have hh : rtrDl.all (fun o => o.all (fun d => decide (d < 35))) = true := by decide
  simpa using List.all_eq_true.1 hh _ h
def rtrVals (g m j q r x y z : Nat) : List Value := [.slice (some ⟨g, 0, none⟩) m m, .int .i64 j, .int .i64 q, .slice (some ⟨g, 0, none⟩) m m, .int .i64 j, .int .i64 q, .pointer (some ⟨g, q, none⟩), .int .u8 x, .int .i64 j, .int .i64 r, .int .u8 y, .int .u8 z, .pointer (some ⟨g, q, none⟩)]
theorem rtrOp0 : opIs ((Try.f21.body.bind (regionOps 6)).getD #[]) 0 (some 20) (Op.move (Operand.tmp 3)) none := opIs_of (by kernel_rfl)
theorem rtrOp1 : opIs ((Try.f21.body.bind (regionOps 6)).getD #[]) 1 (some 21) (Op.move (Operand.tmp 4)) none := opIs_of (by kernel_rfl)
theorem rtrOp2 : opIs ((Try.f21.body.bind (regionOps 6)).getD #[]) 2 (some 22) (Op.binOp BinOp.quo 3 (Operand.tmp 21) (Operand.const (Value.int IntKind.i64 8)) 3) none := opIs_of (by kernel_rfl)
theorem rtrOp3 : opIs ((Try.f21.body.bind (regionOps 6)).getD #[]) 3 (some 23) (Op.move (Operand.tmp 3)) none := opIs_of (by kernel_rfl)
theorem rtrOp4 : opIs ((Try.f21.body.bind (regionOps 6)).getD #[]) 4 (some 24) (Op.move (Operand.tmp 4)) none := opIs_of (by kernel_rfl)
theorem rtrOp5 : opIs ((Try.f21.body.bind (regionOps 6)).getD #[]) 5 (some 25) (Op.binOp BinOp.quo 3 (Operand.tmp 24) (Operand.const (Value.int IntKind.i64 8)) 3) none := opIs_of (by kernel_rfl)
theorem rtrOp6 : opIs ((Try.f21.body.bind (regionOps 6)).getD #[]) 6 (some 26) (Op.indexAddr 62 (Operand.tmp 23) (Operand.tmp 25)) none := opIs_of (by kernel_rfl)
theorem rtrOp7 : opIs ((Try.f21.body.bind (regionOps 6)).getD #[]) 7 (some 27) (Op.load 5 (Operand.tmp 26)) none := opIs_of (by kernel_rfl)
theorem rtrOp8 : opIs ((Try.f21.body.bind (regionOps 6)).getD #[]) 8 (some 28) (Op.move (Operand.tmp 4)) none := opIs_of (by kernel_rfl)
theorem rtrOp9 : opIs ((Try.f21.body.bind (regionOps 6)).getD #[]) 9 (some 29) (Op.binOp BinOp.rem 3 (Operand.tmp 28) (Operand.const (Value.int IntKind.i64 8)) 3) none := opIs_of (by kernel_rfl)
theorem rtrOp10 : opIs ((Try.f21.body.bind (regionOps 6)).getD #[]) 10 (some 30) (Op.binOp BinOp.shr 5 (Operand.const (Value.int IntKind.u8 128)) (Operand.tmp 29) 3) none := opIs_of (by kernel_rfl)
theorem rtrOp11 : opIs ((Try.f21.body.bind (regionOps 6)).getD #[]) 11 (some 31) (Op.binOp BinOp.add 5 (Operand.tmp 27) (Operand.tmp 30) 5) none := opIs_of (by kernel_rfl)
theorem rtrOp12 : opIs ((Try.f21.body.bind (regionOps 6)).getD #[]) 12 (some 32) (Op.indexAddr 62 (Operand.tmp 20) (Operand.tmp 22)) none := opIs_of (by kernel_rfl)
theorem rtrOp13 : opIs ((Try.f21.body.bind (regionOps 6)).getD #[]) 13 none (Op.store 5 (Operand.tmp 32) (Operand.tmp 31)) none := opIs_of (by kernel_rfl)

theorem rtrStep0 (g m j q r x y z : Nat) (hqw : IntKind.i64.wrap (q : Int) = (q : Int)) (hq : (j : Int).tdiv 8 = (q : Int)) (hr : (j : Int).tmod 8 = (r : Int)) (hr8 : r < 8) (hy : (128 : Int) / 2 ^ r = (y : Int)) (hj : (j : Int) ≤ 1000) (hqm : (q : Int) < (m : Int)) (hqm2 : q < m) (hz : IntKind.u8.wrap ((x : Int) + (y : Int)) = (z : Int)) {Q : Exit → Act → World → Prop} (a : Act) (w : World) (v0 : w.cell? ⟨g, q, none⟩ = some (.int .u8 x)) (h3 : a.tmps.getD 3 undef = .slice (some ⟨g, 0, none⟩) m m) (h4 : a.tmps.getD 4 undef = .int .i64 j) (hat : ∀ jj ∈ deps ((Try.f21.body.bind (regionOps 6)).getD #[]) 0, ∀ dd vv, rtrDl[jj]? = some (some dd) → (rtrVals g m j q r x y z)[jj]? = some vv → a.tmps.getD dd undef = vv) :
    wpOp Try.prog ((Try.f21.body.bind (regionOps 6)).getD #[]) Q 0 (fun a' w' => ∃ dd vv, rtrDl[0]? = some (some dd) ∧ (rtrVals g m j q r x y z)[0]? = some vv ∧ a' = a.put (some dd) vv ∧ Step noF w w') a w := by
  exact val_runs rtrOp0 rfl rfl (runs_move (show a.eval _ = _ from h3))

theorem rtrStep1 (g m j q r x y z : Nat) (hqw : IntKind.i64.wrap (q : Int) = (q : Int)) (hq : (j : Int).tdiv 8 = (q : Int)) (hr : (j : Int).tmod 8 = (r : Int)) (hr8 : r < 8) (hy : (128 : Int) / 2 ^ r = (y : Int)) (hj : (j : Int) ≤ 1000) (hqm : (q : Int) < (m : Int)) (hqm2 : q < m) (hz : IntKind.u8.wrap ((x : Int) + (y : Int)) = (z : Int)) {Q : Exit → Act → World → Prop} (a : Act) (w : World) (v0 : w.cell? ⟨g, q, none⟩ = some (.int .u8 x)) (h3 : a.tmps.getD 3 undef = .slice (some ⟨g, 0, none⟩) m m) (h4 : a.tmps.getD 4 undef = .int .i64 j) (hat : ∀ jj ∈ deps ((Try.f21.body.bind (regionOps 6)).getD #[]) 1, ∀ dd vv, rtrDl[jj]? = some (some dd) → (rtrVals g m j q r x y z)[jj]? = some vv → a.tmps.getD dd undef = vv) :
    wpOp Try.prog ((Try.f21.body.bind (regionOps 6)).getD #[]) Q 1 (fun a' w' => ∃ dd vv, rtrDl[1]? = some (some dd) ∧ (rtrVals g m j q r x y z)[1]? = some vv ∧ a' = a.put (some dd) vv ∧ Step noF w w') a w := by
  exact val_runs rtrOp1 rfl rfl (runs_move (show a.eval _ = _ from h4))

theorem rtrStep2 (g m j q r x y z : Nat) (hqw : IntKind.i64.wrap (q : Int) = (q : Int)) (hq : (j : Int).tdiv 8 = (q : Int)) (hr : (j : Int).tmod 8 = (r : Int)) (hr8 : r < 8) (hy : (128 : Int) / 2 ^ r = (y : Int)) (hj : (j : Int) ≤ 1000) (hqm : (q : Int) < (m : Int)) (hqm2 : q < m) (hz : IntKind.u8.wrap ((x : Int) + (y : Int)) = (z : Int)) {Q : Exit → Act → World → Prop} (a : Act) (w : World) (v0 : w.cell? ⟨g, q, none⟩ = some (.int .u8 x)) (h3 : a.tmps.getD 3 undef = .slice (some ⟨g, 0, none⟩) m m) (h4 : a.tmps.getD 4 undef = .int .i64 j) (hat : ∀ jj ∈ deps ((Try.f21.body.bind (regionOps 6)).getD #[]) 2, ∀ dd vv, rtrDl[jj]? = some (some dd) → (rtrVals g m j q r x y z)[jj]? = some vv → a.tmps.getD dd undef = vv) :
    wpOp Try.prog ((Try.f21.body.bind (regionOps 6)).getD #[]) Q 2 (fun a' w' => ∃ dd vv, rtrDl[2]? = some (some dd) ∧ (rtrVals g m j q r x y z)[2]? = some vv ∧ a' = a.put (some dd) vv ∧ Step noF w w') a w := by
  have h21 : a.tmps.getD 21 undef = .int .i64 j := hat 1 (List.contains_iff_mem.1 (by kernel_rfl)) 21 _ rfl rfl
  refine val_runs rtrOp2 rfl rfl ?_
  intro oo hoo
  simp only [execOp, hoo, Act.eval, Option.map_some, Option.map_none, h21]
  go_simp

theorem rtrStep3 (g m j q r x y z : Nat) (hqw : IntKind.i64.wrap (q : Int) = (q : Int)) (hq : (j : Int).tdiv 8 = (q : Int)) (hr : (j : Int).tmod 8 = (r : Int)) (hr8 : r < 8) (hy : (128 : Int) / 2 ^ r = (y : Int)) (hj : (j : Int) ≤ 1000) (hqm : (q : Int) < (m : Int)) (hqm2 : q < m) (hz : IntKind.u8.wrap ((x : Int) + (y : Int)) = (z : Int)) {Q : Exit → Act → World → Prop} (a : Act) (w : World) (v0 : w.cell? ⟨g, q, none⟩ = some (.int .u8 x)) (h3 : a.tmps.getD 3 undef = .slice (some ⟨g, 0, none⟩) m m) (h4 : a.tmps.getD 4 undef = .int .i64 j) (hat : ∀ jj ∈ deps ((Try.f21.body.bind (regionOps 6)).getD #[]) 3, ∀ dd vv, rtrDl[jj]? = some (some dd) → (rtrVals g m j q r x y z)[jj]? = some vv → a.tmps.getD dd undef = vv) :
    wpOp Try.prog ((Try.f21.body.bind (regionOps 6)).getD #[]) Q 3 (fun a' w' => ∃ dd vv, rtrDl[3]? = some (some dd) ∧ (rtrVals g m j q r x y z)[3]? = some vv ∧ a' = a.put (some dd) vv ∧ Step noF w w') a w := by
  exact val_runs rtrOp3 rfl rfl (runs_move (show a.eval _ = _ from h3))

theorem rtrStep4 (g m j q r x y z : Nat) (hqw : IntKind.i64.wrap (q : Int) = (q : Int)) (hq : (j : Int).tdiv 8 = (q : Int)) (hr : (j : Int).tmod 8 = (r : Int)) (hr8 : r < 8) (hy : (128 : Int) / 2 ^ r = (y : Int)) (hj : (j : Int) ≤ 1000) (hqm : (q : Int) < (m : Int)) (hqm2 : q < m) (hz : IntKind.u8.wrap ((x : Int) + (y : Int)) = (z : Int)) {Q : Exit → Act → World → Prop} (a : Act) (w : World) (v0 : w.cell? ⟨g, q, none⟩ = some (.int .u8 x)) (h3 : a.tmps.getD 3 undef = .slice (some ⟨g, 0, none⟩) m m) (h4 : a.tmps.getD 4 undef = .int .i64 j) (hat : ∀ jj ∈ deps ((Try.f21.body.bind (regionOps 6)).getD #[]) 4, ∀ dd vv, rtrDl[jj]? = some (some dd) → (rtrVals g m j q r x y z)[jj]? = some vv → a.tmps.getD dd undef = vv) :
    wpOp Try.prog ((Try.f21.body.bind (regionOps 6)).getD #[]) Q 4 (fun a' w' => ∃ dd vv, rtrDl[4]? = some (some dd) ∧ (rtrVals g m j q r x y z)[4]? = some vv ∧ a' = a.put (some dd) vv ∧ Step noF w w') a w := by
  exact val_runs rtrOp4 rfl rfl (runs_move (show a.eval _ = _ from h4))

theorem rtrStep5 (g m j q r x y z : Nat) (hqw : IntKind.i64.wrap (q : Int) = (q : Int)) (hq : (j : Int).tdiv 8 = (q : Int)) (hr : (j : Int).tmod 8 = (r : Int)) (hr8 : r < 8) (hy : (128 : Int) / 2 ^ r = (y : Int)) (hj : (j : Int) ≤ 1000) (hqm : (q : Int) < (m : Int)) (hqm2 : q < m) (hz : IntKind.u8.wrap ((x : Int) + (y : Int)) = (z : Int)) {Q : Exit → Act → World → Prop} (a : Act) (w : World) (v0 : w.cell? ⟨g, q, none⟩ = some (.int .u8 x)) (h3 : a.tmps.getD 3 undef = .slice (some ⟨g, 0, none⟩) m m) (h4 : a.tmps.getD 4 undef = .int .i64 j) (hat : ∀ jj ∈ deps ((Try.f21.body.bind (regionOps 6)).getD #[]) 5, ∀ dd vv, rtrDl[jj]? = some (some dd) → (rtrVals g m j q r x y z)[jj]? = some vv → a.tmps.getD dd undef = vv) :
    wpOp Try.prog ((Try.f21.body.bind (regionOps 6)).getD #[]) Q 5 (fun a' w' => ∃ dd vv, rtrDl[5]? = some (some dd) ∧ (rtrVals g m j q r x y z)[5]? = some vv ∧ a' = a.put (some dd) vv ∧ Step noF w w') a w := by
  have h24 : a.tmps.getD 24 undef = .int .i64 j := hat 4 (List.contains_iff_mem.1 (by kernel_rfl)) 24 _ rfl rfl
  refine val_runs rtrOp5 rfl rfl ?_
  intro oo hoo
  simp only [execOp, hoo, Act.eval, Option.map_some, Option.map_none, h24]
  go_simp

theorem rtrStep6 (g m j q r x y z : Nat) (hqw : IntKind.i64.wrap (q : Int) = (q : Int)) (hq : (j : Int).tdiv 8 = (q : Int)) (hr : (j : Int).tmod 8 = (r : Int)) (hr8 : r < 8) (hy : (128 : Int) / 2 ^ r = (y : Int)) (hj : (j : Int) ≤ 1000) (hqm : (q : Int) < (m : Int)) (hqm2 : q < m) (hz : IntKind.u8.wrap ((x : Int) + (y : Int)) = (z : Int)) {Q : Exit → Act → World → Prop} (a : Act) (w : World) (v0 : w.cell? ⟨g, q, none⟩ = some (.int .u8 x)) (h3 : a.tmps.getD 3 undef = .slice (some ⟨g, 0, none⟩) m m) (h4 : a.tmps.getD 4 undef = .int .i64 j) (hat : ∀ jj ∈ deps ((Try.f21.body.bind (regionOps 6)).getD #[]) 6, ∀ dd vv, rtrDl[jj]? = some (some dd) → (rtrVals g m j q r x y z)[jj]? = some vv → a.tmps.getD dd undef = vv) :
    wpOp Try.prog ((Try.f21.body.bind (regionOps 6)).getD #[]) Q 6 (fun a' w' => ∃ dd vv, rtrDl[6]? = some (some dd) ∧ (rtrVals g m j q r x y z)[6]? = some vv ∧ a' = a.put (some dd) vv ∧ Step noF w w') a w := by
  have h23 : a.tmps.getD 23 undef = .slice (some ⟨g, 0, none⟩) m m := hat 3 (List.contains_iff_mem.1 (by kernel_rfl)) 23 _ rfl rfl
  have h25 : a.tmps.getD 25 undef = .int .i64 q := hat 5 (List.contains_iff_mem.1 (by kernel_rfl)) 25 _ rfl rfl
  refine val_runs rtrOp6 rfl rfl ?_
  intro oo hoo
  simp only [execOp, hoo, Act.eval, Option.map_some, Option.map_none, h23, h25]
  go_simp

theorem rtrStep7 (g m j q r x y z : Nat) (hqw : IntKind.i64.wrap (q : Int) = (q : Int)) (hq : (j : Int).tdiv 8 = (q : Int)) (hr : (j : Int).tmod 8 = (r : Int)) (hr8 : r < 8) (hy : (128 : Int) / 2 ^ r = (y : Int)) (hj : (j : Int) ≤ 1000) (hqm : (q : Int) < (m : Int)) (hqm2 : q < m) (hz : IntKind.u8.wrap ((x : Int) + (y : Int)) = (z : Int)) {Q : Exit → Act → World → Prop} (a : Act) (w : World) (v0 : w.cell? ⟨g, q, none⟩ = some (.int .u8 x)) (h3 : a.tmps.getD 3 undef = .slice (some ⟨g, 0, none⟩) m m) (h4 : a.tmps.getD 4 undef = .int .i64 j) (hat : ∀ jj ∈ deps ((Try.f21.body.bind (regionOps 6)).getD #[]) 7, ∀ dd vv, rtrDl[jj]? = some (some dd) → (rtrVals g m j q r x y z)[jj]? = some vv → a.tmps.getD dd undef = vv) :
    wpOp Try.prog ((Try.f21.body.bind (regionOps 6)).getD #[]) Q 7 (fun a' w' => ∃ dd vv, rtrDl[7]? = some (some dd) ∧ (rtrVals g m j q r x y z)[7]? = some vv ∧ a' = a.put (some dd) vv ∧ Step noF w w') a w := by
  have h26 : a.tmps.getD 26 undef = .pointer (some ⟨g, q, none⟩) := hat 6 (List.contains_iff_mem.1 (by kernel_rfl)) 26 _ rfl rfl
  refine val_runs rtrOp7 rfl rfl ?_
  intro oo hoo
  simp only [execOp, hoo, Act.eval, Option.map_some, Option.map_none, h26]
  go_simp

theorem rtrStep8 (g m j q r x y z : Nat) (hqw : IntKind.i64.wrap (q : Int) = (q : Int)) (hq : (j : Int).tdiv 8 = (q : Int)) (hr : (j : Int).tmod 8 = (r : Int)) (hr8 : r < 8) (hy : (128 : Int) / 2 ^ r = (y : Int)) (hj : (j : Int) ≤ 1000) (hqm : (q : Int) < (m : Int)) (hqm2 : q < m) (hz : IntKind.u8.wrap ((x : Int) + (y : Int)) = (z : Int)) {Q : Exit → Act → World → Prop} (a : Act) (w : World) (v0 : w.cell? ⟨g, q, none⟩ = some (.int .u8 x)) (h3 : a.tmps.getD 3 undef = .slice (some ⟨g, 0, none⟩) m m) (h4 : a.tmps.getD 4 undef = .int .i64 j) (hat : ∀ jj ∈ deps ((Try.f21.body.bind (regionOps 6)).getD #[]) 8, ∀ dd vv, rtrDl[jj]? = some (some dd) → (rtrVals g m j q r x y z)[jj]? = some vv → a.tmps.getD dd undef = vv) :
    wpOp Try.prog ((Try.f21.body.bind (regionOps 6)).getD #[]) Q 8 (fun a' w' => ∃ dd vv, rtrDl[8]? = some (some dd) ∧ (rtrVals g m j q r x y z)[8]? = some vv ∧ a' = a.put (some dd) vv ∧ Step noF w w') a w := by
  exact val_runs rtrOp8 rfl rfl (runs_move (show a.eval _ = _ from h4))

theorem rtrStep9 (g m j q r x y z : Nat) (hqw : IntKind.i64.wrap (q : Int) = (q : Int)) (hq : (j : Int).tdiv 8 = (q : Int)) (hr : (j : Int).tmod 8 = (r : Int)) (hr8 : r < 8) (hy : (128 : Int) / 2 ^ r = (y : Int)) (hj : (j : Int) ≤ 1000) (hqm : (q : Int) < (m : Int)) (hqm2 : q < m) (hz : IntKind.u8.wrap ((x : Int) + (y : Int)) = (z : Int)) {Q : Exit → Act → World → Prop} (a : Act) (w : World) (v0 : w.cell? ⟨g, q, none⟩ = some (.int .u8 x)) (h3 : a.tmps.getD 3 undef = .slice (some ⟨g, 0, none⟩) m m) (h4 : a.tmps.getD 4 undef = .int .i64 j) (hat : ∀ jj ∈ deps ((Try.f21.body.bind (regionOps 6)).getD #[]) 9, ∀ dd vv, rtrDl[jj]? = some (some dd) → (rtrVals g m j q r x y z)[jj]? = some vv → a.tmps.getD dd undef = vv) :
    wpOp Try.prog ((Try.f21.body.bind (regionOps 6)).getD #[]) Q 9 (fun a' w' => ∃ dd vv, rtrDl[9]? = some (some dd) ∧ (rtrVals g m j q r x y z)[9]? = some vv ∧ a' = a.put (some dd) vv ∧ Step noF w w') a w := by
  have h28 : a.tmps.getD 28 undef = .int .i64 j := hat 8 (List.contains_iff_mem.1 (by kernel_rfl)) 28 _ rfl rfl
  refine val_runs rtrOp9 rfl rfl ?_
  intro oo hoo
  simp only [execOp, hoo, Act.eval, Option.map_some, Option.map_none, h28]
  go_simp

theorem rtrStep10 (g m j q r x y z : Nat) (hqw : IntKind.i64.wrap (q : Int) = (q : Int)) (hq : (j : Int).tdiv 8 = (q : Int)) (hr : (j : Int).tmod 8 = (r : Int)) (hr8 : r < 8) (hy : (128 : Int) / 2 ^ r = (y : Int)) (hj : (j : Int) ≤ 1000) (hqm : (q : Int) < (m : Int)) (hqm2 : q < m) (hz : IntKind.u8.wrap ((x : Int) + (y : Int)) = (z : Int)) {Q : Exit → Act → World → Prop} (a : Act) (w : World) (v0 : w.cell? ⟨g, q, none⟩ = some (.int .u8 x)) (h3 : a.tmps.getD 3 undef = .slice (some ⟨g, 0, none⟩) m m) (h4 : a.tmps.getD 4 undef = .int .i64 j) (hat : ∀ jj ∈ deps ((Try.f21.body.bind (regionOps 6)).getD #[]) 10, ∀ dd vv, rtrDl[jj]? = some (some dd) → (rtrVals g m j q r x y z)[jj]? = some vv → a.tmps.getD dd undef = vv) :
    wpOp Try.prog ((Try.f21.body.bind (regionOps 6)).getD #[]) Q 10 (fun a' w' => ∃ dd vv, rtrDl[10]? = some (some dd) ∧ (rtrVals g m j q r x y z)[10]? = some vv ∧ a' = a.put (some dd) vv ∧ Step noF w w') a w := by
  have h29 : a.tmps.getD 29 undef = .int .i64 r := hat 9 (List.contains_iff_mem.1 (by kernel_rfl)) 29 _ rfl rfl
  refine val_runs rtrOp10 rfl rfl ?_
  intro oo hoo
  simp only [execOp, hoo, Act.eval, Option.map_some, Option.map_none, h29]
  go_simp

theorem rtrStep11 (g m j q r x y z : Nat) (hqw : IntKind.i64.wrap (q : Int) = (q : Int)) (hq : (j : Int).tdiv 8 = (q : Int)) (hr : (j : Int).tmod 8 = (r : Int)) (hr8 : r < 8) (hy : (128 : Int) / 2 ^ r = (y : Int)) (hj : (j : Int) ≤ 1000) (hqm : (q : Int) < (m : Int)) (hqm2 : q < m) (hz : IntKind.u8.wrap ((x : Int) + (y : Int)) = (z : Int)) {Q : Exit → Act → World → Prop} (a : Act) (w : World) (v0 : w.cell? ⟨g, q, none⟩ = some (.int .u8 x)) (h3 : a.tmps.getD 3 undef = .slice (some ⟨g, 0, none⟩) m m) (h4 : a.tmps.getD 4 undef = .int .i64 j) (hat : ∀ jj ∈ deps ((Try.f21.body.bind (regionOps 6)).getD #[]) 11, ∀ dd vv, rtrDl[jj]? = some (some dd) → (rtrVals g m j q r x y z)[jj]? = some vv → a.tmps.getD dd undef = vv) :
    wpOp Try.prog ((Try.f21.body.bind (regionOps 6)).getD #[]) Q 11 (fun a' w' => ∃ dd vv, rtrDl[11]? = some (some dd) ∧ (rtrVals g m j q r x y z)[11]? = some vv ∧ a' = a.put (some dd) vv ∧ Step noF w w') a w := by
  have h27 : a.tmps.getD 27 undef = .int .u8 x := hat 7 (List.contains_iff_mem.1 (by kernel_rfl)) 27 _ rfl rfl
  have h30 : a.tmps.getD 30 undef = .int .u8 y := hat 10 (List.contains_iff_mem.1 (by kernel_rfl)) 30 _ rfl rfl
  refine val_runs rtrOp11 rfl rfl ?_
  intro oo hoo
  simp only [execOp, hoo, Act.eval, Option.map_some, Option.map_none, h27, h30]
  go_simp

theorem rtrStep12 (g m j q r x y z : Nat) (hqw : IntKind.i64.wrap (q : Int) = (q : Int)) (hq : (j : Int).tdiv 8 = (q : Int)) (hr : (j : Int).tmod 8 = (r : Int)) (hr8 : r < 8) (hy : (128 : Int) / 2 ^ r = (y : Int)) (hj : (j : Int) ≤ 1000) (hqm : (q : Int) < (m : Int)) (hqm2 : q < m) (hz : IntKind.u8.wrap ((x : Int) + (y : Int)) = (z : Int)) {Q : Exit → Act → World → Prop} (a : Act) (w : World) (v0 : w.cell? ⟨g, q, none⟩ = some (.int .u8 x)) (h3 : a.tmps.getD 3 undef = .slice (some ⟨g, 0, none⟩) m m) (h4 : a.tmps.getD 4 undef = .int .i64 j) (hat : ∀ jj ∈ deps ((Try.f21.body.bind (regionOps 6)).getD #[]) 12, ∀ dd vv, rtrDl[jj]? = some (some dd) → (rtrVals g m j q r x y z)[jj]? = some vv → a.tmps.getD dd undef = vv) :
    wpOp Try.prog ((Try.f21.body.bind (regionOps 6)).getD #[]) Q 12 (fun a' w' => ∃ dd vv, rtrDl[12]? = some (some dd) ∧ (rtrVals g m j q r x y z)[12]? = some vv ∧ a' = a.put (some dd) vv ∧ Step noF w w') a w := by
  have h20 : a.tmps.getD 20 undef = .slice (some ⟨g, 0, none⟩) m m := hat 0 (List.contains_iff_mem.1 (by kernel_rfl)) 20 _ rfl rfl
  have h22 : a.tmps.getD 22 undef = .int .i64 q := hat 2 (List.contains_iff_mem.1 (by kernel_rfl)) 22 _ rfl rfl
  refine val_runs rtrOp12 rfl rfl ?_
  intro oo hoo
  simp only [execOp, hoo, Act.eval, Option.map_some, Option.map_none, h20, h22]
  go_simp

theorem rtr_last (g m j q r x y z : Nat) {Q : Exit → Act → World → Prop} (ap : Act) (w : World) (hx : ap.tmps.getD 32 undef = .pointer (some ⟨g, q, none⟩)) (hy : ap.tmps.getD 31 undef = .int .u8 z) (u : Value) (hu : w.cell? ⟨g, q, none⟩ = some u) (hf : w.frozen? ⟨g, q, none⟩ = false) (hK : Q .normal ap (w.setCell ⟨g, q, none⟩ (.int .u8 z))) : wpOp Try.prog ((Try.f21.body.bind (regionOps 6)).getD #[]) Q 13 (fun a' w' => Q .normal a' w') ap w := by
  have hr : Skips Try.prog ap (Op.store 5 (Operand.tmp 32) (Operand.tmp 31)) w (w.setCell ⟨g, q, none⟩ (.int .u8 z)) := by
    intro oo hoo
    simp only [execOp, hoo, Act.eval, hx, hy]
    go_simp
  exact op_skips rtrOp13 hr hK

theorem rtr_go (g m j q r x y z : Nat) (hqw : IntKind.i64.wrap (q : Int) = (q : Int)) (hq : (j : Int).tdiv 8 = (q : Int)) (hr : (j : Int).tmod 8 = (r : Int)) (hr8 : r < 8) (hy : (128 : Int) / 2 ^ r = (y : Int)) (hj : (j : Int) ≤ 1000) (hqm : (q : Int) < (m : Int)) (hqm2 : q < m) (hz : IntKind.u8.wrap ((x : Int) + (y : Int)) = (z : Int)) {Q : Exit → Act → World → Prop} (a0 : Act) (w0 : World) (hsz : a0.tmps.size = 35) (h3 : a0.tmps.getD 3 undef = .slice (some ⟨g, 0, none⟩) m m) (h4 : a0.tmps.getD 4 undef = .int .i64 j)
    (hw : ∀ w, Step noF w0 w → (w.cell? ⟨g, q, none⟩ = some (.int .u8 x)) ∧ (∃ u, w.cell? ⟨g, q, none⟩ = some u) ∧ w.frozen? ⟨g, q, none⟩ = false)
    (hK : ∀ w, Step noF w0 w → Q .normal (putAll a0 rtrDl (rtrVals g m j q r x y z)) (w.setCell ⟨g, q, none⟩ (.int .u8 z))) : (Code.region 6 ((Try.f21.body.bind (regionOps 6)).getD #[]) true).wp Try.prog Q a0 w0 := by
  refine wp_region_vals noF (rtrVals g m j q r x y z) rtrDl 13 rtr_size (by kernel_rfl) rtr_back rtr_used rtr_dl rtr_nd (fun d h => by rw [hsz]; exact rtr_lt d h) rfl rfl ?_ ?_
  · intro ix hix a w hs hfr hat
    obtain ⟨v0, _, _⟩ := hw w hs
    have h3 := (hfr 3 (by decide)).trans h3
    have h4 := (hfr 4 (by decide)).trans h4
    match ix, hix with
    | 0, _ => exact rtrStep0 g m j q r x y z hqw hq hr hr8 hy hj hqm hqm2 hz a w v0 h3 h4 hat
    | 1, _ => exact rtrStep1 g m j q r x y z hqw hq hr hr8 hy hj hqm hqm2 hz a w v0 h3 h4 hat
    | 2, _ => exact rtrStep2 g m j q r x y z hqw hq hr hr8 hy hj hqm hqm2 hz a w v0 h3 h4 hat
    | 3, _ => exact rtrStep3 g m j q r x y z hqw hq hr hr8 hy hj hqm hqm2 hz a w v0 h3 h4 hat
    | 4, _ => exact rtrStep4 g m j q r x y z hqw hq hr hr8 hy hj hqm hqm2 hz a w v0 h3 h4 hat
    | 5, _ => exact rtrStep5 g m j q r x y z hqw hq hr hr8 hy hj hqm hqm2 hz a w v0 h3 h4 hat
    | 6, _ => exact rtrStep6 g m j q r x y z hqw hq hr hr8 hy hj hqm hqm2 hz a w v0 h3 h4 hat
    | 7, _ => exact rtrStep7 g m j q r x y z hqw hq hr hr8 hy hj hqm hqm2 hz a w v0 h3 h4 hat
    | 8, _ => exact rtrStep8 g m j q r x y z hqw hq hr hr8 hy hj hqm hqm2 hz a w v0 h3 h4 hat
    | 9, _ => exact rtrStep9 g m j q r x y z hqw hq hr hr8 hy hj hqm hqm2 hz a w v0 h3 h4 hat
    | 10, _ => exact rtrStep10 g m j q r x y z hqw hq hr hr8 hy hj hqm hqm2 hz a w v0 h3 h4 hat
    | 11, _ => exact rtrStep11 g m j q r x y z hqw hq hr hr8 hy hj hqm hqm2 hz a w v0 h3 h4 hat
    | 12, _ => exact rtrStep12 g m j q r x y z hqw hq hr hr8 hy hj hqm hqm2 hz a w v0 h3 h4 hat
    | k + 13, h => exact absurd h (by omega)
  · intro w hs
    obtain ⟨_, ⟨u, hu⟩, hf⟩ := hw w hs
    have hx : (putAll a0 rtrDl (rtrVals g m j q r x y z)).tmps.getD 32 undef = .pointer (some ⟨g, q, none⟩) := (putAll_at rtrDl (rtrVals g m j q r x y z) a0 12 32 _ rtr_nd rfl rfl (by rw [hsz]; decide))
    have hy : (putAll a0 rtrDl (rtrVals g m j q r x y z)).tmps.getD 31 undef = .int .u8 z := (putAll_at rtrDl (rtrVals g m j q r x y z) a0 11 31 _ rtr_nd rfl rfl (by rw [hsz]; decide))
    exact rtr_last g m j q r x y z (putAll a0 rtrDl (rtrVals g m j q r x y z)) w hx hy u hu hf (hK w hs)
end Go.Proofs.Ytdcomcpinlgpdaa
