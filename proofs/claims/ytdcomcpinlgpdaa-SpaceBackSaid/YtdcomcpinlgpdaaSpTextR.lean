/-
  The region that draws in space.Space.Text (number 6), operation by operation. Written by draw2.py.
-/
import Derived.Test.YtdcomcpinlgpdaaVals
import Derived.Test.YtdcomcpinlgpdaaSpE
namespace Go.Proofs.Ytdcomcpinlgpdaa
open Go.RowKit
set_option linter.unusedVariables false
set_option linter.unusedSimpArgs false


def txrDl : List (Option Nat) := [some 17, some 18, some 19, some 20, some 21, some 22, some 23, some 24, some 25, none]
theorem txr_dl : ((Try.f20.body.bind (regionOps 6)).getD #[]).toList.map (·.dst) = txrDl := by kernel_rfl
theorem txr_back : backB ((Try.f20.body.bind (regionOps 6)).getD #[]) = true := by kernel_rfl
theorem txr_used : usedB ((Try.f20.body.bind (regionOps 6)).getD #[]) 9 = true := by kernel_rfl
theorem txr_size : ((Try.f20.body.bind (regionOps 6)).getD #[]).size = 10 := by kernel_rfl
theorem txr_nd : txrDl.Pairwise (fun x y => x = none ∨ x ≠ y) := by decide
theorem txr_lt (d : Nat) (h : some d ∈ txrDl) : d < 29 := by
  have hh : txrDl.all (fun o => o.all (fun d => decide (d < 29))) = true := by decide
  simpa using List.all_eq_true.1 hh _ h
def txrVals (g m j q x y z : Nat) : List Value := [.slice (some ⟨g, 0, none⟩) m m, .int .i64 j, .int .i64 q, .pointer (some ⟨g, q, none⟩), .int .u8 x, .int .i64 j, .int .u8 y, .int .u8 z, .pointer (some ⟨g, q, none⟩)]
theorem txrOp0 : opIs ((Try.f20.body.bind (regionOps 6)).getD #[]) 0 (some 17) (Op.move (Operand.tmp 3)) none := opIs_of (by kernel_rfl)
theorem txrOp1 : opIs ((Try.f20.body.bind (regionOps 6)).getD #[]) 1 (some 18) (Op.move (Operand.tmp 4)) none := opIs_of (by kernel_rfl)
theorem txrOp2 : opIs ((Try.f20.body.bind (regionOps 6)).getD #[]) 2 (some 19) (Op.binOp BinOp.quo 3 (Operand.tmp 18) (Operand.const (Value.int IntKind.i64 8)) 3) none := opIs_of (by kernel_rfl)
theorem txrOp3 : opIs ((Try.f20.body.bind (regionOps 6)).getD #[]) 3 (some 20) (Op.indexAddr 62 (Operand.tmp 17) (Operand.tmp 19)) none := opIs_of (by kernel_rfl)
theorem txrOp4 : opIs ((Try.f20.body.bind (regionOps 6)).getD #[]) 4 (some 21) (Op.load 5 (Operand.tmp 20)) none := opIs_of (by kernel_rfl)
theorem txrOp5 : opIs ((Try.f20.body.bind (regionOps 6)).getD #[]) 5 (some 22) (Op.move (Operand.tmp 4)) none := opIs_of (by kernel_rfl)
theorem txrOp6 : opIs ((Try.f20.body.bind (regionOps 6)).getD #[]) 6 (some 23) (Op.call { callee := Callee.value (Operand.func 30), args := #[Operand.tmp 22], argTypes := #[3] }) none := opIs_of (by kernel_rfl)
theorem txrOp7 : opIs ((Try.f20.body.bind (regionOps 6)).getD #[]) 7 (some 24) (Op.binOp BinOp.or 5 (Operand.tmp 21) (Operand.tmp 23) 5) none := opIs_of (by kernel_rfl)
theorem txrOp8 : opIs ((Try.f20.body.bind (regionOps 6)).getD #[]) 8 (some 25) (Op.indexAddr 62 (Operand.tmp 17) (Operand.tmp 19)) none := opIs_of (by kernel_rfl)
theorem txrOp9 : opIs ((Try.f20.body.bind (regionOps 6)).getD #[]) 9 none (Op.store 5 (Operand.tmp 25) (Operand.tmp 24)) none := opIs_of (by kernel_rfl)

theorem txrStep0 (g m j q x y z : Nat) (hqw : IntKind.i64.wrap (q : Int) = (q : Int)) (hq : (j : Int).tdiv 8 = (q : Int)) (hj : (j : Int) ≤ 1000) (hqm : (q : Int) < (m : Int)) (hqm2 : q < m) (hor : bits .or .u8 (x : Int) (y : Int) = (z : Int)) {Q : Exit → Act → World → Prop} (a : Act) (w : World) (v0 : w.cell? ⟨g, q, none⟩ = some (.int .u8 x)) (hc : Calls Try.prog 30 #[.int .i64 j] w fun e w' => e = .returned (.int .u8 y) ∧ Step noF w w') (h3 : a.tmps.getD 3 undef = .slice (some ⟨g, 0, none⟩) m m) (h4 : a.tmps.getD 4 undef = .int .i64 j) (hat : ∀ jj ∈ deps ((Try.f20.body.bind (regionOps 6)).getD #[]) 0, ∀ dd vv, txrDl[jj]? = some (some dd) → (txrVals g m j q x y z)[jj]? = some vv → a.tmps.getD dd undef = vv) :
    wpOp Try.prog ((Try.f20.body.bind (regionOps 6)).getD #[]) Q 0 (fun a' w' => ∃ dd vv, txrDl[0]? = some (some dd) ∧ (txrVals g m j q x y z)[0]? = some vv ∧ a' = a.put (some dd) vv ∧ Step noF w w') a w := by
  exact val_runs txrOp0 rfl rfl (runs_move (show a.eval _ = _ from h3))

theorem txrStep1 (g m j q x y z : Nat) (hqw : IntKind.i64.wrap (q : Int) = (q : Int)) (hq : (j : Int).tdiv 8 = (q : Int)) (hj : (j : Int) ≤ 1000) (hqm : (q : Int) < (m : Int)) (hqm2 : q < m) (hor : bits .or .u8 (x : Int) (y : Int) = (z : Int)) {Q : Exit → Act → World → Prop} (a : Act) (w : World) (v0 : w.cell? ⟨g, q, none⟩ = some (.int .u8 x)) (hc : Calls Try.prog 30 #[.int .i64 j] w fun e w' => e = .returned (.int .u8 y) ∧ Step noF w w') (h3 : a.tmps.getD 3 undef = .slice (some ⟨g, 0, none⟩) m m) (h4 : a.tmps.getD 4 undef = .int .i64 j) (hat : ∀ jj ∈ deps ((Try.f20.body.bind (regionOps 6)).getD #[]) 1, ∀ dd vv, txrDl[jj]? = some (some dd) → (txrVals g m j q x y z)[jj]? = some vv → a.tmps.getD dd undef = vv) :
    wpOp Try.prog ((Try.f20.body.bind (regionOps 6)).getD #[]) Q 1 (fun a' w' => ∃ dd vv, txrDl[1]? = some (some dd) ∧ (txrVals g m j q x y z)[1]? = some vv ∧ a' = a.put (some dd) vv ∧ Step noF w w') a w := by
  exact val_runs txrOp1 rfl rfl (runs_move (show a.eval _ = _ from h4))

theorem txrStep2 (g m j q x y z : Nat) (hqw : IntKind.i64.wrap (q : Int) = (q : Int)) (hq : (j : Int).tdiv 8 = (q : Int)) (hj : (j : Int) ≤ 1000) (hqm : (q : Int) < (m : Int)) (hqm2 : q < m) (hor : bits .or .u8 (x : Int) (y : Int) = (z : Int)) {Q : Exit → Act → World → Prop} (a : Act) (w : World) (v0 : w.cell? ⟨g, q, none⟩ = some (.int .u8 x)) (hc : Calls Try.prog 30 #[.int .i64 j] w fun e w' => e = .returned (.int .u8 y) ∧ Step noF w w') (h3 : a.tmps.getD 3 undef = .slice (some ⟨g, 0, none⟩) m m) (h4 : a.tmps.getD 4 undef = .int .i64 j) (hat : ∀ jj ∈ deps ((Try.f20.body.bind (regionOps 6)).getD #[]) 2, ∀ dd vv, txrDl[jj]? = some (some dd) → (txrVals g m j q x y z)[jj]? = some vv → a.tmps.getD dd undef = vv) :
    wpOp Try.prog ((Try.f20.body.bind (regionOps 6)).getD #[]) Q 2 (fun a' w' => ∃ dd vv, txrDl[2]? = some (some dd) ∧ (txrVals g m j q x y z)[2]? = some vv ∧ a' = a.put (some dd) vv ∧ Step noF w w') a w := by
  have h18 : a.tmps.getD 18 undef = .int .i64 j := hat 1 (List.contains_iff_mem.1 (by kernel_rfl)) 18 _ rfl rfl
  refine val_runs txrOp2 rfl rfl ?_
  intro oo hoo
  simp only [execOp, hoo, Act.eval, Option.map_some, Option.map_none, h18]
  go_simp

theorem txrStep3 (g m j q x y z : Nat) (hqw : IntKind.i64.wrap (q : Int) = (q : Int)) (hq : (j : Int).tdiv 8 = (q : Int)) (hj : (j : Int) ≤ 1000) (hqm : (q : Int) < (m : Int)) (hqm2 : q < m) (hor : bits .or .u8 (x : Int) (y : Int) = (z : Int)) {Q : Exit → Act → World → Prop} (a : Act) (w : World) (v0 : w.cell? ⟨g, q, none⟩ = some (.int .u8 x)) (hc : Calls Try.prog 30 #[.int .i64 j] w fun e w' => e = .returned (.int .u8 y) ∧ Step noF w w') (h3 : a.tmps.getD 3 undef = .slice (some ⟨g, 0, none⟩) m m) (h4 : a.tmps.getD 4 undef = .int .i64 j) (hat : ∀ jj ∈ deps ((Try.f20.body.bind (regionOps 6)).getD #[]) 3, ∀ dd vv, txrDl[jj]? = some (some dd) → (txrVals g m j q x y z)[jj]? = some vv → a.tmps.getD dd undef = vv) :
    wpOp Try.prog ((Try.f20.body.bind (regionOps 6)).getD #[]) Q 3 (fun a' w' => ∃ dd vv, txrDl[3]? = some (some dd) ∧ (txrVals g m j q x y z)[3]? = some vv ∧ a' = a.put (some dd) vv ∧ Step noF w w') a w := by
  have h17 : a.tmps.getD 17 undef = .slice (some ⟨g, 0, none⟩) m m := hat 0 (List.contains_iff_mem.1 (by kernel_rfl)) 17 _ rfl rfl
  have h19 : a.tmps.getD 19 undef = .int .i64 q := hat 2 (List.contains_iff_mem.1 (by kernel_rfl)) 19 _ rfl rfl
  refine val_runs txrOp3 rfl rfl ?_
  intro oo hoo
  simp only [execOp, hoo, Act.eval, Option.map_some, Option.map_none, h17, h19]
  go_simp

theorem txrStep4 (g m j q x y z : Nat) (hqw : IntKind.i64.wrap (q : Int) = (q : Int)) (hq : (j : Int).tdiv 8 = (q : Int)) (hj : (j : Int) ≤ 1000) (hqm : (q : Int) < (m : Int)) (hqm2 : q < m) (hor : bits .or .u8 (x : Int) (y : Int) = (z : Int)) {Q : Exit → Act → World → Prop} (a : Act) (w : World) (v0 : w.cell? ⟨g, q, none⟩ = some (.int .u8 x)) (hc : Calls Try.prog 30 #[.int .i64 j] w fun e w' => e = .returned (.int .u8 y) ∧ Step noF w w') (h3 : a.tmps.getD 3 undef = .slice (some ⟨g, 0, none⟩) m m) (h4 : a.tmps.getD 4 undef = .int .i64 j) (hat : ∀ jj ∈ deps ((Try.f20.body.bind (regionOps 6)).getD #[]) 4, ∀ dd vv, txrDl[jj]? = some (some dd) → (txrVals g m j q x y z)[jj]? = some vv → a.tmps.getD dd undef = vv) :
    wpOp Try.prog ((Try.f20.body.bind (regionOps 6)).getD #[]) Q 4 (fun a' w' => ∃ dd vv, txrDl[4]? = some (some dd) ∧ (txrVals g m j q x y z)[4]? = some vv ∧ a' = a.put (some dd) vv ∧ Step noF w w') a w := by
  have h20 : a.tmps.getD 20 undef = .pointer (some ⟨g, q, none⟩) := hat 3 (List.contains_iff_mem.1 (by kernel_rfl)) 20 _ rfl rfl
  refine val_runs txrOp4 rfl rfl ?_
  intro oo hoo
  simp only [execOp, hoo, Act.eval, Option.map_some, Option.map_none, h20]
  go_simp

theorem txrStep5 (g m j q x y z : Nat) (hqw : IntKind.i64.wrap (q : Int) = (q : Int)) (hq : (j : Int).tdiv 8 = (q : Int)) (hj : (j : Int) ≤ 1000) (hqm : (q : Int) < (m : Int)) (hqm2 : q < m) (hor : bits .or .u8 (x : Int) (y : Int) = (z : Int)) {Q : Exit → Act → World → Prop} (a : Act) (w : World) (v0 : w.cell? ⟨g, q, none⟩ = some (.int .u8 x)) (hc : Calls Try.prog 30 #[.int .i64 j] w fun e w' => e = .returned (.int .u8 y) ∧ Step noF w w') (h3 : a.tmps.getD 3 undef = .slice (some ⟨g, 0, none⟩) m m) (h4 : a.tmps.getD 4 undef = .int .i64 j) (hat : ∀ jj ∈ deps ((Try.f20.body.bind (regionOps 6)).getD #[]) 5, ∀ dd vv, txrDl[jj]? = some (some dd) → (txrVals g m j q x y z)[jj]? = some vv → a.tmps.getD dd undef = vv) :
    wpOp Try.prog ((Try.f20.body.bind (regionOps 6)).getD #[]) Q 5 (fun a' w' => ∃ dd vv, txrDl[5]? = some (some dd) ∧ (txrVals g m j q x y z)[5]? = some vv ∧ a' = a.put (some dd) vv ∧ Step noF w w') a w := by
  exact val_runs txrOp5 rfl rfl (runs_move (show a.eval _ = _ from h4))

theorem txrStep6 (g m j q x y z : Nat) (hqw : IntKind.i64.wrap (q : Int) = (q : Int)) (hq : (j : Int).tdiv 8 = (q : Int)) (hj : (j : Int) ≤ 1000) (hqm : (q : Int) < (m : Int)) (hqm2 : q < m) (hor : bits .or .u8 (x : Int) (y : Int) = (z : Int)) {Q : Exit → Act → World → Prop} (a : Act) (w : World) (v0 : w.cell? ⟨g, q, none⟩ = some (.int .u8 x)) (hc : Calls Try.prog 30 #[.int .i64 j] w fun e w' => e = .returned (.int .u8 y) ∧ Step noF w w') (h3 : a.tmps.getD 3 undef = .slice (some ⟨g, 0, none⟩) m m) (h4 : a.tmps.getD 4 undef = .int .i64 j) (hat : ∀ jj ∈ deps ((Try.f20.body.bind (regionOps 6)).getD #[]) 6, ∀ dd vv, txrDl[jj]? = some (some dd) → (txrVals g m j q x y z)[jj]? = some vv → a.tmps.getD dd undef = vv) :
    wpOp Try.prog ((Try.f20.body.bind (regionOps 6)).getD #[]) Q 6 (fun a' w' => ∃ dd vv, txrDl[6]? = some (some dd) ∧ (txrVals g m j q x y z)[6]? = some vv ∧ a' = a.put (some dd) vv ∧ Step noF w w') a w := by
  have h22 : a.tmps.getD 22 undef = .int .i64 j := hat 5 (List.contains_iff_mem.1 (by kernel_rfl)) 22 _ rfl rfl
  refine val_calls txrOp6 rfl rfl Try.func30 (by kernel_rfl) (by kernel_rfl) (by simp only [List.map_toArray, List.map_cons, List.map_nil, Act.eval, h22]; rfl) ?_
  exact hc

theorem txrStep7 (g m j q x y z : Nat) (hqw : IntKind.i64.wrap (q : Int) = (q : Int)) (hq : (j : Int).tdiv 8 = (q : Int)) (hj : (j : Int) ≤ 1000) (hqm : (q : Int) < (m : Int)) (hqm2 : q < m) (hor : bits .or .u8 (x : Int) (y : Int) = (z : Int)) {Q : Exit → Act → World → Prop} (a : Act) (w : World) (v0 : w.cell? ⟨g, q, none⟩ = some (.int .u8 x)) (hc : Calls Try.prog 30 #[.int .i64 j] w fun e w' => e = .returned (.int .u8 y) ∧ Step noF w w') (h3 : a.tmps.getD 3 undef = .slice (some ⟨g, 0, none⟩) m m) (h4 : a.tmps.getD 4 undef = .int .i64 j) (hat : ∀ jj ∈ deps ((Try.f20.body.bind (regionOps 6)).getD #[]) 7, ∀ dd vv, txrDl[jj]? = some (some dd) → (txrVals g m j q x y z)[jj]? = some vv → a.tmps.getD dd undef = vv) :
    wpOp Try.prog ((Try.f20.body.bind (regionOps 6)).getD #[]) Q 7 (fun a' w' => ∃ dd vv, txrDl[7]? = some (some dd) ∧ (txrVals g m j q x y z)[7]? = some vv ∧ a' = a.put (some dd) vv ∧ Step noF w w') a w := by
  have h21 : a.tmps.getD 21 undef = .int .u8 x := hat 4 (List.contains_iff_mem.1 (by kernel_rfl)) 21 _ rfl rfl
  have h23 : a.tmps.getD 23 undef = .int .u8 y := hat 6 (List.contains_iff_mem.1 (by kernel_rfl)) 23 _ rfl rfl
  refine val_runs txrOp7 rfl rfl ?_
  intro oo hoo
  simp only [execOp, hoo, Act.eval, Option.map_some, Option.map_none, h21, h23]
  go_simp

theorem txrStep8 (g m j q x y z : Nat) (hqw : IntKind.i64.wrap (q : Int) = (q : Int)) (hq : (j : Int).tdiv 8 = (q : Int)) (hj : (j : Int) ≤ 1000) (hqm : (q : Int) < (m : Int)) (hqm2 : q < m) (hor : bits .or .u8 (x : Int) (y : Int) = (z : Int)) {Q : Exit → Act → World → Prop} (a : Act) (w : World) (v0 : w.cell? ⟨g, q, none⟩ = some (.int .u8 x)) (hc : Calls Try.prog 30 #[.int .i64 j] w fun e w' => e = .returned (.int .u8 y) ∧ Step noF w w') (h3 : a.tmps.getD 3 undef = .slice (some ⟨g, 0, none⟩) m m) (h4 : a.tmps.getD 4 undef = .int .i64 j) (hat : ∀ jj ∈ deps ((Try.f20.body.bind (regionOps 6)).getD #[]) 8, ∀ dd vv, txrDl[jj]? = some (some dd) → (txrVals g m j q x y z)[jj]? = some vv → a.tmps.getD dd undef = vv) :
    wpOp Try.prog ((Try.f20.body.bind (regionOps 6)).getD #[]) Q 8 (fun a' w' => ∃ dd vv, txrDl[8]? = some (some dd) ∧ (txrVals g m j q x y z)[8]? = some vv ∧ a' = a.put (some dd) vv ∧ Step noF w w') a w := by
  have h17 : a.tmps.getD 17 undef = .slice (some ⟨g, 0, none⟩) m m := hat 0 (List.contains_iff_mem.1 (by kernel_rfl)) 17 _ rfl rfl
  have h19 : a.tmps.getD 19 undef = .int .i64 q := hat 2 (List.contains_iff_mem.1 (by kernel_rfl)) 19 _ rfl rfl
  refine val_runs txrOp8 rfl rfl ?_
  intro oo hoo
  simp only [execOp, hoo, Act.eval, Option.map_some, Option.map_none, h17, h19]
  go_simp

theorem txr_last (g m j q x y z : Nat) {Q : Exit → Act → World → Prop} (ap : Act) (w : World) (hx : ap.tmps.getD 25 undef = .pointer (some ⟨g, q, none⟩)) (hy : ap.tmps.getD 24 undef = .int .u8 z) (u : Value) (hu : w.cell? ⟨g, q, none⟩ = some u) (hf : w.frozen? ⟨g, q, none⟩ = false) (hK : Q .normal ap (w.setCell ⟨g, q, none⟩ (.int .u8 z))) : wpOp Try.prog ((Try.f20.body.bind (regionOps 6)).getD #[]) Q 9 (fun a' w' => Q .normal a' w') ap w := by
  have hr : Skips Try.prog ap (Op.store 5 (Operand.tmp 25) (Operand.tmp 24)) w (w.setCell ⟨g, q, none⟩ (.int .u8 z)) := by
    intro oo hoo
    simp only [execOp, hoo, Act.eval, hx, hy]
    go_simp
  exact op_skips txrOp9 hr hK

theorem txr_go (g m j q x y z : Nat) (hqw : IntKind.i64.wrap (q : Int) = (q : Int)) (hq : (j : Int).tdiv 8 = (q : Int)) (hj : (j : Int) ≤ 1000) (hqm : (q : Int) < (m : Int)) (hqm2 : q < m) (hor : bits .or .u8 (x : Int) (y : Int) = (z : Int)) {Q : Exit → Act → World → Prop} (a0 : Act) (w0 : World) (hsz : a0.tmps.size = 29) (h3 : a0.tmps.getD 3 undef = .slice (some ⟨g, 0, none⟩) m m) (h4 : a0.tmps.getD 4 undef = .int .i64 j)
    (hw : ∀ w, Step noF w0 w → (w.cell? ⟨g, q, none⟩ = some (.int .u8 x)) ∧ (Calls Try.prog 30 #[.int .i64 j] w fun e w' => e = .returned (.int .u8 y) ∧ Step noF w w') ∧ (∃ u, w.cell? ⟨g, q, none⟩ = some u) ∧ w.frozen? ⟨g, q, none⟩ = false)
    (hK : ∀ w, Step noF w0 w → Q .normal (putAll a0 txrDl (txrVals g m j q x y z)) (w.setCell ⟨g, q, none⟩ (.int .u8 z))) : (Code.region 6 ((Try.f20.body.bind (regionOps 6)).getD #[]) true).wp Try.prog Q a0 w0 := by
  refine wp_region_vals noF (txrVals g m j q x y z) txrDl 9 txr_size (by kernel_rfl) txr_back txr_used txr_dl txr_nd (fun d h => by rw [hsz]; exact txr_lt d h) rfl rfl ?_ ?_
  · intro ix hix a w hs hfr hat
    obtain ⟨v0, hc, _, _⟩ := hw w hs
    have h3 := (hfr 3 (by decide)).trans h3
    have h4 := (hfr 4 (by decide)).trans h4
    match ix, hix with
    | 0, _ => exact txrStep0 g m j q x y z hqw hq hj hqm hqm2 hor a w v0 hc h3 h4 hat
    | 1, _ => exact txrStep1 g m j q x y z hqw hq hj hqm hqm2 hor a w v0 hc h3 h4 hat
    | 2, _ => exact txrStep2 g m j q x y z hqw hq hj hqm hqm2 hor a w v0 hc h3 h4 hat
    | 3, _ => exact txrStep3 g m j q x y z hqw hq hj hqm hqm2 hor a w v0 hc h3 h4 hat
    | 4, _ => exact txrStep4 g m j q x y z hqw hq hj hqm hqm2 hor a w v0 hc h3 h4 hat
    | 5, _ => exact txrStep5 g m j q x y z hqw hq hj hqm hqm2 hor a w v0 hc h3 h4 hat
    | 6, _ => exact txrStep6 g m j q x y z hqw hq hj hqm hqm2 hor a w v0 hc h3 h4 hat
    | 7, _ => exact txrStep7 g m j q x y z hqw hq hj hqm hqm2 hor a w v0 hc h3 h4 hat
    | 8, _ => exact txrStep8 g m j q x y z hqw hq hj hqm hqm2 hor a w v0 hc h3 h4 hat
    | k + 9, h => exact absurd h (by omega)
  · intro w hs
    obtain ⟨_, _, ⟨u, hu⟩, hf⟩ := hw w hs
    have hx : (putAll a0 txrDl (txrVals g m j q x y z)).tmps.getD 25 undef = .pointer (some ⟨g, q, none⟩) := (putAll_at txrDl (txrVals g m j q x y z) a0 8 25 _ txr_nd rfl rfl (by rw [hsz]; decide))
    have hy : (putAll a0 txrDl (txrVals g m j q x y z)).tmps.getD 24 undef = .int .u8 z := (putAll_at txrDl (txrVals g m j q x y z) a0 7 24 _ txr_nd rfl rfl (by rw [hsz]; decide))
    exact txr_last g m j q x y z (putAll a0 txrDl (txrVals g m j q x y z)) w hx hy u hu hf (hK w hs)
end Go.Proofs.Ytdcomcpinlgpdaa
