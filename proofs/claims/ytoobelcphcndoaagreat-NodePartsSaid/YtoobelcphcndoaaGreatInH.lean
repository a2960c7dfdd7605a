/-
  The region that draws in inner.Inner.part (number 1), operation by operation. Written by draw5.py.
  What part of package inner does: kids side by side as a node.
-/
import Derived.Test.YtoobelcphcndoaaGreatDraw
import Derived.Test.YtoobelcphcndoaaGreatInA
import Derived.Test.YtoobelcphcndoaaGreatInG
namespace Go.Proofs.YtoobelcphcndoaaGreat
open Go.RowKit
set_option linter.unusedVariables false
set_option linter.unusedSimpArgs false


def iprDs : List Nat := [9, 10, 11, 12, 13, 14, 15, 16, 17, 18, 19, 5, 6]
def iprDl : List (Option Nat) := [some 9, some 10, some 11, some 12, some 13, some 14, some 15, some 16, some 17, some 18, some 19, some 5, some 6, none, none]
theorem ipr_dl : ((Tryz.f75.body.bind (regionOps 1)).getD #[]).toList.map (·.dst) = iprDl := by kernel_rfl
theorem ipr_back : backB ((Tryz.f75.body.bind (regionOps 1)).getD #[]) = true := by kernel_rfl
theorem ipr_used : usedB ((Tryz.f75.body.bind (regionOps 1)).getD #[]) 13 = true := by kernel_rfl
theorem ipr_size : ((Tryz.f75.body.bind (regionOps 1)).getD #[]).size = 13 + 2 := by kernel_rfl
theorem ipr_nd : iprDl.Pairwise (fun x y => x = none ∨ x ≠ y) := by decide
theorem ipr_lt (d : Nat) (h : some d ∈ iprDl) : d < 56 := by
  have hh : iprDl.all (fun o => o.all (fun d => decide (d < 56))) = true := by decide
  simpa using List.all_eq_true.1 hh _ h
theorem iprOp0 : opIs ((Tryz.f75.body.bind (regionOps 1)).getD #[]) 0 (some 9) (Op.move (Operand.tmp 0)) none := opIs_of (by kernel_rfl)
theorem iprOp1 : opIs ((Tryz.f75.body.bind (regionOps 1)).getD #[]) 1 (some 10) (Op.fieldAddr 127 (Operand.tmp 3) 0) none := opIs_of (by kernel_rfl)
theorem iprOp2 : opIs ((Tryz.f75.body.bind (regionOps 1)).getD #[]) 2 (some 11) (Op.load 3 (Operand.tmp 10)) none := opIs_of (by kernel_rfl)
theorem iprOp3 : opIs ((Tryz.f75.body.bind (regionOps 1)).getD #[]) 3 (some 12) (Op.build 166 #[]) none := opIs_of (by kernel_rfl)
theorem iprOp4 : opIs ((Tryz.f75.body.bind (regionOps 1)).getD #[]) 4 (some 13) (Op.call { callee := Callee.value (Operand.func 115), args := #[Operand.tmp 9, Operand.tmp 11, Operand.tmp 12], argTypes := #[45, 3, 166] }) none := opIs_of (by kernel_rfl)
theorem iprOp5 : opIs ((Tryz.f75.body.bind (regionOps 1)).getD #[]) 5 (some 14) (Op.move (Operand.tmp 0)) none := opIs_of (by kernel_rfl)
theorem iprOp6 : opIs ((Tryz.f75.body.bind (regionOps 1)).getD #[]) 6 (some 15) (Op.fieldAddr 127 (Operand.tmp 3) 1) none := opIs_of (by kernel_rfl)
theorem iprOp7 : opIs ((Tryz.f75.body.bind (regionOps 1)).getD #[]) 7 (some 16) (Op.load 3 (Operand.tmp 15)) none := opIs_of (by kernel_rfl)
theorem iprOp8 : opIs ((Tryz.f75.body.bind (regionOps 1)).getD #[]) 8 (some 17) (Op.binOp BinOp.sub 3 (Operand.tmp 16) (Operand.const (Value.int IntKind.i64 1)) 3) none := opIs_of (by kernel_rfl)
theorem iprOp9 : opIs ((Tryz.f75.body.bind (regionOps 1)).getD #[]) 9 (some 18) (Op.build 166 #[]) none := opIs_of (by kernel_rfl)
theorem iprOp10 : opIs ((Tryz.f75.body.bind (regionOps 1)).getD #[]) 10 (some 19) (Op.call { callee := Callee.value (Operand.func 115), args := #[Operand.tmp 14, Operand.tmp 17, Operand.tmp 18], argTypes := #[45, 3, 166] }) none := opIs_of (by kernel_rfl)
theorem iprOp11 : opIs ((Tryz.f75.body.bind (regionOps 1)).getD #[]) 11 (some 5) (Op.alloc 166) none := opIs_of (by kernel_rfl)
theorem iprOp12 : opIs ((Tryz.f75.body.bind (regionOps 1)).getD #[]) 12 (some 6) (Op.alloc 166) none := opIs_of (by kernel_rfl)
theorem iprOp13 : opIs ((Tryz.f75.body.bind (regionOps 1)).getD #[]) 13 (none) (Op.store 166 (Operand.tmp 5) (Operand.tmp 13)) none := opIs_of (by kernel_rfl)
theorem iprOp14 : opIs ((Tryz.f75.body.bind (regionOps 1)).getD #[]) 14 (none) (Op.store 166 (Operand.tmp 6) (Operand.tmp 19)) none := opIs_of (by kernel_rfl)
/-- What is said of each slot. -/
def iprSp (p bs f t t1 sz0 : Nat) (R1 R2 : Rg) (i : Nat) (w : World) (v : Value) : Prop := match i with
  | 0 => v = .pointer (some ⟨p, 0, none⟩)
  | 1 => v = .pointer (some ⟨bs, 0, none⟩)
  | 2 => v = .int .i64 f
  | 3 => v = .agg #[.string (str []), .string (str [])]
  | 4 => v = .agg #[.string (str R1.lo), .string (str R1.hi)]
  | 5 => v = .pointer (some ⟨p, 0, none⟩)
  | 6 => v = .pointer (some ⟨bs, 1, none⟩)
  | 7 => v = .int .i64 t
  | 8 => v = .int .i64 t1
  | 9 => v = .agg #[.string (str []), .string (str [])]
  | 10 => v = .agg #[.string (str R2.lo), .string (str R2.hi)]
  | 11 => ∃ g, v = .pointer (some ⟨g, 0, none⟩) ∧ sz0 ≤ g ∧ ∃ x y, w.heap[g]? = some (.cells #[x, y] 166 (0, 0))
  | 12 => ∃ g, v = .pointer (some ⟨g, 0, none⟩) ∧ sz0 ≤ g ∧ ∃ x y, w.heap[g]? = some (.cells #[x, y] 166 (0, 0))
  | _ => True
theorem iprSp_mono (p bs f t t1 sz0 : Nat) (R1 R2 : Rg) : ∀ i w w' v, Step noF w w' → iprSp p bs f t t1 sz0 R1 R2 i w v → iprSp p bs f t t1 sz0 R1 R2 i w' v := by
  intro i w w' v hs h
  unfold iprSp at *
  split at h <;> first | exact h | (obtain ⟨g, h1, h2, x, y, h3⟩ := h; exact ⟨g, h1, h2, x, y, (hs.block g (lt_of_block h3) (fun z => z)).trans h3⟩)
def iprDf (i j : Nat) (u v : Value) : Prop := (i = 11 ∧ j = 12 ∨ i = 12 ∧ j = 11) → u ≠ v

set_option maxHeartbeats 4000000 in
set_option maxRecDepth 100000 in
theorem ipr_go (p bs f t t1 sz0 : Nat) (R1 R2 : Rg) (w0 : World) (hn0 : sz0 = w0.heap.size) (b00 : w0.cell? ⟨bs, 0, none⟩ = some (.int .i64 f)) (b10 : w0.cell? ⟨bs, 1, none⟩ = some (.int .i64 t)) (et0 : (t : Int) - 1 = (t1 : Int)) (wt0 : IntKind.i64.wrap (t1 : Int) = (t1 : Int)) (em0 : (⟨#[]⟩ : ByteArray) = str []) (c10 : ∀ w0', Step noF w0 w0' → Calls Tryz.prog 115 #[.pointer (some ⟨p, 0, none⟩), .int .i64 f, .agg #[.string (str []), .string (str [])]] w0' fun e w0'' => e = .returned (.agg #[.string (str R1.lo), .string (str R1.hi)]) ∧ Step noF w0' w0'') (c20 : ∀ w0', Step noF w0 w0' → Calls Tryz.prog 115 #[.pointer (some ⟨p, 0, none⟩), .int .i64 t1, .agg #[.string (str []), .string (str [])]] w0' fun e w0'' => e = .returned (.agg #[.string (str R2.lo), .string (str R2.hi)]) ∧ Step noF w0' w0'')
    {Q : Exit → Act → World → Prop} (a0 : Act) (hsz : a0.tmps.size = 56) (h0 : a0.tmps.getD 0 undef = .pointer (some ⟨p, 0, none⟩)) (h3 : a0.tmps.getD 3 undef = .pointer (some ⟨bs, 0, none⟩))
    (hend : ∀ (f : Nat → Value) (w : World) (g1 g2 : Nat), Step noF w0 w → w0.heap.size ≤ g1 → w0.heap.size ≤ g2 → g1 ≠ g2 → f 5 = .pointer (some ⟨g1, 0, none⟩) → f 6 = .pointer (some ⟨g2, 0, none⟩) → w.heap[g1]? = some (.cells #[.string (str R1.lo), .string (str R1.hi)] 166 (0, 0)) → w.heap[g2]? = some (.cells #[.string (str R2.lo), .string (str R2.hi)] 166 (0, 0)) → Q .normal (putAll a0 (iprDs.map some) (iprDs.map f)) w) :
    (Code.region 1 ((Tryz.f75.body.bind (regionOps 1)).getD #[]) true).wp Tryz.prog Q a0 w0 := by
  refine wp_region_pred2 (iprSp p bs f t t1 sz0 R1 R2) (iprSp_mono p bs f t t1 sz0 R1 R2) iprDf (fun i j u v h hh e => h (by omega) e.symm) iprDl 13 ipr_size (by kernel_rfl) ipr_back ipr_used (lc (by kernel_rfl)) ipr_dl ipr_nd (fun d h => by rw [hsz]; exact ipr_lt d h) rfl rfl ?_ ?_ ?_
  · intro i hi a w hs hfr hat
    have n0 := (hfr 0 (by decide)).trans h0
    have n3 := (hfr 3 (by decide)).trans h3
    have b0 : w.cell? ⟨bs, 0, none⟩ = some (.int .i64 f) := hs.after b00
    have b1 : w.cell? ⟨bs, 1, none⟩ = some (.int .i64 t) := hs.after b10
    have et : (t : Int) - 1 = (t1 : Int) := et0
    have wt : IntKind.i64.wrap (t1 : Int) = (t1 : Int) := wt0
    have em : (⟨#[]⟩ : ByteArray) = str [] := em0
    have c1 : ∀ w', Step noF w w' → Calls Tryz.prog 115 #[.pointer (some ⟨p, 0, none⟩), .int .i64 f, .agg #[.string (str []), .string (str [])]] w' fun e w'' => e = .returned (.agg #[.string (str R1.lo), .string (str R1.hi)]) ∧ Step noF w' w'' := fun w' s' => c10 w' (hs.trans s')
    have c2 : ∀ w', Step noF w w' → Calls Tryz.prog 115 #[.pointer (some ⟨p, 0, none⟩), .int .i64 t1, .agg #[.string (str []), .string (str [])]] w' fun e w'' => e = .returned (.agg #[.string (str R2.lo), .string (str R2.hi)]) ∧ Step noF w' w'' := fun w' s' => c20 w' (hs.trans s')
    match i, hi with
    | 0, _ =>
      refine op_runs (d := some 9) iprOp0 (wants_none a) (v := .pointer (some ⟨p, 0, none⟩)) (w' := w) ?_ ⟨9, _, rfl, rfl, Step.refl _ _, rfl, (fun j hj u hu hh => by omega)⟩
      intro oo hoo
      simp only [execOp, hoo, Act.eval, n0]
      go_simp
    | 1, _ =>
      refine op_runs (d := some 10) iprOp1 (wants_none a) (v := .pointer (some ⟨bs, 0, none⟩)) (w' := w) ?_ ⟨10, _, rfl, rfl, Step.refl _ _, rfl, (fun j hj u hu hh => by omega)⟩
      intro oo hoo
      simp only [execOp, hoo, Act.eval, n3]
      go_simp
    | 2, _ =>
      have n10 : a.tmps.getD 10 undef = _ := hat 1 (lc (by kernel_rfl)) 10 rfl
      refine op_runs (d := some 11) iprOp2 (wants_none a) (v := .int .i64 f) (w' := w) ?_ ⟨11, _, rfl, rfl, Step.refl _ _, rfl, (fun j hj u hu hh => by omega)⟩
      intro oo hoo
      simp only [execOp, hoo, Act.eval, n10]
      go_simp
    | 3, _ =>
      refine op_runs (d := some 12) iprOp3 (wants_none a) (v := .agg #[.string (str []), .string (str [])]) (w' := w) ?_ ⟨12, _, rfl, rfl, Step.refl _ _, rfl, (fun j hj u hu hh => by omega)⟩
      intro oo hoo
      simp only [execOp, hoo, Act.eval]
      kernel_rfl
    | 4, _ =>
      have n9 : a.tmps.getD 9 undef = _ := hat 0 (lc (by kernel_rfl)) 9 rfl
      have n11 : a.tmps.getD 11 undef = _ := hat 2 (lc (by kernel_rfl)) 11 rfl
      have n12 : a.tmps.getD 12 undef = _ := hat 3 (lc (by kernel_rfl)) 12 rfl
      refine op_calls iprOp4 (wants_none a) Tryz.func115 (by kernel_rfl) (by kernel_rfl) (args := #[.pointer (some ⟨p, 0, none⟩), .int .i64 f, .agg #[.string (str []), .string (str [])]]) (by simp [Act.eval, n9, n11, n12]) ((c1 w (Step.refl _ _)).mono ?_)
      rintro e w' ⟨rfl, s'⟩
      exact ⟨_, rfl, 13, _, rfl, rfl, s', rfl, (fun j hj u hu hh => by omega)⟩
    | 5, _ =>
      refine op_runs (d := some 14) iprOp5 (wants_none a) (v := .pointer (some ⟨p, 0, none⟩)) (w' := w) ?_ ⟨14, _, rfl, rfl, Step.refl _ _, rfl, (fun j hj u hu hh => by omega)⟩
      intro oo hoo
      simp only [execOp, hoo, Act.eval, n0]
      go_simp
    | 6, _ =>
      refine op_runs (d := some 15) iprOp6 (wants_none a) (v := .pointer (some ⟨bs, 1, none⟩)) (w' := w) ?_ ⟨15, _, rfl, rfl, Step.refl _ _, rfl, (fun j hj u hu hh => by omega)⟩
      intro oo hoo
      simp only [execOp, hoo, Act.eval, n3]
      go_simp
    | 7, _ =>
      have n15 : a.tmps.getD 15 undef = _ := hat 6 (lc (by kernel_rfl)) 15 rfl
      refine op_runs (d := some 16) iprOp7 (wants_none a) (v := .int .i64 t) (w' := w) ?_ ⟨16, _, rfl, rfl, Step.refl _ _, rfl, (fun j hj u hu hh => by omega)⟩
      intro oo hoo
      simp only [execOp, hoo, Act.eval, n15]
      go_simp
    | 8, _ =>
      have n16 : a.tmps.getD 16 undef = _ := hat 7 (lc (by kernel_rfl)) 16 rfl
      refine op_runs (d := some 17) iprOp8 (wants_none a) (v := .int .i64 t1) (w' := w) ?_ ⟨17, _, rfl, rfl, Step.refl _ _, rfl, (fun j hj u hu hh => by omega)⟩
      intro oo hoo
      simp only [execOp, hoo, Act.eval, n16]
      go_simp
    | 9, _ =>
      refine op_runs (d := some 18) iprOp9 (wants_none a) (v := .agg #[.string (str []), .string (str [])]) (w' := w) ?_ ⟨18, _, rfl, rfl, Step.refl _ _, rfl, (fun j hj u hu hh => by omega)⟩
      intro oo hoo
      simp only [execOp, hoo, Act.eval]
      kernel_rfl
    | 10, _ =>
      have n14 : a.tmps.getD 14 undef = _ := hat 5 (lc (by kernel_rfl)) 14 rfl
      have n17 : a.tmps.getD 17 undef = _ := hat 8 (lc (by kernel_rfl)) 17 rfl
      have n18 : a.tmps.getD 18 undef = _ := hat 9 (lc (by kernel_rfl)) 18 rfl
      refine op_calls iprOp10 (wants_none a) Tryz.func115 (by kernel_rfl) (by kernel_rfl) (args := #[.pointer (some ⟨p, 0, none⟩), .int .i64 t1, .agg #[.string (str []), .string (str [])]]) (by simp [Act.eval, n14, n17, n18]) ((c2 w (Step.refl _ _)).mono ?_)
      rintro e w' ⟨rfl, s'⟩
      exact ⟨_, rfl, 19, _, rfl, rfl, s', rfl, (fun j hj u hu hh => by omega)⟩
    | 11, _ =>
      refine op_runs (d := some 5) iprOp11 (wants_none a) (v := .pointer (some ⟨w.heap.size, 0, none⟩)) (w' := w.alloc (.cells #[.string (str []), .string (str [])] 166)) ?_ ⟨5, _, rfl, rfl, (Step.refl _ _).alloc _, ⟨w.heap.size, rfl, by rw [hn0]; exact hs.size, _, _, block_alloc_new w _⟩, fun j hj u hu hh => ?_⟩
      · intro oo hoo
        simp only [execOp, hoo, Act.eval]
        kernel_rfl
      · obtain rfl : j = 12 := by omega
        obtain ⟨g, rfl, _, x, y, hg⟩ := hu
        intro e
        injection e with e
        injection e with e
        injection e with e
        have := lt_of_block hg
        omega
    | 12, _ =>
      refine op_runs (d := some 6) iprOp12 (wants_none a) (v := .pointer (some ⟨w.heap.size, 0, none⟩)) (w' := w.alloc (.cells #[.string (str []), .string (str [])] 166)) ?_ ⟨6, _, rfl, rfl, (Step.refl _ _).alloc _, ⟨w.heap.size, rfl, by rw [hn0]; exact hs.size, _, _, block_alloc_new w _⟩, fun j hj u hu hh => ?_⟩
      · intro oo hoo
        simp only [execOp, hoo, Act.eval]
        kernel_rfl
      · obtain rfl : j = 11 := by omega
        obtain ⟨g, rfl, _, x, y, hg⟩ := hu
        intro e
        injection e with e
        injection e with e
        injection e with e
        have := lt_of_block hg
        omega
  · intro j hj
    match j, hj with
    | 0, _ => exact ⟨_, rfl⟩
    | 1, _ => exact ⟨_, rfl⟩
    | 2, _ => exact ⟨_, rfl⟩
    | 3, _ => exact ⟨_, rfl⟩
    | 4, _ => exact ⟨_, rfl⟩
    | 5, _ => exact ⟨_, rfl⟩
    | 6, _ => exact ⟨_, rfl⟩
    | 7, _ => exact ⟨_, rfl⟩
    | 8, _ => exact ⟨_, rfl⟩
    | 9, _ => exact ⟨_, rfl⟩
    | 10, _ => exact ⟨_, rfl⟩
    | 11, _ => exact ⟨_, rfl⟩
    | 12, _ => exact ⟨_, rfl⟩
  · intro a w hs hdf hs2 hfr hat hne
    obtain ⟨g1, p5, l5, x5, y5, b5⟩ : ∃ g, a.tmps.getD 5 undef = .pointer (some ⟨g, 0, none⟩) ∧ sz0 ≤ g ∧ ∃ x y, w.heap[g]? = some (.cells #[x, y] 166 (0, 0)) := hat 11 (by omega) 5 rfl
    obtain ⟨g2, p6, l6, x6, y6, b6⟩ : ∃ g, a.tmps.getD 6 undef = .pointer (some ⟨g, 0, none⟩) ∧ sz0 ≤ g ∧ ∃ x y, w.heap[g]? = some (.cells #[x, y] 166 (0, 0)) := hat 12 (by omega) 6 rfl
    have p13 : a.tmps.getD 13 undef = .agg #[.string (str R1.lo), .string (str R1.hi)] := hat 4 (by omega) 13 rfl
    have p19 : a.tmps.getD 19 undef = .agg #[.string (str R2.lo), .string (str R2.hi)] := hat 10 (by omega) 19 rfl
    have hgg : g1 ≠ g2 := fun e => by
      subst e
      have := hne 11 12 (by omega) (by omega) (by omega) 5 6 rfl rfl
      rw [p5, p6] at this
      exact this (.inl ⟨rfl, rfl⟩) rfl
    have k10 : w.cell? ⟨g1, 0, none⟩ = some x5 := by simpa using cell_of_block b5 0
    have k11 : w.cell? ⟨g1, 1, none⟩ = some y5 := by simpa using cell_of_block b5 1
    have z10 := frozen_of_block b5 0
    have z11 := frozen_of_block b5 1
    have hb1 := block_setCell (block_setCell b5 0 (.string (str R1.lo))) 1 (.string (str R1.hi))
    have hr1 : Skips Tryz.prog a (Op.store 166 (Operand.tmp 5) (Operand.tmp 13)) w ((w.setCell ⟨g1, 0, none⟩ (.string (str R1.lo))).setCell ⟨g1, 1, none⟩ (.string (str R1.hi))) := by
      intro oo hoo
      simp only [execOp, hoo, Act.eval, p5, p13]
      go_simp
    have hb2 : ((w.setCell ⟨g1, 0, none⟩ (.string (str R1.lo))).setCell ⟨g1, 1, none⟩ (.string (str R1.hi))).heap[g2]? = some (.cells #[x6, y6] 166 (0, 0)) := by
      rw [Below.heap_setCell _ _ _ _ (Ne.symm hgg), Below.heap_setCell _ _ _ _ (Ne.symm hgg)]
      exact b6
    obtain ⟨w1, hw1⟩ : ∃ w1, ((w.setCell ⟨g1, 0, none⟩ (.string (str R1.lo))).setCell ⟨g1, 1, none⟩ (.string (str R1.hi))) = w1 := ⟨_, rfl⟩
    rw [hw1] at hr1 hb1 hb2
    have S1 : Step noF w0 w1 := by
      rw [← hw1]
      exact (hs.setCell (p := ⟨g1, 0, none⟩) (.inr (by rw [← hn0]; exact l5)) _).setCell (p := ⟨g1, 1, none⟩) (.inr (by rw [← hn0]; exact l5)) _
    have k20 : w1.cell? ⟨g2, 0, none⟩ = some x6 := by simpa using cell_of_block hb2 0
    have k21 : w1.cell? ⟨g2, 1, none⟩ = some y6 := by simpa using cell_of_block hb2 1
    have z20 := frozen_of_block hb2 0
    have z21 := frozen_of_block hb2 1
    have hr2 : Skips Tryz.prog a (Op.store 166 (Operand.tmp 6) (Operand.tmp 19)) w1 ((w1.setCell ⟨g2, 0, none⟩ (.string (str R2.lo))).setCell ⟨g2, 1, none⟩ (.string (str R2.hi))) := by
      intro oo hoo
      simp only [execOp, hoo, Act.eval, p6, p19]
      go_simp
    have hb3 := block_setCell (block_setCell hb2 0 (.string (str R2.lo))) 1 (.string (str R2.hi))
    have hb4 : ((w1.setCell ⟨g2, 0, none⟩ (.string (str R2.lo))).setCell ⟨g2, 1, none⟩ (.string (str R2.hi))).heap[g1]? = w1.heap[g1]? := by
      rw [Below.heap_setCell _ _ _ _ hgg, Below.heap_setCell _ _ _ _ hgg]
    rw [hb1] at hb4
    refine op_skips iprOp13 hr1 (op_skips iprOp14 hr2 ?_)
    have e := act_vals (a := a) (a0 := a0) iprDs (by decide) (fun d hd => by rw [hsz]; exact ipr_lt d (by revert hd; revert d; decide)) hdf hs2 (fun k hk => hfr k (fun hk2 => hk (by revert hk2; simp [iprDl, iprDs])))
    rw [e]
    exact hend (fun d => a.tmps.getD d undef) _ g1 g2 ((S1.setCell (p := ⟨g2, 0, none⟩) (.inr (by rw [← hn0]; exact l6)) _).setCell (p := ⟨g2, 1, none⟩) (.inr (by rw [← hn0]; exact l6)) _) (by rw [← hn0]; exact l5) (by rw [← hn0]; exact l6) hgg p5 p6 (by simpa using hb4) (by simpa using hb3)
set_option maxRecDepth 100000 in
theorem ipr_lit (f : Nat → Value) (D : List Deferred) (x0 x1 x2 x3 x4 x5 x6 x7 x8 x9 x10 x11 x12 x13 x14 x15 x16 x17 x18 x19 x20 x21 x22 x23 x24 x25 x26 x27 x28 x29 x30 x31 x32 x33 x34 x35 x36 x37 x38 x39 x40 x41 x42 x43 x44 x45 x46 x47 x48 x49 x50 x51 x52 x53 x54 x55 : Value) : putAll { tmps := #[x0, x1, x2, x3, x4, x5, x6, x7, x8, x9, x10, x11, x12, x13, x14, x15, x16, x17, x18, x19, x20, x21, x22, x23, x24, x25, x26, x27, x28, x29, x30, x31, x32, x33, x34, x35, x36, x37, x38, x39, x40, x41, x42, x43, x44, x45, x46, x47, x48, x49, x50, x51, x52, x53, x54, x55], defers := D } (iprDs.map some) (iprDs.map f) = { tmps := #[x0, x1, x2, x3, x4, f 5, f 6, x7, x8, f 9, f 10, f 11, f 12, f 13, f 14, f 15, f 16, f 17, f 18, f 19, x20, x21, x22, x23, x24, x25, x26, x27, x28, x29, x30, x31, x32, x33, x34, x35, x36, x37, x38, x39, x40, x41, x42, x43, x44, x45, x46, x47, x48, x49, x50, x51, x52, x53, x54, x55], defers := D } := by kernel_rfl
end Go.Proofs.YtoobelcphcndoaaGreat
namespace Go.Proofs.YtoobelcphcndoaaGreat
open Go.RowKit Go.Sort
set_option linter.unusedVariables false
set_option linter.unusedSimpArgs false
set_option maxRecDepth 20000

theorem takeRow_any (p : Nat) (xs : List Mg) (hl : xs.length ≤ 1000000) (hR : RisingM xs) (hG : GoodM xs) (r : Rg) (w : World) (h : BuffAt w p xs) :
    Calls Tryz.prog 116 #[.pointer (some ⟨p, 0, none⟩), .agg #[.string (str r.lo), .string (str r.hi)]] w fun e w' => ∃ a c, e = .returned (.slice a (takeM r xs).length c) ∧ Hid (a = none → c = 0) ∧ Hid (MsgsAt w' noF a (takeM r xs)) ∧ Hid (Step noF w w') := by
  refine (takeB_any p xs hl hR hG r w h).mono ?_
  rintro e w' ⟨v, rfl, o, s⟩
  obtain ⟨a, c, rfl, _, n, r⟩ := owns_msgs o
  exact ⟨a, c, rfl, n.1, r, s⟩
theorem ofGood_any (ms : List Mg) (hG : GoodM ms) (hR : RisingM ms) (hl : ms.length ≤ 400000) (a : Option Addr) (c : Nat) (hc : a = none → c = 0) (w : World) (hr : MsgsAt w noF a ms) :
    Calls Tryz.prog 86 #[.slice a ms.length c] w fun e w' => ∃ q, e = .returned (.tuple #[.pointer (some ⟨q, 0, none⟩), .int .i64 0]) ∧ Hid (BuffAt w' q ms) ∧ Hid (Step noF w w') := by
  refine (ofB_any ms (fun m hm => by
    have := (good_small hG (by omega)).2 m hm
    exact le_max (by omega)) hl a c hc w hr).mono ?_
  rintro e w' ⟨h, s⟩
  rcases h with ⟨h1, _⟩ | ⟨_, q, rfl, hb⟩
  · have : ms.all Mg.is = true := List.all_eq_true.2 hG
    rw [h1] at this
    cases this
  · rw [puts_self ms hR hG] at hb
    exact ⟨q, rfl, hb, s⟩
theorem meet_all (r : Rg) (h : r.turned = false) : (Rg.mk [] []).meet r = r := by
  obtain ⟨lo, hi⟩ := r
  unfold Rg.meet maxL minH
  by_cases h0 : lo = []
  · subst h0; simp [h]
  · have := (pos_iff lo).2 h0
    simp [this, h]
theorem rangeN_all (ps : List (List UInt8)) (hp : ps.Pairwise (fun a b => a < b)) (i : Nat) (hi : i ≤ ps.length) : rangeN ⟨[], []⟩ ps i = ⟨([] :: ps).getD i [], ps.getD i []⟩ := by
  by_cases h0 : ps = []
  · subst h0
    have : i = 0 := by simpa using hi
    subst this
    rfl
  · unfold rangeN
    rw [cut_at _ ps h0 i hi, meet_all]
    unfold Rg.turned
    simp only
    cases i with
    | zero => simp
    | succ k =>
      by_cases hk : k + 1 < ps.length
      · have h1 := List.pairwise_iff_getElem.1 hp k (k + 1) (by omega) hk (by omega)
        have e1 : ([] :: ps).getD (k + 1) [] = ps[k] := by simp [List.getD, List.getElem?_eq_getElem (show k < ps.length by omega)]
        have e2 : ps.getD (k + 1) [] = ps[k + 1] := by simp [List.getD, List.getElem?_eq_getElem hk]
        rw [e1, e2]
        have : ¬ ps[k + 1] < ps[k] := fun h => lt_irrefl' (lt_trans' h h1)
        simp [this]
      · have e2 : ps.getD (k + 1) [] = [] := by simp [List.getD, List.getElem?_eq_none (show ps.length ≤ k + 1 by omega)]
        rw [e2]
        simp
theorem partRg_eq (ps : List (List UInt8)) (n f t : Nat) (hp : ps.Pairwise (fun a b => a < b)) (hn : ps.length + 1 = n) (hft : f < t) (ht : t ≤ n) : (⟨(rangeN ⟨[], []⟩ ps f).lo, (rangeN ⟨[], []⟩ ps (t - 1)).hi⟩ : Rg) = partRg n ps f t := by
  rw [rangeN_all ps hp f (by omega), rangeN_all ps hp (t - 1) (by omega)]
  unfold partRg
  simp only
  congr 1
  · cases f with
    | zero => rfl
    | succ f => simp
  · by_cases h : t < n
    · rw [if_pos h]
    · rw [if_neg h]
      have : t - 1 = ps.length := by omega
      rw [this]
      simp [List.getD]

set_option maxHeartbeats 8000000 in
theorem part_any (p : Nat) (ks : List Int) (ps : List (List UInt8)) (ms : List Mg) (hd : NdOk ⟨ks, ps, ms⟩) (f t : Nat) (hft1 : f + 1 < t) (ht : t ≤ ks.length) (w : World) (h : InnerAt w p ⟨ks, ps, ms⟩) :
    Calls Tryz.prog 75 #[.pointer (some ⟨p, 0, none⟩), .agg #[.int .i64 f, .int .i64 t]] w fun e w' => ∃ q, e = .returned (.pointer (some ⟨q, 0, none⟩)) ∧ Hid (InnerAt w' q ⟨(ks.take t).drop f, (ps.take (t - 1)).drop f, takeM (partRg ks.length ps f t) ms⟩) ∧ Step noF w w' := by
  have h0 := nil_str
  have hft : f < t := by omega
  have hl := hd.len
  simp only at hl
  have hk1 : ks.length ≤ 1000 := hd.2.2.2.1
  have hg : GoodM ms := hd.2.1
  have hr : RisingM ms := hd.2.2.1
  have hml : ms.length ≤ 100000 := hd.2.2.2.2
  have hpr := partRg_eq ps ks.length f t hd.pivs.2 hl hft ht
  have st : Step noF w (w.alloc (.cells #[.int .i64 f, .int .i64 t] 127)) := (Step.refl noF w).alloc _
  have hI := h.step st
  obtain ⟨b0, b1⟩ := two_new w (.int .i64 f) (.int .i64 t) 127
  obtain ⟨W, hW⟩ : ∃ W, w.alloc (.cells #[.int .i64 f, .int .i64 t] 127) = W := ⟨_, rfl⟩
  rw [hW] at st hI b0 b1
  have cR1 := fun w' (hs : Step noF W w') => rangeN_any p ks ps ms hl (by omega) f (by omega) ⟨[], []⟩ w' (hI.step hs)
  have cR2 := fun w' (hs : Step noF W w') => rangeN_any p ks ps ms hl (by omega) (t - 1) (by omega) ⟨[], []⟩ w' (hI.step hs)
  obtain ⟨R1, hR1⟩ : ∃ R, rangeN ⟨[], []⟩ ps f = R := ⟨_, rfl⟩
  obtain ⟨R2, hR2⟩ : ∃ R, rangeN ⟨[], []⟩ ps (t - 1) = R := ⟨_, rfl⟩
  rw [hR1] at cR1 hpr
  rw [hR2] at cR2 hpr
  simp only at cR1 cR2
  obtain ⟨PR, hPR⟩ : ∃ R, partRg ks.length ps f t = R := ⟨_, rfl⟩
  rw [hPR] at hpr ⊢
  obtain ⟨TM, hTM⟩ : ∃ T, takeM PR ms = T := ⟨_, rfl⟩
  rw [hTM]
  have HTM := hid hTM
  clear hTM
  have HPR := hid hpr
  have HI := hid hI
  have ST := hid st
  have hfz : (f : Int) < (t : Int) := by omega
  obtain ⟨t1, ht1⟩ : ∃ x, t - 1 = x := ⟨_, rfl⟩
  have et1 : (t : Int) - 1 = (t1 : Int) := by omega
  have wt1 : IntKind.i64.wrap (t1 : Int) = (t1 : Int) := by rw [IntKind.wrap_i64]; omega
  rw [ht1] at cR2 ⊢
  clear h hI st hR1 hR2 hPR hpr hd
  go_enter Tryz.func75, Tryz.ntmps75
  go_upto_region 1 with fail
  clear hW
  go_cut [5, 6] from 9 (fun s5 s6 wx => ∃ b5 b6, s5 = .pointer (some ⟨b5, 0, none⟩) ∧ s6 = .pointer (some ⟨b6, 0, none⟩) ∧ Hid (wx.cell? ⟨b5, 0, none⟩ = some (.string (str R1.lo))) ∧ Hid (wx.cell? ⟨b6, 1, none⟩ = some (.string (str R2.hi))) ∧ Hid (Step noF W wx))
  case first =>
    change Code.wp _ (Code.region 1 ((Tryz.f75.body.bind (regionOps 1)).getD #[]) true) _ _ _
    refine ipr_go p w.heap.size f t t1 _ R1 R2 W rfl b0 b1 et1 wt1 h0 cR1 cR2 _ rfl rfl rfl ?_
    intro ff w1 g1 g2 s1 l1 l2 hne e5 e6 hb1 hb2
    have B1 := hid hb1
    have B2 := hid hb2
    have S1 := hid s1
    clear hb1 hb2 s1 l1 l2 hne cR1 cR2
    rw [ipr_lit, e5, e6]
    go_wp2_with fail
    go_meet
    exact ⟨g1, g2, rfl, rfl, (by rw [cell_of_block B1.out]; rfl), (by rw [cell_of_block B2.out]; rfl), S1.out⟩
  case rest =>
    obtain ⟨b5, b6, rfl, rfl, C5, C6, S1⟩ := hcut
    have d5 := C5.out
    have d6 := C6.out
    obtain ⟨ka, pa, kc, pc, q, k0, k1, k2, hk, hp, hb⟩ := (HI.out.step S1.out).cell
    simp only at k0 k1 k2 hk hp hb
    have cT := fun w' (hs : Step noF wc w') => takeRow_any q ms (by omega) hr hg PR w' (hb.step hs)
    rw [← HPR.out] at cT
    simp only at cT
    have HG := hid (takeM_good PR ms hg)
    have HRI := hid (takeM_rising PR ms hr)
    have HLN : Hid ((takeM PR ms).length ≤ 100000) := Nat.le_trans (takeM_len PR ms) hml
    rw [HPR.out] at cT
    rw [HTM.out] at cT HG HRI HLN
    have cF := fun a c w' hc hm => ofGood_any TM HG.out HRI.out (by have := HLN.out; omega) a c hc w' hm
    have HKK := hid hk
    have HPP := hid hp
    have c0 := S1.out.after b0
    have c1 := S1.out.after b1
    obtain ⟨L, hL⟩ : ∃ L, TM.length = L := ⟨_, rfl⟩
    rw [hL] at cT cF
    clear hk hp hL cR1 cR2 d5 d6 b0 b1
    have d5 := C5.out
    have d6 := C6.out
    go_upto_region 2 with fail
    go_cut [7] from 20 (fun s7 wx => ∃ b7, s7 = .pointer (some ⟨b7, 0, none⟩) ∧ Hid (BuffAt wx b7 TM) ∧ Hid (Step noF wc wx))
    case first =>
      go_region_law (first
        | (refine step_calls rfl rfl Tryz.func116 (by kernel_rfl) (by kernel_rfl) (args := #[.pointer (some ⟨q, 0, none⟩), .agg #[.string (str R1.lo), .string (str R2.hi)]]) (by first | rfl | (simp [Act.eval, Act.put]; done)) ?_; refine (cT _ (by first | exact Step.refl noF wc | exact (Step.refl noF wc).drew | exact (Step.refl noF wc).drewN _)).mono ?_; rintro e w6 ⟨ta, tc, rfl, TN, TMM, s6⟩; have V0 : Hid (Step noF wc w6) := (by first | exact s6.out | exact ((Step.refl noF wc).drew).trans s6.out | exact ((Step.refl noF wc).drewN _).trans s6.out); clear s6; refine ⟨_, rfl, ?_⟩)
        | (refine step_calls rfl rfl Tryz.func86 (by kernel_rfl) (by kernel_rfl) (args := #[.slice ta L tc]) (by first | rfl | (simp [Act.eval, Act.put]; done)) ?_; refine (cF _ _ _ TN.out (by first | exact TMM.out | exact MsgsAt.stepB TMM.out (Step.refl noF _).drew)).mono ?_; rintro e w7 ⟨b7, rfl, HB7, s7⟩; have V1 : Hid (Step noF wc w7) := (by first | exact V0.out.trans s7.out | exact V0.out.drew.trans s7.out); clear s7; refine ⟨_, rfl, ?_⟩))
      all_goals go_wp2_with fail
      all_goals go_meet
      all_goals exact ⟨b7, rfl, HB7.out, V1.out⟩
    case rest =>
      obtain ⟨b7, rfl, HB7, S7⟩ := hcut
      have S17 := hid (S1.out.trans S7.out)
      have e0 := S7.out.after c0
      have e1 := S7.out.after c1
      have f0 := S7.out.after k0
      have f1 := S7.out.after k1
      have HK7 := hid (HKK.out.step S7.out)
      have HP7 := hid (HPP.out.step S7.out)
      obtain ⟨n, hn⟩ : ∃ n, ks.length = n := ⟨_, rfl⟩
      obtain ⟨m, hm⟩ : ∃ m, ps.length = m := ⟨_, rfl⟩
      rw [hn] at f0
      rw [hm] at f1
      have hkc := HK7.out.1
      have hpc := HP7.out.1
      have hka : ∃ g off, ka = some ⟨g, off, none⟩ := by
        cases ka with
        | none =>
          have := List.map_eq_nil_iff.1 (row1_none HK7.out.2.2)
          have hz : ks.length = 0 := by rw [this]; rfl
          omega
        | some ad => obtain ⟨g, off, e, _⟩ := row1_some HK7.out.2.1; exact ⟨g, off, by rw [e]⟩
      have hpa : ∃ g off, pa = some ⟨g, off, none⟩ := by
        cases pa with
        | none =>
          have := List.map_eq_nil_iff.1 (row1_none HP7.out.2.2)
          have hz : ps.length = 0 := by rw [this]; rfl
          omega
        | some ad => obtain ⟨g, off, e, _⟩ := row1_some HP7.out.2.1; exact ⟨g, off, by rw [e]⟩
      obtain ⟨g, off, rfl⟩ := hka
      obtain ⟨g2, off2, rfl⟩ := hpa
      have hlk : ((ks.take t).drop f).length = t - f := by simp; omega
      have hlp : ((ps.take t1).drop f).length = t1 - f := by simp; omega
      have nk : ¬ kc = f := by omega
      have np : ¬ pc = f := by omega
      have HNK : Hid (SlAt wc (some ⟨g, off + f, none⟩) (t - f) (kc - f) (intsOf ((ks.take t).drop f))) := ⟨by omega, ⟨(fun e => by cases e), (fun ad e => ⟨g, off + f, (Option.some.inj e).symm, by obtain ⟨_, _, e2, h2⟩ := row1_some HK7.out.2.1; injection e2 with e2; rw [e2]; exact h2⟩)⟩, by rw [← ints_sub]; exact sub_row1 HK7.out.2.2 f t (by rw [ints_length]; omega)⟩
      have HNP : Hid (SlAt wc (some ⟨g2, off2 + f, none⟩) (t1 - f) (pc - f) (texts ((ps.take t1).drop f))) := ⟨by omega, ⟨(fun e => by cases e), (fun ad e => ⟨g2, off2 + f, (Option.some.inj e).symm, by obtain ⟨_, _, e2, h2⟩ := row1_some HP7.out.2.1; injection e2 with e2; rw [e2]; exact h2⟩)⟩, by rw [← texts_sub]; exact sub_row1 HP7.out.2.2 f t1 (by rw [texts_length]; omega)⟩
      have HN := fun w' (hs : Step noF wc w') => hid (innerAt_new (d := ⟨(ks.take t).drop f, (ps.take t1).drop f, TM⟩) (by simp only [hlk]; exact HNK.out.step hs) (by simp only [hlp]; exact HNP.out.step hs) (HB7.out.step hs))
      simp only [hlk, hlp] at HN
      have q1 : (0 : Int) ≤ (f : Int) := by omega
      have q2 : (f : Int) ≤ (t : Int) := by omega
      have q3 : (t : Int) ≤ (kc : Int) := by omega
      have q4 : (f : Int) ≤ (t1 : Int) := by omega
      have q5 : (t1 : Int) ≤ (pc : Int) := by omega
      have g1 : (t : Int) - (f : Int) = ((t - f : Nat) : Int) := by omega
      have g2' : (kc : Int) - (f : Int) = ((kc - f : Nat) : Int) := by omega
      have g3 : (t1 : Int) - (f : Int) = ((t1 - f : Nat) : Int) := by omega
      have g4 : (pc : Int) - (f : Int) = ((pc - f : Nat) : Int) := by omega
      clear hlk hlp hn hm hkc hpc k0 k1 k2 hb cT cF c0 c1 d5 d6 h0 hft1
      go_wp2_with fail
      go_region
      all_goals go_wp2_with fail
      all_goals go_ret
      all_goals exact ⟨_, rfl, (HN _ (Step.refl noF wc)).out.step ((Step.refl noF _).drew), ((ST.out.trans S17.out).alloc _).drew⟩
end Go.Proofs.YtoobelcphcndoaaGreat
