/-
  The region that draws in grangerlaw11.InnerBack (number 17), operation by operation. Written by draw6.py.
  The region that draws in grangerlaw11.InnerBack (number 18), operation by operation. Written by draw6.py.
  The law InnerBack: parts, joined with the pivots between them, are the node.
  The law InnerBack, lifted to the given statement.
-/
import Derived.Test.YtgmgoaencaldmaaPred2
import Derived.Test.YtgmgoaencaldmaaInB
import Derived.Test.YtgmgoaencaldmaaInAw
import Derived.Lib.MinMax
import Derived.Deep.CutRange
import Derived.Test.YtgmgoaencaldmaaKeyRows
namespace Go.Proofs.Ytgmgoaencaldmaa
open Go.RowKit
set_option linter.unusedVariables false
set_option linter.unusedSimpArgs false


def ibkaDs : List Nat := [80, 81, 82, 83, 84, 85, 86, 87, 88, 89, 90, 79, 91, 92, 11, 12]
def ibkaDl : List (Option Nat) := [some 80, some 81, some 82, some 83, some 84, some 85, some 86, some 87, some 88, some 89, some 90, some 79, some 91, some 92, some 11, some 12]
theorem ibka_dl : ((Try.f4.body.bind (regionOps 17)).getD #[]).toList.map (·.dst) = ibkaDl := by kernel_rfl
theorem ibka_back : backB ((Try.f4.body.bind (regionOps 17)).getD #[]) = true := by kernel_rfl
theorem ibka_size : ((Try.f4.body.bind (regionOps 17)).getD #[]).size = 16 := by kernel_rfl
theorem ibka_nd : ibkaDl.Pairwise (fun x y => x = none ∨ x ≠ y) := by decide
theorem ibka_lt (d : Nat) (h : some d ∈ ibkaDl) : d < 130 := by
  have hh : ibkaDl.all (fun o => o.all (fun d => decide (d < 130))) = true := by decide
  simpa using List.all_eq_true.1 hh _ h
theorem ibkaOp0 : opIs ((Try.f4.body.bind (regionOps 17)).getD #[]) 0 (some 80) (Op.move (Operand.tmp 7)) (none) := opIs_of (by kernel_rfl)
theorem ibkaOp1 : opIs ((Try.f4.body.bind (regionOps 17)).getD #[]) 1 (some 81) (Op.move (Operand.tmp 6)) (none) := opIs_of (by kernel_rfl)
theorem ibkaOp2 : opIs ((Try.f4.body.bind (regionOps 17)).getD #[]) 2 (some 82) (Op.move (Operand.tmp 10)) (none) := opIs_of (by kernel_rfl)
theorem ibkaOp3 : opIs ((Try.f4.body.bind (regionOps 17)).getD #[]) 3 (some 83) (Op.binOp BinOp.sub 3 (Operand.tmp 82) (Operand.const (Value.int IntKind.i64 1)) 3) (none) := opIs_of (by kernel_rfl)
theorem ibkaOp4 : opIs ((Try.f4.body.bind (regionOps 17)).getD #[]) 4 (some 84) (Op.indexAddr 23 (Operand.tmp 81) (Operand.tmp 83)) (none) := opIs_of (by kernel_rfl)
theorem ibkaOp5 : opIs ((Try.f4.body.bind (regionOps 17)).getD #[]) 5 (some 85) (Op.load 9 (Operand.tmp 84)) (none) := opIs_of (by kernel_rfl)
theorem ibkaOp6 : opIs ((Try.f4.body.bind (regionOps 17)).getD #[]) 6 (some 86) (Op.move (Operand.tmp 5)) (none) := opIs_of (by kernel_rfl)
theorem ibkaOp7 : opIs ((Try.f4.body.bind (regionOps 17)).getD #[]) 7 (some 87) (Op.move (Operand.tmp 10)) (none) := opIs_of (by kernel_rfl)
theorem ibkaOp8 : opIs ((Try.f4.body.bind (regionOps 17)).getD #[]) 8 (some 88) (Op.indexAddr 50 (Operand.tmp 86) (Operand.tmp 87)) (none) := opIs_of (by kernel_rfl)
theorem ibkaOp9 : opIs ((Try.f4.body.bind (regionOps 17)).getD #[]) 9 (some 89) (Op.load 27 (Operand.tmp 88)) (none) := opIs_of (by kernel_rfl)
theorem ibkaOp10 : opIs ((Try.f4.body.bind (regionOps 17)).getD #[]) 10 (some 90) (Op.call { callee := Callee.value (Operand.func 20), args := #[Operand.tmp 80, Operand.tmp 85, Operand.tmp 89], argTypes := #[27, 9, 27] }) (none) := opIs_of (by kernel_rfl)
theorem ibkaOp11 : opIs ((Try.f4.body.bind (regionOps 17)).getD #[]) 11 (some 79) (Op.move (Operand.tmp 90)) (none) := opIs_of (by kernel_rfl)
theorem ibkaOp12 : opIs ((Try.f4.body.bind (regionOps 17)).getD #[]) 12 (some 91) (Op.extract (Operand.tmp 79) 0) (none) := opIs_of (by kernel_rfl)
theorem ibkaOp13 : opIs ((Try.f4.body.bind (regionOps 17)).getD #[]) 13 (some 92) (Op.extract (Operand.tmp 79) 1) (none) := opIs_of (by kernel_rfl)
theorem ibkaOp14 : opIs ((Try.f4.body.bind (regionOps 17)).getD #[]) 14 (some 11) (Op.assign (Operand.tmp 91)) (none) := opIs_of (by kernel_rfl)
theorem ibkaOp15 : opIs ((Try.f4.body.bind (regionOps 17)).getD #[]) 15 (some 12) (Op.assign (Operand.tmp 92)) (none) := opIs_of (by kernel_rfl)
/-- What is said of each slot. -/
def ibkaSp (q b off bn bc j jm g c q2 : Nat) (PV : List UInt8) (D : Nd) (i : Nat) (w : World) (v : Value) : Prop := match i with
  | 0 => v = .pointer (some ⟨q, 0, none⟩)
  | 1 => v = .slice (some ⟨b, off, none⟩) bn bc
  | 2 => v = .int .i64 j
  | 3 => v = .int .i64 jm
  | 4 => v = .pointer (some ⟨b, off + jm, none⟩)
  | 5 => v = .string (str PV)
  | 6 => v = .slice (some ⟨g, 0, none⟩) c c
  | 7 => v = .int .i64 j
  | 8 => v = .pointer (some ⟨g, j, none⟩)
  | 9 => v = .pointer (some ⟨q2, 0, none⟩)
  | 10 => ∃ x, v = .tuple #[.pointer (some ⟨x, 0, none⟩), .int .i64 0] ∧ InnerAt w x D
  | 11 => ∃ x, v = .tuple #[.pointer (some ⟨x, 0, none⟩), .int .i64 0] ∧ InnerAt w x D
  | 12 => ∃ x, v = .pointer (some ⟨x, 0, none⟩) ∧ InnerAt w x D
  | 13 => v = .int .i64 0
  | 14 => ∃ x, v = .pointer (some ⟨x, 0, none⟩) ∧ InnerAt w x D
  | 15 => v = .int .i64 0
  | _ => True
theorem ibkaKeep90 (q b off bn bc j jm g c q2 : Nat) (PV : List UInt8) (D : Nd) {w w' : World} {v : Value} (hs : Step noF w w') (h : ∃ x, v = .tuple #[.pointer (some ⟨x, 0, none⟩), .int .i64 0] ∧ InnerAt w x D) : ∃ x, v = .tuple #[.pointer (some ⟨x, 0, none⟩), .int .i64 0] ∧ InnerAt w' x D := by
  obtain ⟨x, h1, h2⟩ := h; exact ⟨x, h1, h2.step hs⟩
theorem ibkaKeep79 (q b off bn bc j jm g c q2 : Nat) (PV : List UInt8) (D : Nd) {w w' : World} {v : Value} (hs : Step noF w w') (h : ∃ x, v = .tuple #[.pointer (some ⟨x, 0, none⟩), .int .i64 0] ∧ InnerAt w x D) : ∃ x, v = .tuple #[.pointer (some ⟨x, 0, none⟩), .int .i64 0] ∧ InnerAt w' x D := by
  obtain ⟨x, h1, h2⟩ := h; exact ⟨x, h1, h2.step hs⟩
theorem ibkaKeep91 (q b off bn bc j jm g c q2 : Nat) (PV : List UInt8) (D : Nd) {w w' : World} {v : Value} (hs : Step noF w w') (h : ∃ x, v = .pointer (some ⟨x, 0, none⟩) ∧ InnerAt w x D) : ∃ x, v = .pointer (some ⟨x, 0, none⟩) ∧ InnerAt w' x D := by
  obtain ⟨x, h1, h2⟩ := h; exact ⟨x, h1, h2.step hs⟩
theorem ibkaKeep11 (q b off bn bc j jm g c q2 : Nat) (PV : List UInt8) (D : Nd) {w w' : World} {v : Value} (hs : Step noF w w') (h : ∃ x, v = .pointer (some ⟨x, 0, none⟩) ∧ InnerAt w x D) : ∃ x, v = .pointer (some ⟨x, 0, none⟩) ∧ InnerAt w' x D := by
  obtain ⟨x, h1, h2⟩ := h; exact ⟨x, h1, h2.step hs⟩
theorem ibkaSp_mono (q b off bn bc j jm g c q2 : Nat) (PV : List UInt8) (D : Nd) : ∀ i w w' v, Step noF w w' → ibkaSp q b off bn bc j jm g c q2 PV D i w v → ibkaSp q b off bn bc j jm g c q2 PV D i w' v := by
  intro i w w' v hs h
  match i with
  | 0 => exact h
  | 1 => exact h
  | 2 => exact h
  | 3 => exact h
  | 4 => exact h
  | 5 => exact h
  | 6 => exact h
  | 7 => exact h
  | 8 => exact h
  | 9 => exact h
  | 10 => exact ibkaKeep90 q b off bn bc j jm g c q2 PV D hs h
  | 11 => exact ibkaKeep79 q b off bn bc j jm g c q2 PV D hs h
  | 12 => exact ibkaKeep91 q b off bn bc j jm g c q2 PV D hs h
  | 13 => exact h
  | 14 => exact ibkaKeep11 q b off bn bc j jm g c q2 PV D hs h
  | 15 => exact h
  | k + 16 => exact h

set_option maxHeartbeats 4000000 in
set_option maxRecDepth 100000 in
theorem ibka_go (q b off bn bc j jm g c q2 : Nat) (PV : List UInt8) (D : Nd) (w0 : World) (k10 : w0.cell? ⟨b, off + jm, none⟩ = some (.string (str PV))) (k20 : w0.cell? ⟨g, j, none⟩ = some (.pointer (some ⟨q2, 0, none⟩))) (e10 : (j : Int) - 1 = (jm : Int)) (w10 : IntKind.i64.wrap (jm : Int) = (jm : Int)) (l10 : (jm : Int) < (bn : Int)) (l20 : (j : Int) < (c : Int)) (c900 : ∀ w0', Step noF w0 w0' → Calls Try.prog 20 #[.pointer (some ⟨q, 0, none⟩), .string (str PV), .pointer (some ⟨q2, 0, none⟩)] w0' fun e w0'' => ∃ v, e = .returned v ∧ Step noF w0' w0'' ∧ ∃ x, v = .tuple #[.pointer (some ⟨x, 0, none⟩), .int .i64 0] ∧ InnerAt w0'' x D)
    {Q : Exit → Act → World → Prop} (a0 : Act) (hsz : a0.tmps.size = 130) (h5 : a0.tmps.getD 5 undef = .slice (some ⟨g, 0, none⟩) c c) (h6 : a0.tmps.getD 6 undef = .slice (some ⟨b, off, none⟩) bn bc) (h7 : a0.tmps.getD 7 undef = .pointer (some ⟨q, 0, none⟩)) (h10 : a0.tmps.getD 10 undef = .int .i64 j)
    (hend : ∀ (f : Nat → Value) (w : World), Step noF w0 w → ibkaSp q b off bn bc j jm g c q2 PV D 14 w (f 11) → ibkaSp q b off bn bc j jm g c q2 PV D 15 w (f 12) → Q .normal (putAll a0 (ibkaDs.map some) (ibkaDs.map f)) w) :
    (Code.region 17 ((Try.f4.body.bind (regionOps 17)).getD #[]) true).wp Try.prog Q a0 w0 := by
  refine wp_region_preds (ibkaSp q b off bn bc j jm g c q2 PV D) (ibkaSp_mono q b off bn bc j jm g c q2 PV D) ibkaDl (by kernel_rfl) ibka_back ibka_dl ibka_nd (fun d h => by rw [hsz]; exact ibka_lt d h) ?_ ?_
  · intro i hi a w hs hfr hat
    rw [ibka_size] at hi
    have n5 := (hfr 5 (by decide)).trans h5
    have n6 := (hfr 6 (by decide)).trans h6
    have n7 := (hfr 7 (by decide)).trans h7
    have n10 := (hfr 10 (by decide)).trans h10
    have k1 : w.cell? ⟨b, off + jm, none⟩ = some (.string (str PV)) := hs.after k10
    have k2 : w.cell? ⟨g, j, none⟩ = some (.pointer (some ⟨q2, 0, none⟩)) := hs.after k20
    have e1 : (j : Int) - 1 = (jm : Int) := e10
    have w1 : IntKind.i64.wrap (jm : Int) = (jm : Int) := w10
    have l1 : (jm : Int) < (bn : Int) := l10
    have l2 : (j : Int) < (c : Int) := l20
    have c90 : ∀ w', Step noF w w' → Calls Try.prog 20 #[.pointer (some ⟨q, 0, none⟩), .string (str PV), .pointer (some ⟨q2, 0, none⟩)] w' fun e w'' => ∃ v, e = .returned v ∧ Step noF w' w'' ∧ ∃ x, v = .tuple #[.pointer (some ⟨x, 0, none⟩), .int .i64 0] ∧ InnerAt w'' x D := fun w' s' => c900 w' (hs.trans s')
    match i, hi with
    | 0, _ =>
      refine op_runs (d := some 80) ibkaOp0 (wants_none a) (v := .pointer (some ⟨q, 0, none⟩)) (w' := w) ?_ ⟨80, _, rfl, rfl, Step.refl _ _, rfl⟩
      intro oo hoo
      simp only [execOp, hoo, Act.eval, n7]
      go_simp
    | 1, _ =>
      refine op_runs (d := some 81) ibkaOp1 (wants_none a) (v := .slice (some ⟨b, off, none⟩) bn bc) (w' := w) ?_ ⟨81, _, rfl, rfl, Step.refl _ _, rfl⟩
      intro oo hoo
      simp only [execOp, hoo, Act.eval, n6]
      go_simp
    | 2, _ =>
      refine op_runs (d := some 82) ibkaOp2 (wants_none a) (v := .int .i64 j) (w' := w) ?_ ⟨82, _, rfl, rfl, Step.refl _ _, rfl⟩
      intro oo hoo
      simp only [execOp, hoo, Act.eval, n10]
      go_simp
    | 3, _ =>
      have n82 : a.tmps.getD 82 undef = _ := hat 2 (List.contains_iff_mem.1 (by kernel_rfl)) 82 rfl
      refine op_runs (d := some 83) ibkaOp3 (wants_none a) (v := .int .i64 jm) (w' := w) ?_ ⟨83, _, rfl, rfl, Step.refl _ _, rfl⟩
      intro oo hoo
      simp only [execOp, hoo, Act.eval, n82]
      go_simp
    | 4, _ =>
      have n81 : a.tmps.getD 81 undef = _ := hat 1 (List.contains_iff_mem.1 (by kernel_rfl)) 81 rfl
      have n83 : a.tmps.getD 83 undef = _ := hat 3 (List.contains_iff_mem.1 (by kernel_rfl)) 83 rfl
      refine op_runs (d := some 84) ibkaOp4 (wants_none a) (v := .pointer (some ⟨b, off + jm, none⟩)) (w' := w) ?_ ⟨84, _, rfl, rfl, Step.refl _ _, rfl⟩
      intro oo hoo
      simp only [execOp, hoo, Act.eval, n81, n83]
      go_simp
    | 5, _ =>
      have n84 : a.tmps.getD 84 undef = _ := hat 4 (List.contains_iff_mem.1 (by kernel_rfl)) 84 rfl
      refine op_runs (d := some 85) ibkaOp5 (wants_none a) (v := .string (str PV)) (w' := w) ?_ ⟨85, _, rfl, rfl, Step.refl _ _, rfl⟩
      intro oo hoo
      simp only [execOp, hoo, Act.eval, n84]
      go_simp
    | 6, _ =>
      refine op_runs (d := some 86) ibkaOp6 (wants_none a) (v := .slice (some ⟨g, 0, none⟩) c c) (w' := w) ?_ ⟨86, _, rfl, rfl, Step.refl _ _, rfl⟩
      intro oo hoo
      simp only [execOp, hoo, Act.eval, n5]
      go_simp
    | 7, _ =>
      refine op_runs (d := some 87) ibkaOp7 (wants_none a) (v := .int .i64 j) (w' := w) ?_ ⟨87, _, rfl, rfl, Step.refl _ _, rfl⟩
      intro oo hoo
      simp only [execOp, hoo, Act.eval, n10]
      go_simp
    | 8, _ =>
      have n86 : a.tmps.getD 86 undef = _ := hat 6 (List.contains_iff_mem.1 (by kernel_rfl)) 86 rfl
      have n87 : a.tmps.getD 87 undef = _ := hat 7 (List.contains_iff_mem.1 (by kernel_rfl)) 87 rfl
      refine op_runs (d := some 88) ibkaOp8 (wants_none a) (v := .pointer (some ⟨g, j, none⟩)) (w' := w) ?_ ⟨88, _, rfl, rfl, Step.refl _ _, rfl⟩
      intro oo hoo
      simp only [execOp, hoo, Act.eval, n86, n87]
      go_simp
    | 9, _ =>
      have n88 : a.tmps.getD 88 undef = _ := hat 8 (List.contains_iff_mem.1 (by kernel_rfl)) 88 rfl
      refine op_runs (d := some 89) ibkaOp9 (wants_none a) (v := .pointer (some ⟨q2, 0, none⟩)) (w' := w) ?_ ⟨89, _, rfl, rfl, Step.refl _ _, rfl⟩
      intro oo hoo
      simp only [execOp, hoo, Act.eval, n88]
      go_simp
    | 10, _ =>
      have n80 : a.tmps.getD 80 undef = _ := hat 0 (List.contains_iff_mem.1 (by kernel_rfl)) 80 rfl
      have n85 : a.tmps.getD 85 undef = _ := hat 5 (List.contains_iff_mem.1 (by kernel_rfl)) 85 rfl
      have n89 : a.tmps.getD 89 undef = _ := hat 9 (List.contains_iff_mem.1 (by kernel_rfl)) 89 rfl
      refine op_calls ibkaOp10 (wants_none a) Try.func20 (by kernel_rfl) (by kernel_rfl) (args := #[.pointer (some ⟨q, 0, none⟩), .string (str PV), .pointer (some ⟨q2, 0, none⟩)]) (by simp [Act.eval, n80, n85, n89]) ((c90 w (Step.refl _ _)).mono ?_)
      rintro e w' ⟨v, rfl, s', hv⟩
      exact ⟨_, rfl, 90, _, rfl, rfl, s', hv⟩
    | 11, _ =>
      have hp90 : ibkaSp q b off bn bc j jm g c q2 PV D 10 w (a.tmps.getD 90 undef) := hat 10 (List.contains_iff_mem.1 (by kernel_rfl)) 90 rfl
      have hq90 := hp90
      obtain ⟨x90, n90, r90⟩ := hq90
      refine op_runs (d := some 79) ibkaOp11 (wants_none a) (v := a.tmps.getD 90 undef) (w' := w) ?_ ⟨79, _, rfl, rfl, Step.refl _ _, hp90⟩
      intro oo hoo
      simp only [execOp, hoo, Act.eval]
      go_simp
    | 12, _ =>
      have hp79 : ibkaSp q b off bn bc j jm g c q2 PV D 11 w (a.tmps.getD 79 undef) := hat 11 (List.contains_iff_mem.1 (by kernel_rfl)) 79 rfl
      have hq79 := hp79
      obtain ⟨x79, n79, r79⟩ := hq79
      refine op_runs (d := some 91) ibkaOp12 (wants_none a) (v := .pointer (some ⟨x79, 0, none⟩)) (w' := w) ?_ ⟨91, _, rfl, rfl, (by first | exact (Step.refl _ _).alloc _ | exact Step.refl _ _), ⟨_, rfl, r79⟩⟩
      intro oo hoo
      simp only [execOp, hoo, Act.eval, List.map_toArray, List.map_cons, List.map_nil, n79]
      go_simp
    | 13, _ =>
      have hp79 : ibkaSp q b off bn bc j jm g c q2 PV D 11 w (a.tmps.getD 79 undef) := hat 11 (List.contains_iff_mem.1 (by kernel_rfl)) 79 rfl
      have hq79 := hp79
      obtain ⟨x79, n79, r79⟩ := hq79
      refine op_runs (d := some 92) ibkaOp13 (wants_none a) (v := .int .i64 0) (w' := w) ?_ ⟨92, _, rfl, rfl, Step.refl _ _, rfl⟩
      intro oo hoo
      simp only [execOp, hoo, Act.eval, n79]
      go_simp
    | 14, _ =>
      have hp91 : ibkaSp q b off bn bc j jm g c q2 PV D 12 w (a.tmps.getD 91 undef) := hat 12 (List.contains_iff_mem.1 (by kernel_rfl)) 91 rfl
      have hq91 := hp91
      obtain ⟨x91, n91, r91⟩ := hq91
      refine op_runs (d := some 11) ibkaOp14 (wants_none a) (v := a.tmps.getD 91 undef) (w' := w) ?_ ⟨11, _, rfl, rfl, Step.refl _ _, hp91⟩
      intro oo hoo
      simp only [execOp, hoo, Act.eval]
      go_simp
    | 15, _ =>
      have n92 : a.tmps.getD 92 undef = _ := hat 13 (List.contains_iff_mem.1 (by kernel_rfl)) 92 rfl
      refine op_runs (d := some 12) ibkaOp15 (wants_none a) (v := .int .i64 0) (w' := w) ?_ ⟨12, _, rfl, rfl, Step.refl _ _, rfl⟩
      intro oo hoo
      simp only [execOp, hoo, Act.eval, n92]
      go_simp
    | k + 16, h => exact absurd h (by omega)
  · intro a w hs hdf hs2 hfr hat
    rw [ibka_size] at hat
    have e := act_vals (a := a) (a0 := a0) ibkaDs (by decide) (fun d hd => by rw [hsz]; exact ibka_lt d (by revert hd; revert d; decide)) hdf hs2 (fun k hk => hfr k (fun hk2 => hk (by revert hk2; simp [ibkaDl, ibkaDs])))
    rw [e]
    exact hend (fun d => a.tmps.getD d undef) w hs (hat 14 (by omega) 11 rfl) (hat 15 (by omega) 12 rfl)
set_option maxRecDepth 100000 in
theorem ibka_lit (f : Nat → Value) (D : List Deferred) (x0 x1 x2 x3 x4 x5 x6 x7 x8 x9 x10 x11 x12 x13 x14 x15 x16 x17 x18 x19 x20 x21 x22 x23 x24 x25 x26 x27 x28 x29 x30 x31 x32 x33 x34 x35 x36 x37 x38 x39 x40 x41 x42 x43 x44 x45 x46 x47 x48 x49 x50 x51 x52 x53 x54 x55 x56 x57 x58 x59 x60 x61 x62 x63 x64 x65 x66 x67 x68 x69 x70 x71 x72 x73 x74 x75 x76 x77 x78 x79 x80 x81 x82 x83 x84 x85 x86 x87 x88 x89 x90 x91 x92 x93 x94 x95 x96 x97 x98 x99 x100 x101 x102 x103 x104 x105 x106 x107 x108 x109 x110 x111 x112 x113 x114 x115 x116 x117 x118 x119 x120 x121 x122 x123 x124 x125 x126 x127 x128 x129 : Value) : putAll { tmps := #[x0, x1, x2, x3, x4, x5, x6, x7, x8, x9, x10, x11, x12, x13, x14, x15, x16, x17, x18, x19, x20, x21, x22, x23, x24, x25, x26, x27, x28, x29, x30, x31, x32, x33, x34, x35, x36, x37, x38, x39, x40, x41, x42, x43, x44, x45, x46, x47, x48, x49, x50, x51, x52, x53, x54, x55, x56, x57, x58, x59, x60, x61, x62, x63, x64, x65, x66, x67, x68, x69, x70, x71, x72, x73, x74, x75, x76, x77, x78, x79, x80, x81, x82, x83, x84, x85, x86, x87, x88, x89, x90, x91, x92, x93, x94, x95, x96, x97, x98, x99, x100, x101, x102, x103, x104, x105, x106, x107, x108, x109, x110, x111, x112, x113, x114, x115, x116, x117, x118, x119, x120, x121, x122, x123, x124, x125, x126, x127, x128, x129], defers := D } (ibkaDs.map some) (ibkaDs.map f) = { tmps := #[x0, x1, x2, x3, x4, x5, x6, x7, x8, x9, x10, f 11, f 12, x13, x14, x15, x16, x17, x18, x19, x20, x21, x22, x23, x24, x25, x26, x27, x28, x29, x30, x31, x32, x33, x34, x35, x36, x37, x38, x39, x40, x41, x42, x43, x44, x45, x46, x47, x48, x49, x50, x51, x52, x53, x54, x55, x56, x57, x58, x59, x60, x61, x62, x63, x64, x65, x66, x67, x68, x69, x70, x71, x72, x73, x74, x75, x76, x77, x78, f 79, f 80, f 81, f 82, f 83, f 84, f 85, f 86, f 87, f 88, f 89, f 90, f 91, f 92, x93, x94, x95, x96, x97, x98, x99, x100, x101, x102, x103, x104, x105, x106, x107, x108, x109, x110, x111, x112, x113, x114, x115, x116, x117, x118, x119, x120, x121, x122, x123, x124, x125, x126, x127, x128, x129], defers := D } := by kernel_rfl
end Go.Proofs.Ytgmgoaencaldmaa
namespace Go.Proofs.Ytgmgoaencaldmaa
open Go.RowKit
set_option linter.unusedVariables false
set_option linter.unusedSimpArgs false


def ibkbDs : List Nat := [93, 94, 95, 96, 97, 98, 99, 100, 101, 102, 103, 104, 105, 106, 107, 108]
def ibkbDl : List (Option Nat) := [some 93, some 94, some 95, some 96, some 97, some 98, some 99, some 100, some 101, some 102, some 103, some 104, some 105, some 106, some 107, some 108]
theorem ibkb_dl : ((Try.f4.body.bind (regionOps 18)).getD #[]).toList.map (·.dst) = ibkbDl := by kernel_rfl
theorem ibkb_back : backB ((Try.f4.body.bind (regionOps 18)).getD #[]) = true := by kernel_rfl
theorem ibkb_size : ((Try.f4.body.bind (regionOps 18)).getD #[]).size = 16 := by kernel_rfl
theorem ibkb_nd : ibkbDl.Pairwise (fun x y => x = none ∨ x ≠ y) := by decide
theorem ibkb_lt (d : Nat) (h : some d ∈ ibkbDl) : d < 130 := by
  have hh : ibkbDl.all (fun o => o.all (fun d => decide (d < 130))) = true := by decide
  simpa using List.all_eq_true.1 hh _ h
theorem ibkbOp0 : opIs ((Try.f4.body.bind (regionOps 18)).getD #[]) 0 (some 93) (Op.move (Operand.tmp 12)) (none) := opIs_of (by kernel_rfl)
theorem ibkbOp1 : opIs ((Try.f4.body.bind (regionOps 18)).getD #[]) 1 (some 94) (Op.binOp BinOp.neq 28 (Operand.tmp 93) (Operand.const (Value.int IntKind.i64 0)) 28) (none) := opIs_of (by kernel_rfl)
theorem ibkbOp2 : opIs ((Try.f4.body.bind (regionOps 18)).getD #[]) 2 (some 95) (Op.move (Operand.tmp 94)) (none) := opIs_of (by kernel_rfl)
theorem ibkbOp3 : opIs ((Try.f4.body.bind (regionOps 18)).getD #[]) 3 (some 96) (Op.move (Operand.tmp 5)) (some (2, false)) := opIs_of (by kernel_rfl)
theorem ibkbOp4 : opIs ((Try.f4.body.bind (regionOps 18)).getD #[]) 4 (some 97) (Op.move (Operand.tmp 10)) (some (2, false)) := opIs_of (by kernel_rfl)
theorem ibkbOp5 : opIs ((Try.f4.body.bind (regionOps 18)).getD #[]) 5 (some 98) (Op.indexAddr 50 (Operand.tmp 96) (Operand.tmp 97)) (some (2, false)) := opIs_of (by kernel_rfl)
theorem ibkbOp6 : opIs ((Try.f4.body.bind (regionOps 18)).getD #[]) 6 (some 99) (Op.load 27 (Operand.tmp 98)) (some (2, false)) := opIs_of (by kernel_rfl)
theorem ibkbOp7 : opIs ((Try.f4.body.bind (regionOps 18)).getD #[]) 7 (some 100) (Op.call { callee := Callee.value (Operand.func 19), args := #[Operand.tmp 99], argTypes := #[27] }) (some (2, false)) := opIs_of (by kernel_rfl)
theorem ibkbOp8 : opIs ((Try.f4.body.bind (regionOps 18)).getD #[]) 8 (some 101) (Op.move (Operand.tmp 5)) (some (2, false)) := opIs_of (by kernel_rfl)
theorem ibkbOp9 : opIs ((Try.f4.body.bind (regionOps 18)).getD #[]) 9 (some 102) (Op.move (Operand.tmp 10)) (some (2, false)) := opIs_of (by kernel_rfl)
theorem ibkbOp10 : opIs ((Try.f4.body.bind (regionOps 18)).getD #[]) 10 (some 103) (Op.binOp BinOp.sub 3 (Operand.tmp 102) (Operand.const (Value.int IntKind.i64 1)) 3) (some (2, false)) := opIs_of (by kernel_rfl)
theorem ibkbOp11 : opIs ((Try.f4.body.bind (regionOps 18)).getD #[]) 11 (some 104) (Op.indexAddr 50 (Operand.tmp 101) (Operand.tmp 103)) (some (2, false)) := opIs_of (by kernel_rfl)
theorem ibkbOp12 : opIs ((Try.f4.body.bind (regionOps 18)).getD #[]) 12 (some 105) (Op.load 27 (Operand.tmp 104)) (some (2, false)) := opIs_of (by kernel_rfl)
theorem ibkbOp13 : opIs ((Try.f4.body.bind (regionOps 18)).getD #[]) 13 (some 106) (Op.call { callee := Callee.value (Operand.func 19), args := #[Operand.tmp 105], argTypes := #[27] }) (some (2, false)) := opIs_of (by kernel_rfl)
theorem ibkbOp14 : opIs ((Try.f4.body.bind (regionOps 18)).getD #[]) 14 (some 107) (Op.binOp BinOp.gtr 3 (Operand.tmp 100) (Operand.tmp 106) 3) (some (2, false)) := opIs_of (by kernel_rfl)
theorem ibkbOp15 : opIs ((Try.f4.body.bind (regionOps 18)).getD #[]) 15 (some 108) (Op.pick (Operand.tmp 95) (Operand.const (Value.bool true)) (Operand.tmp 107)) (none) := opIs_of (by kernel_rfl)
/-- What is said of each slot. -/
def ibkbSp (j jm g c q1 q2 L1 L2 : Nat) (i : Nat) (w : World) (v : Value) : Prop := match i with
  | 0 => v = .int .i64 0
  | 1 => v = .bool false
  | 2 => v = .bool false
  | 3 => v = .slice (some ⟨g, 0, none⟩) c c
  | 4 => v = .int .i64 j
  | 5 => v = .pointer (some ⟨g, j, none⟩)
  | 6 => v = .pointer (some ⟨q2, 0, none⟩)
  | 7 => v = .int .i64 L2
  | 8 => v = .slice (some ⟨g, 0, none⟩) c c
  | 9 => v = .int .i64 j
  | 10 => v = .int .i64 jm
  | 11 => v = .pointer (some ⟨g, jm, none⟩)
  | 12 => v = .pointer (some ⟨q1, 0, none⟩)
  | 13 => v = .int .i64 L1
  | 14 => v = .bool false
  | 15 => v = .bool false
  | _ => True
theorem ibkbSp_mono (j jm g c q1 q2 L1 L2 : Nat) : ∀ i w w' v, Step noF w w' → ibkbSp j jm g c q1 q2 L1 L2 i w v → ibkbSp j jm g c q1 q2 L1 L2 i w' v := by
  intro i w w' v hs h
  match i with
  | 0 => exact h
  | 1 => exact h
  | 2 => exact h
  | 3 => exact h
  | 4 => exact h
  | 5 => exact h
  | 6 => exact h
  | 7 => exact h
  | 8 => exact h
  | 9 => exact h
  | 10 => exact h
  | 11 => exact h
  | 12 => exact h
  | 13 => exact h
  | 14 => exact h
  | 15 => exact h
  | k + 16 => exact h

set_option maxHeartbeats 4000000 in
set_option maxRecDepth 100000 in
theorem ibkb_go (j jm g c q1 q2 L1 L2 : Nat) (w0 : World) (k10 : w0.cell? ⟨g, jm, none⟩ = some (.pointer (some ⟨q1, 0, none⟩))) (k20 : w0.cell? ⟨g, j, none⟩ = some (.pointer (some ⟨q2, 0, none⟩))) (e10 : (j : Int) - 1 = (jm : Int)) (w10 : IntKind.i64.wrap (jm : Int) = (jm : Int)) (l10 : (jm : Int) < (c : Int)) (l20 : (j : Int) < (c : Int)) (lg0 : ¬ (L1 : Int) < (L2 : Int)) (c1000 : ∀ w0', Step noF w0 w0' → Calls Try.prog 19 #[.pointer (some ⟨q2, 0, none⟩)] w0' fun e w0'' => e = .returned (.int .i64 L2) ∧ Step noF w0' w0'') (c1060 : ∀ w0', Step noF w0 w0' → Calls Try.prog 19 #[.pointer (some ⟨q1, 0, none⟩)] w0' fun e w0'' => e = .returned (.int .i64 L1) ∧ Step noF w0' w0'')
    {Q : Exit → Act → World → Prop} (a0 : Act) (hsz : a0.tmps.size = 130) (h5 : a0.tmps.getD 5 undef = .slice (some ⟨g, 0, none⟩) c c) (h10 : a0.tmps.getD 10 undef = .int .i64 j) (h12 : a0.tmps.getD 12 undef = .int .i64 0)
    (hend : ∀ (f : Nat → Value) (w : World), Step noF w0 w → ibkbSp j jm g c q1 q2 L1 L2 15 w (f 108) → Q .normal (putAll a0 (ibkbDs.map some) (ibkbDs.map f)) w) :
    (Code.region 18 ((Try.f4.body.bind (regionOps 18)).getD #[]) true).wp Try.prog Q a0 w0 := by
  refine wp_region_preds (ibkbSp j jm g c q1 q2 L1 L2) (ibkbSp_mono j jm g c q1 q2 L1 L2) ibkbDl (by kernel_rfl) ibkb_back ibkb_dl ibkb_nd (fun d h => by rw [hsz]; exact ibkb_lt d h) ?_ ?_
  · intro i hi a w hs hfr hat
    rw [ibkb_size] at hi
    have n5 := (hfr 5 (by decide)).trans h5
    have n10 := (hfr 10 (by decide)).trans h10
    have n12 := (hfr 12 (by decide)).trans h12
    have k1 : w.cell? ⟨g, jm, none⟩ = some (.pointer (some ⟨q1, 0, none⟩)) := hs.after k10
    have k2 : w.cell? ⟨g, j, none⟩ = some (.pointer (some ⟨q2, 0, none⟩)) := hs.after k20
    have e1 : (j : Int) - 1 = (jm : Int) := e10
    have w1 : IntKind.i64.wrap (jm : Int) = (jm : Int) := w10
    have l1 : (jm : Int) < (c : Int) := l10
    have l2 : (j : Int) < (c : Int) := l20
    have lg : ¬ (L1 : Int) < (L2 : Int) := lg0
    have c100 : ∀ w', Step noF w w' → Calls Try.prog 19 #[.pointer (some ⟨q2, 0, none⟩)] w' fun e w'' => e = .returned (.int .i64 L2) ∧ Step noF w' w'' := fun w' s' => c1000 w' (hs.trans s')
    have c106 : ∀ w', Step noF w w' → Calls Try.prog 19 #[.pointer (some ⟨q1, 0, none⟩)] w' fun e w'' => e = .returned (.int .i64 L1) ∧ Step noF w' w'' := fun w' s' => c1060 w' (hs.trans s')
    match i, hi with
    | 0, _ =>
      refine op_runs (d := some 93) ibkbOp0 (wants_none a) (v := .int .i64 0) (w' := w) ?_ ⟨93, _, rfl, rfl, Step.refl _ _, rfl⟩
      intro oo hoo
      simp only [execOp, hoo, Act.eval, n12]
      go_simp
    | 1, _ =>
      have n93 : a.tmps.getD 93 undef = _ := hat 0 (List.contains_iff_mem.1 (by kernel_rfl)) 93 rfl
      refine op_runs (d := some 94) ibkbOp1 (wants_none a) (v := .bool false) (w' := w) ?_ ⟨94, _, rfl, rfl, Step.refl _ _, rfl⟩
      intro oo hoo
      simp only [execOp, hoo, Act.eval, n93]
      go_simp
    | 2, _ =>
      have n94 : a.tmps.getD 94 undef = _ := hat 1 (List.contains_iff_mem.1 (by kernel_rfl)) 94 rfl
      refine op_runs (d := some 95) ibkbOp2 (wants_none a) (v := .bool false) (w' := w) ?_ ⟨95, _, rfl, rfl, Step.refl _ _, rfl⟩
      intro oo hoo
      simp only [execOp, hoo, Act.eval, n94]
      go_simp
    | 3, _ =>
      have n95 : a.tmps.getD 95 undef = _ := hat 2 (List.contains_iff_mem.1 (by kernel_rfl)) 95 rfl
      refine op_runs (d := some 96) ibkbOp3 (wants_some (d := 95) (b := false) (by kernel_rfl) n95) (v := .slice (some ⟨g, 0, none⟩) c c) (w' := w) ?_ ⟨96, _, rfl, rfl, Step.refl _ _, rfl⟩
      intro oo hoo
      simp only [execOp, hoo, Act.eval, n5]
      go_simp
    | 4, _ =>
      have n95 : a.tmps.getD 95 undef = _ := hat 2 (List.contains_iff_mem.1 (by kernel_rfl)) 95 rfl
      refine op_runs (d := some 97) ibkbOp4 (wants_some (d := 95) (b := false) (by kernel_rfl) n95) (v := .int .i64 j) (w' := w) ?_ ⟨97, _, rfl, rfl, Step.refl _ _, rfl⟩
      intro oo hoo
      simp only [execOp, hoo, Act.eval, n10]
      go_simp
    | 5, _ =>
      have n96 : a.tmps.getD 96 undef = _ := hat 3 (List.contains_iff_mem.1 (by kernel_rfl)) 96 rfl
      have n97 : a.tmps.getD 97 undef = _ := hat 4 (List.contains_iff_mem.1 (by kernel_rfl)) 97 rfl
      have n95 : a.tmps.getD 95 undef = _ := hat 2 (List.contains_iff_mem.1 (by kernel_rfl)) 95 rfl
      refine op_runs (d := some 98) ibkbOp5 (wants_some (d := 95) (b := false) (by kernel_rfl) n95) (v := .pointer (some ⟨g, j, none⟩)) (w' := w) ?_ ⟨98, _, rfl, rfl, Step.refl _ _, rfl⟩
      intro oo hoo
      simp only [execOp, hoo, Act.eval, n96, n97]
      go_simp
    | 6, _ =>
      have n98 : a.tmps.getD 98 undef = _ := hat 5 (List.contains_iff_mem.1 (by kernel_rfl)) 98 rfl
      have n95 : a.tmps.getD 95 undef = _ := hat 2 (List.contains_iff_mem.1 (by kernel_rfl)) 95 rfl
      refine op_runs (d := some 99) ibkbOp6 (wants_some (d := 95) (b := false) (by kernel_rfl) n95) (v := .pointer (some ⟨q2, 0, none⟩)) (w' := w) ?_ ⟨99, _, rfl, rfl, Step.refl _ _, rfl⟩
      intro oo hoo
      simp only [execOp, hoo, Act.eval, n98]
      go_simp
    | 7, _ =>
      have n99 : a.tmps.getD 99 undef = _ := hat 6 (List.contains_iff_mem.1 (by kernel_rfl)) 99 rfl
      have n95 : a.tmps.getD 95 undef = _ := hat 2 (List.contains_iff_mem.1 (by kernel_rfl)) 95 rfl
      refine op_calls ibkbOp7 (wants_some (d := 95) (b := false) (by kernel_rfl) n95) Try.func19 (by kernel_rfl) (by kernel_rfl) (args := #[.pointer (some ⟨q2, 0, none⟩)]) (by simp [Act.eval, n99]) ((c100 w (Step.refl _ _)).mono ?_)
      rintro e w' ⟨rfl, s'⟩
      exact ⟨_, rfl, 100, _, rfl, rfl, s', rfl⟩
    | 8, _ =>
      have n95 : a.tmps.getD 95 undef = _ := hat 2 (List.contains_iff_mem.1 (by kernel_rfl)) 95 rfl
      refine op_runs (d := some 101) ibkbOp8 (wants_some (d := 95) (b := false) (by kernel_rfl) n95) (v := .slice (some ⟨g, 0, none⟩) c c) (w' := w) ?_ ⟨101, _, rfl, rfl, Step.refl _ _, rfl⟩
      intro oo hoo
      simp only [execOp, hoo, Act.eval, n5]
      go_simp
    | 9, _ =>
      have n95 : a.tmps.getD 95 undef = _ := hat 2 (List.contains_iff_mem.1 (by kernel_rfl)) 95 rfl
      refine op_runs (d := some 102) ibkbOp9 (wants_some (d := 95) (b := false) (by kernel_rfl) n95) (v := .int .i64 j) (w' := w) ?_ ⟨102, _, rfl, rfl, Step.refl _ _, rfl⟩
      intro oo hoo
      simp only [execOp, hoo, Act.eval, n10]
      go_simp
    | 10, _ =>
      have n102 : a.tmps.getD 102 undef = _ := hat 9 (List.contains_iff_mem.1 (by kernel_rfl)) 102 rfl
      have n95 : a.tmps.getD 95 undef = _ := hat 2 (List.contains_iff_mem.1 (by kernel_rfl)) 95 rfl
      refine op_runs (d := some 103) ibkbOp10 (wants_some (d := 95) (b := false) (by kernel_rfl) n95) (v := .int .i64 jm) (w' := w) ?_ ⟨103, _, rfl, rfl, Step.refl _ _, rfl⟩
      intro oo hoo
      simp only [execOp, hoo, Act.eval, n102]
      go_simp
    | 11, _ =>
      have n101 : a.tmps.getD 101 undef = _ := hat 8 (List.contains_iff_mem.1 (by kernel_rfl)) 101 rfl
      have n103 : a.tmps.getD 103 undef = _ := hat 10 (List.contains_iff_mem.1 (by kernel_rfl)) 103 rfl
      have n95 : a.tmps.getD 95 undef = _ := hat 2 (List.contains_iff_mem.1 (by kernel_rfl)) 95 rfl
      refine op_runs (d := some 104) ibkbOp11 (wants_some (d := 95) (b := false) (by kernel_rfl) n95) (v := .pointer (some ⟨g, jm, none⟩)) (w' := w) ?_ ⟨104, _, rfl, rfl, Step.refl _ _, rfl⟩
      intro oo hoo
      simp only [execOp, hoo, Act.eval, n101, n103]
      go_simp
    | 12, _ =>
      have n104 : a.tmps.getD 104 undef = _ := hat 11 (List.contains_iff_mem.1 (by kernel_rfl)) 104 rfl
      have n95 : a.tmps.getD 95 undef = _ := hat 2 (List.contains_iff_mem.1 (by kernel_rfl)) 95 rfl
      refine op_runs (d := some 105) ibkbOp12 (wants_some (d := 95) (b := false) (by kernel_rfl) n95) (v := .pointer (some ⟨q1, 0, none⟩)) (w' := w) ?_ ⟨105, _, rfl, rfl, Step.refl _ _, rfl⟩
      intro oo hoo
      simp only [execOp, hoo, Act.eval, n104]
      go_simp
    | 13, _ =>
      have n105 : a.tmps.getD 105 undef = _ := hat 12 (List.contains_iff_mem.1 (by kernel_rfl)) 105 rfl
      have n95 : a.tmps.getD 95 undef = _ := hat 2 (List.contains_iff_mem.1 (by kernel_rfl)) 95 rfl
      refine op_calls ibkbOp13 (wants_some (d := 95) (b := false) (by kernel_rfl) n95) Try.func19 (by kernel_rfl) (by kernel_rfl) (args := #[.pointer (some ⟨q1, 0, none⟩)]) (by simp [Act.eval, n105]) ((c106 w (Step.refl _ _)).mono ?_)
      rintro e w' ⟨rfl, s'⟩
      exact ⟨_, rfl, 106, _, rfl, rfl, s', rfl⟩
    | 14, _ =>
      have n100 : a.tmps.getD 100 undef = _ := hat 7 (List.contains_iff_mem.1 (by kernel_rfl)) 100 rfl
      have n106 : a.tmps.getD 106 undef = _ := hat 13 (List.contains_iff_mem.1 (by kernel_rfl)) 106 rfl
      have n95 : a.tmps.getD 95 undef = _ := hat 2 (List.contains_iff_mem.1 (by kernel_rfl)) 95 rfl
      refine op_runs (d := some 107) ibkbOp14 (wants_some (d := 95) (b := false) (by kernel_rfl) n95) (v := .bool false) (w' := w) ?_ ⟨107, _, rfl, rfl, Step.refl _ _, rfl⟩
      intro oo hoo
      simp only [execOp, hoo, Act.eval, n100, n106]
      go_simp
    | 15, _ =>
      have n95 : a.tmps.getD 95 undef = _ := hat 2 (List.contains_iff_mem.1 (by kernel_rfl)) 95 rfl
      have n107 : a.tmps.getD 107 undef = _ := hat 14 (List.contains_iff_mem.1 (by kernel_rfl)) 107 rfl
      refine op_runs (d := some 108) ibkbOp15 (wants_none a) (v := .bool false) (w' := w) ?_ ⟨108, _, rfl, rfl, Step.refl _ _, rfl⟩
      intro oo hoo
      simp only [execOp, hoo, Act.eval, n95, n107]
      go_simp
    | k + 16, h => exact absurd h (by omega)
  · intro a w hs hdf hs2 hfr hat
    rw [ibkb_size] at hat
    have e := act_vals (a := a) (a0 := a0) ibkbDs (by decide) (fun d hd => by rw [hsz]; exact ibkb_lt d (by revert hd; revert d; decide)) hdf hs2 (fun k hk => hfr k (fun hk2 => hk (by revert hk2; simp [ibkbDl, ibkbDs])))
    rw [e]
    exact hend (fun d => a.tmps.getD d undef) w hs (hat 15 (by omega) 108 rfl)
set_option maxRecDepth 100000 in
theorem ibkb_lit (f : Nat → Value) (D : List Deferred) (x0 x1 x2 x3 x4 x5 x6 x7 x8 x9 x10 x11 x12 x13 x14 x15 x16 x17 x18 x19 x20 x21 x22 x23 x24 x25 x26 x27 x28 x29 x30 x31 x32 x33 x34 x35 x36 x37 x38 x39 x40 x41 x42 x43 x44 x45 x46 x47 x48 x49 x50 x51 x52 x53 x54 x55 x56 x57 x58 x59 x60 x61 x62 x63 x64 x65 x66 x67 x68 x69 x70 x71 x72 x73 x74 x75 x76 x77 x78 x79 x80 x81 x82 x83 x84 x85 x86 x87 x88 x89 x90 x91 x92 x93 x94 x95 x96 x97 x98 x99 x100 x101 x102 x103 x104 x105 x106 x107 x108 x109 x110 x111 x112 x113 x114 x115 x116 x117 x118 x119 x120 x121 x122 x123 x124 x125 x126 x127 x128 x129 : Value) : putAll { tmps := #[x0, x1, x2, x3, x4, x5, x6, x7, x8, x9, x10, x11, x12, x13, x14, x15, x16, x17, x18, x19, x20, x21, x22, x23, x24, x25, x26, x27, x28, x29, x30, x31, x32, x33, x34, x35, x36, x37, x38, x39, x40, x41, x42, x43, x44, x45, x46, x47, x48, x49, x50, x51, x52, x53, x54, x55, x56, x57, x58, x59, x60, x61, x62, x63, x64, x65, x66, x67, x68, x69, x70, x71, x72, x73, x74, x75, x76, x77, x78, x79, x80, x81, x82, x83, x84, x85, x86, x87, x88, x89, x90, x91, x92, x93, x94, x95, x96, x97, x98, x99, x100, x101, x102, x103, x104, x105, x106, x107, x108, x109, x110, x111, x112, x113, x114, x115, x116, x117, x118, x119, x120, x121, x122, x123, x124, x125, x126, x127, x128, x129], defers := D } (ibkbDs.map some) (ibkbDs.map f) = { tmps := #[x0, x1, x2, x3, x4, x5, x6, x7, x8, x9, x10, x11, x12, x13, x14, x15, x16, x17, x18, x19, x20, x21, x22, x23, x24, x25, x26, x27, x28, x29, x30, x31, x32, x33, x34, x35, x36, x37, x38, x39, x40, x41, x42, x43, x44, x45, x46, x47, x48, x49, x50, x51, x52, x53, x54, x55, x56, x57, x58, x59, x60, x61, x62, x63, x64, x65, x66, x67, x68, x69, x70, x71, x72, x73, x74, x75, x76, x77, x78, x79, x80, x81, x82, x83, x84, x85, x86, x87, x88, x89, x90, x91, x92, f 93, f 94, f 95, f 96, f 97, f 98, f 99, f 100, f 101, f 102, f 103, f 104, f 105, f 106, f 107, f 108, x109, x110, x111, x112, x113, x114, x115, x116, x117, x118, x119, x120, x121, x122, x123, x124, x125, x126, x127, x128, x129], defers := D } := by kernel_rfl
end Go.Proofs.Ytgmgoaencaldmaa
namespace Go.Proofs.Ytgmgoaencaldmaa
open Go.RowKit Go.Sort
set_option linter.unusedVariables false
set_option linter.unusedSimpArgs false
set_option maxRecDepth 20000

/-- How many kids a part has. -/
def lenP (n i : Nat) : Nat := cutAt n (countN n) (i + 1) - cutAt n (countN n) i
theorem lenP_eq (n i : Nat) : lenP n i = n / countN n + (if i < n % countN n then 1 else 0) := by
  unfold lenP
  rw [cutAt_succ]
  generalize cutAt n (countN n) i = x
  generalize n / countN n = y
  generalize (if i < n % countN n then 1 else 0) = z
  omega
theorem lenP_down (n i : Nat) : lenP n (i + 1) ≤ lenP n i ∧ lenP n i ≤ lenP n (i + 1) + 1 := by
  rw [lenP_eq, lenP_eq]
  split <;> split <;> omega
theorem lenP_first (n i : Nat) : lenP n 0 ≤ lenP n i + 1 := by
  rw [lenP_eq, lenP_eq]
  split <;> split <;> omega
theorem lenP_most (n : Nat) (hn : 0 < n) : lenP n 0 ≤ 6 := by
  by_cases h : n ≤ 6
  · have : countN n = 1 := by unfold countN; omega
    rw [lenP_eq, this]
    simp
    split <;> omega
  · have hs := part_size n (by omega) 0 (by unfold countN; omega)
    rw [lenP_eq]
    exact hs.2.2.2
theorem parts_at (d : Nd) (hg : goodN d.kids d.pivs = true) (t : Nat) (ht : t < (partsN d).length) : (partsN d)[t].kids.length = lenP d.kids.length t ∧ goodN (partsN d)[t].kids (partsN d)[t].pivs = true := by
  have hk : d.kids ≠ [] := ((goodN_iff _ _).1 hg).1
  have hl : 0 < d.kids.length := List.length_pos_iff.2 hk
  have hpl := partsN_len d hk
  by_cases hc : countN d.kids.length < 2
  · have h1 : countN d.kids.length = 1 := by unfold countN at *; omega
    have e : partsN d = [d] := by unfold partsN; rw [if_pos hc]
    have ht0 : t = 0 := by rw [hpl, h1] at ht; omega
    subst ht0
    have : (partsN d)[0] = d := by simp [e]
    rw [this]
    refine ⟨?_, hg⟩
    rw [lenP_eq, h1, Nat.div_one, Nat.mod_one]
    simp
  · have e : partsN d = (List.range (countN d.kids.length)).map (partN d (countN d.kids.length)) := by unfold partsN; rw [if_neg hc]
    have ht2 : t < countN d.kids.length := by rw [hpl] at ht; exact ht
    have : (partsN d)[t] = partN d (countN d.kids.length) t := by simp [e]
    rw [this]
    have hcn : countN d.kids.length ≤ d.kids.length := by unfold countN; omega
    refine ⟨?_, part_good d hg _ t (by omega) hcn ht2⟩
    have a1 := cutAt_le d.kids.length (countN d.kids.length) (by omega) (show t + 1 ≤ countN d.kids.length from ht2)
    show (partKids d.kids _ _).length = _
    unfold partKids lenP
    simp
    omega
theorem parts_ok (d : Nd) (hd : NdOk d) (t : Nat) (ht : t < (partsN d).length) : NdOk (partsN d)[t] := by
  have hk : d.kids ≠ [] := ((goodN_iff _ _).1 hd.1).1
  have hpa := parts_at d hd.1 t ht
  have hl : 0 < d.kids.length := List.length_pos_iff.2 hk
  have hpl := partsN_len d hk
  by_cases hc : countN d.kids.length < 2
  · have h1 : countN d.kids.length = 1 := by unfold countN at *; omega
    have e : partsN d = [d] := by unfold partsN; rw [if_pos hc]
    have ht0 : t = 0 := by rw [hpl, h1] at ht; omega
    subst ht0
    have : (partsN d)[0] = d := by simp [e]
    rw [this]
    exact hd
  · have e : partsN d = (List.range (countN d.kids.length)).map (partN d (countN d.kids.length)) := by unfold partsN; rw [if_neg hc]
    have this : (partsN d)[t] = partN d (countN d.kids.length) t := by simp [e]
    rw [this] at hpa ⊢
    refine ⟨hpa.2, takeM_good _ _ hd.2.1, takeM_rising _ _ hd.2.2.1, ?_, Nat.le_trans (takeM_len _ _) hd.2.2.2.2⟩
    rw [hpa.1]
    unfold lenP
    have a1 := cutAt_le d.kids.length (countN d.kids.length) (by omega) (show t + 1 ≤ countN d.kids.length by rw [hpl] at ht; exact ht)
    have := hd.2.2.2.1
    omega
theorem head_ok (d : Nd) (hd : NdOk d) (c i : Nat) (hc : 0 < c) (hn : c ≤ d.kids.length) (h0 : 0 < i) (hi : i ≤ c) : NdOk (headN d c i) := by
  refine ⟨head_good d hd.1 c i hc hn h0 hi, fun x hx => hd.2.1 x (List.mem_filter.1 hx).1, List.Pairwise.filter _ hd.2.2.1, ?_, Nat.le_trans (List.length_filter_le _ _) hd.2.2.2.2⟩
  show (d.kids.take _).length ≤ 1000
  have := hd.2.2.2.1
  rw [List.length_take]
  omega
theorem head_first (d : Nd) (hd : NdOk d) (h : 0 < (partsN d).length) : (partsN d)[0] = headN d (countN d.kids.length) 1 := by
  have hk : d.kids ≠ [] := ((goodN_iff _ _).1 hd.1).1
  have hl : 0 < d.kids.length := List.length_pos_iff.2 hk
  by_cases hc : countN d.kids.length < 2
  · have h1 : countN d.kids.length = 1 := by unfold countN at *; omega
    have e : partsN d = [d] := by unfold partsN; rw [if_pos hc]
    have : (partsN d)[0] = d := by simp [e]
    rw [this, h1, head_all d hd.1 1 (by omega)]
  · have e : partsN d = (List.range (countN d.kids.length)).map (partN d (countN d.kids.length)) := by unfold partsN; rw [if_neg hc]
    have this : (partsN d)[0] = partN d (countN d.kids.length) 0 := by simp [e]
    rw [this]
    exact head_one d hd.1 hd.2.1 _ (by omega) (by unfold countN; omega)
theorem head_next (d : Nd) (hd : NdOk d) (j : Nat) (h0 : 0 < j) (hj : j < countN d.kids.length) (hp : j < (partsN d).length) (hb : j - 1 < (betweenN d).length) : joinN (headN d (countN d.kids.length) j) (betweenN d)[j - 1] (partsN d)[j] = headN d (countN d.kids.length) (j + 1) ∧ goodN (joinN (headN d (countN d.kids.length) j) (betweenN d)[j - 1] (partsN d)[j]).kids (joinN (headN d (countN d.kids.length) j) (betweenN d)[j - 1] (partsN d)[j]).pivs = true := by
  have hc : ¬ countN d.kids.length < 2 := by omega
  have e : partsN d = (List.range (countN d.kids.length)).map (partN d (countN d.kids.length)) := by unfold partsN; rw [if_neg hc]
  have e1 : (partsN d)[j] = partN d (countN d.kids.length) j := by simp [e]
  have e2 : (betweenN d)[j - 1] = d.pivs.getD (cutAt d.kids.length (countN d.kids.length) j - 1) [] := by
    have hb2 : betweenN d = (List.range (countN d.kids.length - 1)).map (fun i => d.pivs.getD (cutAt d.kids.length (countN d.kids.length) (i + 1) - 1) []) := by unfold betweenN; rw [if_neg hc]
    simp only [hb2, List.getElem_map, List.getElem_range]
    rw [show j - 1 + 1 = j by omega]
  have hcn : countN d.kids.length ≤ d.kids.length := by
    have : 0 < d.kids.length := List.length_pos_iff.2 ((goodN_iff _ _).1 hd.1).1
    unfold countN
    omega
  have hs := head_step d hd.1 hd.2.1 hd.2.2.1 (countN d.kids.length) j (by omega) hcn h0 hj
  rw [e1, e2, hs]
  exact ⟨rfl, head_good d hd.1 _ (j + 1) (by omega) hcn (by omega) (by omega)⟩

set_option maxHeartbeats 8000000 in
theorem innerBack_any (ks : List Int) (hkl : ks.length ≤ maxLen) (ka : Option Addr) (kc : Nat) (hkc : ka = none → kc = 0) (ps : List (List UInt8)) (hpl : ps.length ≤ maxLen) (hpq : ∀ x ∈ ps, x.length ≤ maxLen) (pa : Option Addr) (pc : Nat) (hpc : pa = none → pc = 0) (ms : List Mg) (hml : ms.length ≤ maxLen) (hmq : ∀ m ∈ ms, m.key.length ≤ maxLen ∧ m.val.length ≤ maxLen) (a : Option Addr) (c : Nat) (hc : a = none → c = 0) (w : World) (hK : RowAt w noF ka (intsOf ks)) (hP : RowAt w noF pa (texts ps)) (hM : MsgsAt w noF a ms) :
    Calls Try.prog 4 #[.agg #[.slice ka ks.length kc, .slice pa ps.length pc, .slice a ms.length c]] w fun e w' => e = .returned (.bool true) ∧ Step noF w w' := by
  have cG := greatN_any ks hkl ps hpl hpq ms hml hmq ka pa a kc pc c
  have HK := hid hK
  have HP := hid hP
  have HM := hid hM
  have HKC := hid hkc
  have HPC := hid hpc
  have HC := hid hc
  have HQ := hid hmq
  obtain ⟨t0, t1, t2⟩ := three_slices w (.slice ka ks.length kc) (.slice pa ps.length pc) (.slice a ms.length c) 49
  have st : Step noF w (w.alloc (.cells #[.slice ka ks.length kc, .slice pa ps.length pc, .slice a ms.length c] 49)) := (Step.refl noF w).alloc _
  clear hK hP hM hpq hkl hpl hkc hpc hc hml hmq
  go_enter Try.func4, Try.ntmps4
  go_wp2_with fail
  refine (awakeN_any _).mono ?_
  rintro e w1 ⟨rfl, s1⟩
  have S1 := hid (st.trans s1)
  have k0 := s1.after t0
  have k1 := s1.after t1
  have k2 := s1.after t2
  clear s1 st t0 t1 t2
  go_wp2_with fail
  refine (cG w1 (rowAt_step HP.out S1.out (fun _ _ h => h)) (HM.out.stepB S1.out)).mono ?_
  rintro e w1' ⟨hg, rfl⟩
  rcases hg with rfl | ⟨rfl, hk30, hp30, hm40, _, _⟩
  · go_wp2_with fail
    go_ret
    exact ⟨rfl, S1.out⟩
  have cO := ofN_any ks ps ms (by omega) (by omega) (by omega) (fun m hm => (HQ.out m hm).2) ka pa a kc pc c HKC.out HPC.out HC.out w1 (rowAt_step HK.out S1.out (fun _ _ h => h)) (rowAt_step HP.out S1.out (fun _ _ h => h)) (HM.out.stepB S1.out)
  go_wp2_with fail
  refine cO.mono ?_
  rintro e w2 ⟨ho, s2⟩
  have S2 := hid (S1.out.trans s2)
  have k0' := s2.after k0
  clear s2 cO cG k0 k1 k2
  rcases ho with ⟨h1, rfl⟩ | ⟨h1, p, rfl, hi⟩
  · go_wp2_with fail
    go_ret
    exact ⟨rfl, S2.out⟩
  have hok := ndOk_of h1 (by omega) (by omega)
  obtain ⟨d, hd⟩ : ∃ d : Nd, (⟨ks, ps, putsM ms []⟩ : Nd) = d := ⟨_, rfl⟩
  have hdk : d.kids.length = ks.length := by rw [← hd]
  rw [hd] at hi hok
  have I2 := hid hi
  have OK := hid hok
  have hlen := hok.len
  have hkpos : 0 < d.kids.length := by omega
  have cP := partsNd_any p d hok w2 hi
  have hcdef : countN d.kids.length = (d.kids.length + 5) / 6 := rfl
  have hpl2 := partsN_len d ((goodN_iff _ _).1 hok.1).1
  have hbl2 := betweenN_len d ((goodN_iff _ _).1 hok.1).1
  clear h1 hi hd
  go_wp2_with fail
  refine cP.mono ?_
  rintro e w3 ⟨v1, v2, rfl, ⟨g, qs, rfl, hql, hqr, hqi⟩, ⟨ba, bc, rfl, hbr⟩, s3⟩
  have S3 := hid (S2.out.trans s3.out)
  have I3 := hid (I2.out.step s3.out)
  have k0 := s3.out.after k0'
  have HQR := hid hqr
  have HQI := hid hqi
  have HBR := hid hbr
  clear s3 k0' hqr hqi hbr cP
  obtain ⟨n, hn⟩ : ∃ n, d.kids.length = n := ⟨_, rfl⟩
  obtain ⟨cc, hcc⟩ : ∃ x, countN n = x := ⟨_, rfl⟩
  have hN := hid hn
  rw [hn, hcc] at hpl2 hbl2 hql
  rw [hn] at hcdef hkpos
  rw [hn, hcc]
  rw [hcc] at hcdef
  have HCC := hid hcc
  have hnk : ks.length = n := by omega
  rw [hnk] at k0
  have hn30 : n ≤ 30 := by omega
  have hc0 : 0 < cc := by omega
  have hc6 : cc ≤ 6 := by omega
  have hcn : cc ≤ n := by omega
  have z1 : ¬ (cc : Int) = 0 := by omega
  have z2 : ((cc : Int) == 0) = false := by rw [beq_eq_false_iff_ne]; exact z1
  have z3 : (cc : Int) - 1 = ((cc - 1 : Nat) : Int) := by omega
  have z4 : IntKind.i64.wrap ((cc - 1 : Nat) : Int) = ((cc - 1 : Nat) : Int) := by rw [IntKind.wrap_i64]; omega
  have z5 : IntKind.i64.wrap ((n : Int) + 5) = (n : Int) + 5 := by rw [IntKind.wrap_i64]; omega
  have z6 : ((n : Int) + 5).tdiv 6 = (cc : Int) := by rw [Int.tdiv_eq_ediv_of_nonneg (by omega)]; omega
  have z7 : IntKind.i64.wrap (cc : Int) = (cc : Int) := by rw [IntKind.wrap_i64]; omega
  have z8 : (0 : Int) < (cc : Int) := by omega
  have rowq : ∀ w', Step noF w3 w' → ∀ t (h : t < cc), ∃ q, w'.cell? ⟨g, t, none⟩ = some (.pointer (some ⟨q, 0, none⟩)) ∧ ∃ h1 : t < (partsN d).length, InnerAt w' q (partsN d)[t] := fun w' hs t ht => by
    have ht2 : t < qs.length := by omega
    have h1 : t < (partsN d).length := by omega
    refine ⟨qs[t], ?_, h1, (HQI.out t ht2 h1).step hs⟩
    obtain ⟨b, off, e, h⟩ := RowAt.at (f := fun q : Nat => Value.pointer (some ⟨q, 0, none⟩)) (rowAt_step HQR.out hs (fun _ _ h => h)) t ht2
    injection e with e
    injection e with e1 e2 _
    rw [← e1, ← e2, Nat.zero_add] at h
    exact h
  obtain ⟨q0, y0, hx0, i0⟩ := rowq w3 (Step.refl _ _) 0 hc0
  have cL0 := lenN_any q0 (partsN d)[0] w3 i0
  rw [(parts_at d OK.out.1 0 hx0).1, hn] at cL0
  have HF : Hid (InnerAt w3 q0 (headN d cc 1)) := by
    have := head_first d OK.out hx0
    rw [hn, hcc] at this
    show InnerAt _ _ _
    rw [← this]
    exact i0
  obtain ⟨L0, hL0⟩ : ∃ L, lenP n 0 = L := ⟨_, rfl⟩
  rw [hL0] at cL0
  have HL0 := hid hL0
  have hL06 : L0 ≤ 6 := by rw [← hL0]; exact lenP_most n (by omega)
  have ROWQ := hid rowq
  clear i0 rowq hcdef hnk hk30 hp30 hm40 hlen hdk hL0 hok hcc hn
  go_wp2_with fail
  refine cL0.mono ?_
  rintro e w4 ⟨rfl, rfl⟩
  go_wp2_with fail
  refine cL0.mono ?_
  rintro e w4 ⟨rfl, rfl⟩
  have S3' := S3
  clear y0 z1 z2 z3 z4 z5 z6 z7 cL0
  go_wp2_with fail
  go_loopg [7, 8, 10] cc (fun kx s7 s8 s10 wr => ∃ (j q L : Nat), s10 = .int .i64 j ∧ s7 = .pointer (some ⟨q, 0, none⟩) ∧ s8 = .int .i64 L ∧ 1 ≤ j ∧ j ≤ cc ∧ cc - j ≤ kx ∧ Hid (L = lenP n (j - 1)) ∧ Hid (InnerAt wr q (headN d cc j)) ∧ Hid (Step noF w3 wr))
  case atStart => exact ⟨1, q0, L0, rfl, rfl, rfl, Nat.le_refl _, hc0, by omega, HL0.out.symm, HF.out, Step.refl _ _⟩
  case round =>
    obtain ⟨j, q, L, rfl, rfl, rfl, hj1, hjc, hkx, HL, HA, HS⟩ := hrel
    by_cases hjl : j < cc
    · have hjz : (j : Int) < (cc : Int) := by omega
      obtain ⟨jm, hjm⟩ : ∃ x, j - 1 = x := ⟨_, rfl⟩
      have hjm1 : jm + 1 = j := by omega
      have ejm : (j : Int) - 1 = (jm : Int) := by omega
      have wjm : IntKind.i64.wrap (jm : Int) = (jm : Int) := by rw [IntKind.wrap_i64]; omega
      have ljm : (jm : Int) < ((cc - 1 : Nat) : Int) := by omega
      have ljm2 : (jm : Int) < (cc : Int) := by omega
      obtain ⟨qj, yj, hxj, ij⟩ := ROWQ.out wr HS.out j hjl
      obtain ⟨qm, ym, hxm, im⟩ := ROWQ.out wr HS.out jm (by omega)
      have hbj : jm < (betweenN d).length := by omega
      obtain ⟨b, off, hba, xb⟩ := texts_get (rowAt_step HBR.out HS.out (fun _ _ h => h)) jm hbj
      have hnext := head_next d OK.out j (by omega) (by rw [hN.out, HCC.out]; exact hjl) hxj (by omega)
      simp only [hjm] at hnext
      rw [hN.out, HCC.out] at hnext
      have hokh := head_ok d OK.out cc j hc0 (by rw [hN.out]; omega) hj1 (by omega)
      have hokp := parts_ok d OK.out j hxj
      have hm1 : joinN (headN d cc j) (betweenN d)[jm] (partsN d)[j] = headN d cc (j + 1) := hnext.1
      have hm2 : goodN (joinN (headN d cc j) (betweenN d)[jm] (partsN d)[j]).kids (joinN (headN d cc j) (betweenN d)[jm] (partsN d)[j]).pivs = true := hnext.2
      clear hnext
      have c90 : ∀ w', Step noF wr w' → Calls Try.prog 20 #[.pointer (some ⟨q, 0, none⟩), .string (str (betweenN d)[jm]), .pointer (some ⟨qj, 0, none⟩)] w' fun e w'' => ∃ v, e = .returned v ∧ Step noF w' w'' ∧ ∃ x, v = .tuple #[.pointer (some ⟨x, 0, none⟩), .int .i64 0] ∧ InnerAt w'' x (headN d cc (j + 1)) := fun w' hs => by
        refine (joinN_any q qj (headN d cc j) (partsN d)[j] hokh hokp (betweenN d)[jm] w' (HA.out.step hs) (ij.step hs)).mono ?_
        rintro e w'' ⟨hm, s⟩
        rcases hm with ⟨h1, _⟩ | ⟨_, x, rfl, hi⟩
        · rw [hm2] at h1; cases h1
        · rw [hm1] at hi
          exact ⟨_, rfl, s, x, rfl, hi⟩
      have hlj := (parts_at d OK.out.1 j hxj).1
      have hlm := (parts_at d OK.out.1 jm hxm).1
      rw [hN.out] at hlj hlm
      have c100 : ∀ w', Step noF wr w' → Calls Try.prog 19 #[.pointer (some ⟨qj, 0, none⟩)] w' fun e w'' => e = .returned (.int .i64 (lenP n j)) ∧ Step noF w' w'' := fun w' hs => by
        refine (lenN_any qj _ w' (ij.step hs)).mono ?_
        rintro e w'' ⟨rfl, rfl⟩
        exact ⟨by rw [hlj], Step.refl _ _⟩
      have c106 : ∀ w', Step noF wr w' → Calls Try.prog 19 #[.pointer (some ⟨qm, 0, none⟩)] w' fun e w'' => e = .returned (.int .i64 (lenP n jm)) ∧ Step noF w' w'' := fun w' hs => by
        refine (lenN_any qm _ w' (im.step hs)).mono ?_
        rintro e w'' ⟨rfl, rfl⟩
        exact ⟨by rw [hlm], Step.refl _ _⟩
      have hdown := (lenP_down n jm).1
      rw [hjm1] at hdown
      obtain ⟨PV, hPV⟩ : ∃ P, (betweenN d)[jm] = P := ⟨_, rfl⟩
      rw [hPV] at xb c90
      have hL : L = lenP n jm := by have := HL.out; rw [hjm] at this; exact this
      obtain ⟨L1, hL1⟩ : ∃ L, lenP n jm = L := ⟨_, rfl⟩
      obtain ⟨L2, hL2⟩ : ∃ L, lenP n j = L := ⟨_, rfl⟩
      rw [hL1] at c106 hdown hL
      rw [hL2] at c100 hdown
      subst hL
      have lg : ¬ (L : Int) < (L2 : Int) := by omega
      have hmin : min (L : Int) (L2 : Int) = (L2 : Int) := by omega
      subst hba
      have HL2 := hid hL2
      clear hm1 hm2 hokh hokp ij im hlj hlm hL1 hL2 hPV hjm HA HL
      go_upto_region 17 with fail
      go_cut [11, 12] from 73 to 116 (fun s11 s12 wx => ∃ x, s11 = .pointer (some ⟨x, 0, none⟩) ∧ s12 = .int .i64 0 ∧ Hid (InnerAt wx x (headN d cc (j + 1))) ∧ Hid (Step noF wr wx))
      case first =>
        change Code.wp _ (Code.region 17 ((Try.f4.body.bind (regionOps 17)).getD #[]) true) _ _ _
        refine ibka_go q b off (cc - 1) bc j jm g cc qj PV (headN d cc (j + 1)) wr xb yj ejm wjm ljm hjz c90 _ rfl rfl rfl rfl rfl ?_
        intro ff wz sz e11 e12
        obtain ⟨x, e11', hx⟩ := e11
        have e12' : ff 12 = .int .i64 0 := e12
        have HX := hid hx
        have SZ := hid sz
        clear sz hx e12 c90 c100 c106
        rw [ibka_lit, e11', e12']
        go_wp2_with fail
        go_meet
        exact ⟨x, rfl, rfl, HX.out, SZ.out⟩
      case rest =>
        obtain ⟨x, rfl, rfl, HX, SX⟩ := hcut
        have yj' := SX.out.after yj
        have ym' := SX.out.after ym
        have c100' := fun w' hs => c100 w' (SX.out.trans hs)
        have c106' := fun w' hs => c106 w' (SX.out.trans hs)
        clear c90 c106 yj ym xb
        go_upto_region 18 with fail
        go_cut [108] from 73 to 116 (fun s108 wx => s108 = .bool false ∧ Hid (Step noF wc wx))
        case first =>
          change Code.wp _ (Code.region 18 ((Try.f4.body.bind (regionOps 18)).getD #[]) true) _ _ _
          refine ibkb_go j jm g cc qm qj L L2 wc ym' yj' ejm wjm ljm2 hjz lg c100' c106' _ rfl rfl rfl rfl ?_
          intro ff wz sz e108
          have e108' : ff 108 = .bool false := e108
          have SZ := hid sz
          clear sz e108 c100 c100' c106'
          rw [ibkb_lit, e108']
          go_wp2_with fail
          go_meet
          exact ⟨rfl, SZ.out⟩
        case rest =>
          obtain ⟨rfl, SY⟩ := hcut
          have S7 := hid (SX.out.trans SY.out)
          have y7 := SY.out.after yj'
          have c7 := c100 _ S7.out
          have HX7 := hid (HX.out.step SY.out)
          clear c100 c100' c106' yj' ym'
          go_wp2_with fail
          refine c7.mono ?_
          rintro e w8 ⟨rfl, s8⟩
          have S8 := hid (HS.out.trans (S7.out.trans s8))
          have HX8 := hid (HX7.out.step s8)
          clear s8 c7
          go_wp2_with fail
          go_roundg (cc - (j + 1))
          case measure => omega
          case rel => exact ⟨j + 1, x, L2, by simp, rfl, rfl, by omega, by omega, Nat.le_refl _, HL2.out.symm, HX8.out, S8.out⟩
    · obtain rfl : j = cc := by omega
      have hall : headN d j j = d := head_all d OK.out.1 j hc0
      have HA2 : Hid (InnerAt wr q d) := by
        show InnerAt _ _ _
        have := HA.out
        rw [hall] at this
        exact this
      have hd1 := OK.out.2.2.2.1
      have hd2 := OK.out.2.2.2.2
      have hd3 := OK.out.len
      have cS := sameNd_any q p d d (by omega) wr HA2.out (I3.out.step HS.out)
      rw [(sameN_iff _ _).2 rfl] at cS
      have hlf := lenP_first n (j - 1)
      have hLj := HL.out
      have hL0 := HL0.out
      have lz1 : (L0 : Int) ≤ 6 := by omega
      have lz2 : (L0 : Int) - (L : Int) ≤ 1 := by omega
      have hL30 : L ≤ 1000000 := by
        rw [hLj, lenP_eq]
        have := Nat.div_le_self n (countN n)
        split <;> omega
      have wz : IntKind.i64.wrap ((L0 : Int) - (L : Int)) = (L0 : Int) - (L : Int) := by rw [IntKind.wrap_i64]; omega
      clear hall hd1 hd2 hd3 hlf hLj hL0 HA
      go_wp2_with fail
      refine cS.mono ?_
      rintro e w9 ⟨rfl, s9⟩
      have S9 := hid (S3'.out.trans (HS.out.trans s9))
      clear s9 cS
      go_wp2_with fail
      go_ret
      exact ⟨by first | rfl | simp, S9.out⟩
end Go.Proofs.Ytgmgoaencaldmaa
namespace Go.Proofs.Ytgmgoaencaldmaa.innerBackDone
open Go.ChangeShapes Go.WideShapes Go.ChangeAt Go.RowKit
open Go.ChangeMaps (open_string shut_string)
set_option linter.unusedVariables false

set_option maxRecDepth 100000 in
theorem lifted (os : Os) (started : os.Started) (H : Type) (enc : TypeId × Value → H) :
    ReturnsInHanded {} Try.checked os 4 .any (Rows.innerBackSpec.pre6 enc Try.prog Try.f4 Rows.innerBackRow.domain false) (Rows.innerBackSpec.post enc Try.prog Try.f4 false true false false) := by
  refine returnsInHanded_of_change (C := Try.checked) own_okM started (by kernel_rfl) Try.func4
    (ChangeSpec.witness6 (enc := enc) (C := Try.checked) false ⟨#[], #[.agg #[.slice none 0 0, .slice none 0 0, .slice none 0 0]], []⟩ 8 (by kernel_rfl) (by kernel_rfl) (by kernel_rfl) (by kernel_rfl)) ?_
  intro W base args ds gs before hval0 hW hcnd _
  have hval : ∀ (j : Nat) t v, Try.f4.params[j]? = some t → args[j]? = some v → Value.okWide Try.prog W .any base t v := hval0
  have hW' := hW
  obtain ⟨p, q, hA0, hV, rfl, hfz, hnd⟩ := hW
  have hA : DataW.TrodAll enc Try.prog W 0 (fun _ => true) true Try.f4.params.toList args.toList ds p := hA0
  rw [Try.params4] at hA hval
  obtain ⟨v0, vs0, d0, ds0, p0, q0, hargs, rfl, rfl, h0, r0_⟩ := trodAll_cons hA
  obtain ⟨rfl, rfl, rfl⟩ := trodAll_nil r0_
  obtain rfl : args = #[v0] := by cases args; simp_all
  obtain ⟨rfl, rfl⟩ := trodVars_none hV
  have k0 := h0
  have lt0 : ∀ x ∈ p0, x.block < W.heap.size := by obtain ⟨m, hm⟩ := k0; exact DataW.trod_lt m _ _ _ hm
  obtain ⟨ka0, kc0, ks0, pa0, pc0, ps0, a0, cap0, ms0, rfl, ⟨hkl0, hkc0, hks0⟩, ⟨hpl0, hpc0, hps0, hpq0⟩, ⟨hml0, hc0, hms0, hmq0⟩⟩ := open_nd (hval 0 49 v0 rfl rfl) h0
  clear hA0 hval0
  have hw := innerBack_any ks0 hkl0 ka0 kc0 hkc0 ps0 hpl0 hpq0 pa0 pc0 hpc0 ms0 hml0 hmq0 a0 cap0 hc0 W hks0 hps0 hms0
  refine hw.mono fun e W' ⟨he, hst⟩ => ?_
  subst he
  have bel : Below W.heap.size W W' := hst.below (fun k hk => hk.elim)
  exact ⟨_, rfl, _, _, _, [], _, [], hW', trodAll_mk1 (shut_bool Try.underlying4 _),
    (trodAll_cons_mk (Below.trod laidOutM (by kernel_rfl) (of_decide_eq_true (by kernel_rfl)) k0 bel lt0) trodAll_mk0), rfl, bel.frame _, fun h => by cases h⟩

theorem over : Rows.innerBackRow.holds Try.pinned (OpenSpec.ofChange Rows.innerBackSpec) :=
  OpenClaim.holds_of_wide 4 Try.f4 rfl rfl rfl rfl rfl rfl rfl ⟨rfl, rfl, rfl, rfl, rfl⟩ rfl rfl rfl rfl rfl (by kernel_rfl) Try.func4 (by kernel_rfl)
    (of_decide_eq_true (by kernel_rfl)) (by unfold Func.isWrapper; first | (rw [if_pos (by decide +kernel)]; kernel_rfl) | (rw [if_neg (by decide +kernel)]; exact ⟨rfl, rfl⟩))
    (fun os started H enc _ => lifted os started H enc)
end Go.Proofs.Ytgmgoaencaldmaa.innerBackDone
namespace Go.Proofs.Ytgmgoaencaldmaa
theorem innerBack_holds : Rows.InnerBackSaid := innerBackDone.over
end Go.Proofs.Ytgmgoaencaldmaa
