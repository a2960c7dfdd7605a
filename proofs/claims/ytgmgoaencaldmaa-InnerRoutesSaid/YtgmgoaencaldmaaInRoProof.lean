/-
  The region that draws in grangerlaw11.InnerRoutes (number 22), operation by operation. Written by draw6.py.
  The law InnerRoutes: flushes take each message once, to the kid that is for its key.
  The law InnerRoutes, lifted to the given statement.
-/
import Derived.Test.YtgmgoaencaldmaaPred2
import Derived.Test.YtgmgoaencaldmaaInC
import Derived.Test.YtgmgoaencaldmaaInE
import Derived.Test.YtgmgoaencaldmaaInAw
import Derived.Test.YtgmgoaencaldmaaKeyRows
namespace Go.Proofs.Ytgmgoaencaldmaa
open Go.RowKit
set_option linter.unusedVariables false
set_option linter.unusedSimpArgs false


def iroDs : List Nat := [97, 98, 99, 100, 101, 102, 103, 104, 105, 106, 107, 108, 109, 110, 111, 112, 113, 114, 115, 116, 117, 118]
def iroDl : List (Option Nat) := [some 97, some 98, some 99, some 100, some 101, some 102, some 103, some 104, some 105, some 106, some 107, some 108, some 109, some 110, some 111, some 112, some 113, some 114, some 115, some 116, some 117, some 118]
theorem iro_dl : ((Try.f3.body.bind (regionOps 22)).getD #[]).toList.map (·.dst) = iroDl := by kernel_rfl
theorem iro_back : backB ((Try.f3.body.bind (regionOps 22)).getD #[]) = true := by kernel_rfl
theorem iro_size : ((Try.f3.body.bind (regionOps 22)).getD #[]).size = 22 := by kernel_rfl
theorem iro_nd : iroDl.Pairwise (fun x y => x = none ∨ x ≠ y) := by decide
theorem iro_lt (d : Nat) (h : some d ∈ iroDl) : d < 140 := by
  have hh : iroDl.all (fun o => o.all (fun d => decide (d < 140))) = true := by decide
  simpa using List.all_eq_true.1 hh _ h
theorem iroOp0 : opIs ((Try.f3.body.bind (regionOps 22)).getD #[]) 0 (some 97) (Op.move (Operand.tmp 9)) (none) := opIs_of (by kernel_rfl)
theorem iroOp1 : opIs ((Try.f3.body.bind (regionOps 22)).getD #[]) 1 (some 98) (Op.move (Operand.tmp 17)) (none) := opIs_of (by kernel_rfl)
theorem iroOp2 : opIs ((Try.f3.body.bind (regionOps 22)).getD #[]) 2 (some 99) (Op.move (Operand.tmp 19)) (none) := opIs_of (by kernel_rfl)
theorem iroOp3 : opIs ((Try.f3.body.bind (regionOps 22)).getD #[]) 3 (some 100) (Op.indexAddr 24 (Operand.tmp 98) (Operand.tmp 99)) (none) := opIs_of (by kernel_rfl)
theorem iroOp4 : opIs ((Try.f3.body.bind (regionOps 22)).getD #[]) 4 (some 101) (Op.fieldAddr 39 (Operand.tmp 100) 1) (none) := opIs_of (by kernel_rfl)
theorem iroOp5 : opIs ((Try.f3.body.bind (regionOps 22)).getD #[]) 5 (some 102) (Op.load 9 (Operand.tmp 101)) (none) := opIs_of (by kernel_rfl)
theorem iroOp6 : opIs ((Try.f3.body.bind (regionOps 22)).getD #[]) 6 (some 103) (Op.call { callee := Callee.value (Operand.func 11), args := #[Operand.tmp 97, Operand.tmp 102], argTypes := #[27, 9] }) (none) := opIs_of (by kernel_rfl)
theorem iroOp7 : opIs ((Try.f3.body.bind (regionOps 22)).getD #[]) 7 (some 104) (Op.move (Operand.tmp 15)) (none) := opIs_of (by kernel_rfl)
theorem iroOp8 : opIs ((Try.f3.body.bind (regionOps 22)).getD #[]) 8 (some 105) (Op.binOp BinOp.neq 3 (Operand.tmp 103) (Operand.tmp 104) 3) (none) := opIs_of (by kernel_rfl)
theorem iroOp9 : opIs ((Try.f3.body.bind (regionOps 22)).getD #[]) 9 (some 106) (Op.move (Operand.tmp 105)) (none) := opIs_of (by kernel_rfl)
theorem iroOp10 : opIs ((Try.f3.body.bind (regionOps 22)).getD #[]) 10 (some 107) (Op.move (Operand.tmp 9)) (some (9, false)) := opIs_of (by kernel_rfl)
theorem iroOp11 : opIs ((Try.f3.body.bind (regionOps 22)).getD #[]) 11 (some 108) (Op.move (Operand.tmp 15)) (some (9, false)) := opIs_of (by kernel_rfl)
theorem iroOp12 : opIs ((Try.f3.body.bind (regionOps 22)).getD #[]) 12 (some 109) (Op.build 41 #[]) (some (9, false)) := opIs_of (by kernel_rfl)
theorem iroOp13 : opIs ((Try.f3.body.bind (regionOps 22)).getD #[]) 13 (some 110) (Op.call { callee := Callee.value (Operand.func 12), args := #[Operand.tmp 107, Operand.tmp 108, Operand.tmp 109], argTypes := #[27, 3, 41] }) (some (9, false)) := opIs_of (by kernel_rfl)
theorem iroOp14 : opIs ((Try.f3.body.bind (regionOps 22)).getD #[]) 14 (some 111) (Op.move (Operand.tmp 17)) (some (9, false)) := opIs_of (by kernel_rfl)
theorem iroOp15 : opIs ((Try.f3.body.bind (regionOps 22)).getD #[]) 15 (some 112) (Op.move (Operand.tmp 19)) (some (9, false)) := opIs_of (by kernel_rfl)
theorem iroOp16 : opIs ((Try.f3.body.bind (regionOps 22)).getD #[]) 16 (some 113) (Op.indexAddr 24 (Operand.tmp 111) (Operand.tmp 112)) (some (9, false)) := opIs_of (by kernel_rfl)
theorem iroOp17 : opIs ((Try.f3.body.bind (regionOps 22)).getD #[]) 17 (some 114) (Op.fieldAddr 39 (Operand.tmp 113) 1) (some (9, false)) := opIs_of (by kernel_rfl)
theorem iroOp18 : opIs ((Try.f3.body.bind (regionOps 22)).getD #[]) 18 (some 115) (Op.load 9 (Operand.tmp 114)) (some (9, false)) := opIs_of (by kernel_rfl)
theorem iroOp19 : opIs ((Try.f3.body.bind (regionOps 22)).getD #[]) 19 (some 116) (Op.call { callee := Callee.value (Operand.func 13), args := #[Operand.tmp 110, Operand.tmp 115], argTypes := #[41, 9] }) (some (9, false)) := opIs_of (by kernel_rfl)
theorem iroOp20 : opIs ((Try.f3.body.bind (regionOps 22)).getD #[]) 20 (some 117) (Op.unOp UnOp.not 4 (Operand.tmp 116)) (some (9, false)) := opIs_of (by kernel_rfl)
theorem iroOp21 : opIs ((Try.f3.body.bind (regionOps 22)).getD #[]) 21 (some 118) (Op.pick (Operand.tmp 106) (Operand.const (Value.bool true)) (Operand.tmp 117)) (none) := opIs_of (by kernel_rfl)
/-- What is said of each slot. -/
def iroSp (p t b off n c kx : Nat) (K : List UInt8) (R : Rg) (i : Nat) (w : World) (v : Value) : Prop := match i with
  | 0 => v = .pointer (some ⟨p, 0, none⟩)
  | 1 => v = .slice (some ⟨b, off, none⟩) n c
  | 2 => v = .int .i64 kx
  | 3 => v = .pointer (some ⟨b, off + kx * 3, none⟩)
  | 4 => v = .pointer (some ⟨b, off + kx * 3 + 1, none⟩)
  | 5 => v = .string (str K)
  | 6 => v = .int .i64 t
  | 7 => v = .int .i64 t
  | 8 => v = .bool false
  | 9 => v = .bool false
  | 10 => v = .pointer (some ⟨p, 0, none⟩)
  | 11 => v = .int .i64 t
  | 12 => v = .agg #[.string (str []), .string (str [])]
  | 13 => v = .agg #[.string (str R.lo), .string (str R.hi)]
  | 14 => v = .slice (some ⟨b, off, none⟩) n c
  | 15 => v = .int .i64 kx
  | 16 => v = .pointer (some ⟨b, off + kx * 3, none⟩)
  | 17 => v = .pointer (some ⟨b, off + kx * 3 + 1, none⟩)
  | 18 => v = .string (str K)
  | 19 => v = .bool true
  | 20 => v = .bool false
  | 21 => v = .bool false
  | _ => True
theorem iroSp_mono (p t b off n c kx : Nat) (K : List UInt8) (R : Rg) : ∀ i w w' v, Step noF w w' → iroSp p t b off n c kx K R i w v → iroSp p t b off n c kx K R i w' v := by
  intro i w w' v hs h
  match i with
  | 0 => exact h
  | 1 => exact h
  | 2 => exact h
  | 3 => exact h
  | 4 => exact h
  | 5 => exact h
  | 6 => exact h
  | 7 => exact h
  | 8 => exact h
  | 9 => exact h
  | 10 => exact h
  | 11 => exact h
  | 12 => exact h
  | 13 => exact h
  | 14 => exact h
  | 15 => exact h
  | 16 => exact h
  | 17 => exact h
  | 18 => exact h
  | 19 => exact h
  | 20 => exact h
  | 21 => exact h
  | k + 22 => exact h

set_option maxHeartbeats 4000000 in
set_option maxRecDepth 100000 in
theorem iro_go (p t b off n c kx : Nat) (K : List UInt8) (R : Rg) (w0 : World) (b10 : w0.cell? ⟨b, off + kx * 3 + 1, none⟩ = some (.string (str K))) (lk0 : (kx : Int) < (n : Int)) (em0 : (⟨#[]⟩ : ByteArray) = str []) (c1030 : ∀ w0', Step noF w0 w0' → Calls Try.prog 11 #[.pointer (some ⟨p, 0, none⟩), .string (str K)] w0' fun e w0'' => e = .returned (.int .i64 t) ∧ Step noF w0' w0'') (c1100 : ∀ w0', Step noF w0 w0' → Calls Try.prog 12 #[.pointer (some ⟨p, 0, none⟩), .int .i64 t, .agg #[.string (str []), .string (str [])]] w0' fun e w0'' => e = .returned (.agg #[.string (str R.lo), .string (str R.hi)]) ∧ Step noF w0' w0'') (c1160 : ∀ w0', Step noF w0 w0' → Calls Try.prog 13 #[.agg #[.string (str R.lo), .string (str R.hi)], .string (str K)] w0' fun e w0'' => e = .returned (.bool true) ∧ Step noF w0' w0'')
    {Q : Exit → Act → World → Prop} (a0 : Act) (hsz : a0.tmps.size = 140) (h9 : a0.tmps.getD 9 undef = .pointer (some ⟨p, 0, none⟩)) (h15 : a0.tmps.getD 15 undef = .int .i64 t) (h17 : a0.tmps.getD 17 undef = .slice (some ⟨b, off, none⟩) n c) (h19 : a0.tmps.getD 19 undef = .int .i64 kx)
    (hend : ∀ (f : Nat → Value) (w : World), Step noF w0 w → iroSp p t b off n c kx K R 21 w (f 118) → Q .normal (putAll a0 (iroDs.map some) (iroDs.map f)) w) :
    (Code.region 22 ((Try.f3.body.bind (regionOps 22)).getD #[]) true).wp Try.prog Q a0 w0 := by
  refine wp_region_preds (iroSp p t b off n c kx K R) (iroSp_mono p t b off n c kx K R) iroDl (by kernel_rfl) iro_back iro_dl iro_nd (fun d h => by rw [hsz]; exact iro_lt d h) ?_ ?_
  · intro i hi a w hs hfr hat
    rw [iro_size] at hi
    have n9 := (hfr 9 (by decide)).trans h9
    have n15 := (hfr 15 (by decide)).trans h15
    have n17 := (hfr 17 (by decide)).trans h17
    have n19 := (hfr 19 (by decide)).trans h19
    have b1 : w.cell? ⟨b, off + kx * 3 + 1, none⟩ = some (.string (str K)) := hs.after b10
    have lk : (kx : Int) < (n : Int) := lk0
    have em : (⟨#[]⟩ : ByteArray) = str [] := em0
    have c103 : ∀ w', Step noF w w' → Calls Try.prog 11 #[.pointer (some ⟨p, 0, none⟩), .string (str K)] w' fun e w'' => e = .returned (.int .i64 t) ∧ Step noF w' w'' := fun w' s' => c1030 w' (hs.trans s')
    have c110 : ∀ w', Step noF w w' → Calls Try.prog 12 #[.pointer (some ⟨p, 0, none⟩), .int .i64 t, .agg #[.string (str []), .string (str [])]] w' fun e w'' => e = .returned (.agg #[.string (str R.lo), .string (str R.hi)]) ∧ Step noF w' w'' := fun w' s' => c1100 w' (hs.trans s')
    have c116 : ∀ w', Step noF w w' → Calls Try.prog 13 #[.agg #[.string (str R.lo), .string (str R.hi)], .string (str K)] w' fun e w'' => e = .returned (.bool true) ∧ Step noF w' w'' := fun w' s' => c1160 w' (hs.trans s')
    match i, hi with
    | 0, _ =>
      refine op_runs (d := some 97) iroOp0 (wants_none a) (v := .pointer (some ⟨p, 0, none⟩)) (w' := w) ?_ ⟨97, _, rfl, rfl, Step.refl _ _, rfl⟩
      intro oo hoo
      simp only [execOp, hoo, Act.eval, n9]
      go_simp
    | 1, _ =>
      refine op_runs (d := some 98) iroOp1 (wants_none a) (v := .slice (some ⟨b, off, none⟩) n c) (w' := w) ?_ ⟨98, _, rfl, rfl, Step.refl _ _, rfl⟩
      intro oo hoo
      simp only [execOp, hoo, Act.eval, n17]
      go_simp
    | 2, _ =>
      refine op_runs (d := some 99) iroOp2 (wants_none a) (v := .int .i64 kx) (w' := w) ?_ ⟨99, _, rfl, rfl, Step.refl _ _, rfl⟩
      intro oo hoo
      simp only [execOp, hoo, Act.eval, n19]
      go_simp
    | 3, _ =>
      have n98 : a.tmps.getD 98 undef = _ := hat 1 (List.contains_iff_mem.1 (by kernel_rfl)) 98 rfl
      have n99 : a.tmps.getD 99 undef = _ := hat 2 (List.contains_iff_mem.1 (by kernel_rfl)) 99 rfl
      refine op_runs (d := some 100) iroOp3 (wants_none a) (v := .pointer (some ⟨b, off + kx * 3, none⟩)) (w' := w) ?_ ⟨100, _, rfl, rfl, Step.refl _ _, rfl⟩
      intro oo hoo
      simp only [execOp, hoo, Act.eval, n98, n99]
      go_simp
    | 4, _ =>
      have n100 : a.tmps.getD 100 undef = _ := hat 3 (List.contains_iff_mem.1 (by kernel_rfl)) 100 rfl
      refine op_runs (d := some 101) iroOp4 (wants_none a) (v := .pointer (some ⟨b, off + kx * 3 + 1, none⟩)) (w' := w) ?_ ⟨101, _, rfl, rfl, Step.refl _ _, rfl⟩
      intro oo hoo
      simp only [execOp, hoo, Act.eval, n100]
      go_simp
    | 5, _ =>
      have n101 : a.tmps.getD 101 undef = _ := hat 4 (List.contains_iff_mem.1 (by kernel_rfl)) 101 rfl
      refine op_runs (d := some 102) iroOp5 (wants_none a) (v := .string (str K)) (w' := w) ?_ ⟨102, _, rfl, rfl, Step.refl _ _, rfl⟩
      intro oo hoo
      simp only [execOp, hoo, Act.eval, n101]
      go_simp
    | 6, _ =>
      have n97 : a.tmps.getD 97 undef = _ := hat 0 (List.contains_iff_mem.1 (by kernel_rfl)) 97 rfl
      have n102 : a.tmps.getD 102 undef = _ := hat 5 (List.contains_iff_mem.1 (by kernel_rfl)) 102 rfl
      refine op_calls iroOp6 (wants_none a) Try.func11 (by kernel_rfl) (by kernel_rfl) (args := #[.pointer (some ⟨p, 0, none⟩), .string (str K)]) (by simp [Act.eval, n97, n102]) ((c103 w (Step.refl _ _)).mono ?_)
      rintro e w' ⟨rfl, s'⟩
      exact ⟨_, rfl, 103, _, rfl, rfl, s', rfl⟩
    | 7, _ =>
      refine op_runs (d := some 104) iroOp7 (wants_none a) (v := .int .i64 t) (w' := w) ?_ ⟨104, _, rfl, rfl, Step.refl _ _, rfl⟩
      intro oo hoo
      simp only [execOp, hoo, Act.eval, n15]
      go_simp
    | 8, _ =>
      have n103 : a.tmps.getD 103 undef = _ := hat 6 (List.contains_iff_mem.1 (by kernel_rfl)) 103 rfl
      have n104 : a.tmps.getD 104 undef = _ := hat 7 (List.contains_iff_mem.1 (by kernel_rfl)) 104 rfl
      refine op_runs (d := some 105) iroOp8 (wants_none a) (v := .bool false) (w' := w) ?_ ⟨105, _, rfl, rfl, Step.refl _ _, rfl⟩
      intro oo hoo
      simp only [execOp, hoo, Act.eval, n103, n104]
      go_simp
    | 9, _ =>
      have n105 : a.tmps.getD 105 undef = _ := hat 8 (List.contains_iff_mem.1 (by kernel_rfl)) 105 rfl
      refine op_runs (d := some 106) iroOp9 (wants_none a) (v := .bool false) (w' := w) ?_ ⟨106, _, rfl, rfl, Step.refl _ _, rfl⟩
      intro oo hoo
      simp only [execOp, hoo, Act.eval, n105]
      go_simp
    | 10, _ =>
      have n106 : a.tmps.getD 106 undef = _ := hat 9 (List.contains_iff_mem.1 (by kernel_rfl)) 106 rfl
      refine op_runs (d := some 107) iroOp10 (wants_some (d := 106) (b := false) (by kernel_rfl) n106) (v := .pointer (some ⟨p, 0, none⟩)) (w' := w) ?_ ⟨107, _, rfl, rfl, Step.refl _ _, rfl⟩
      intro oo hoo
      simp only [execOp, hoo, Act.eval, n9]
      go_simp
    | 11, _ =>
      have n106 : a.tmps.getD 106 undef = _ := hat 9 (List.contains_iff_mem.1 (by kernel_rfl)) 106 rfl
      refine op_runs (d := some 108) iroOp11 (wants_some (d := 106) (b := false) (by kernel_rfl) n106) (v := .int .i64 t) (w' := w) ?_ ⟨108, _, rfl, rfl, Step.refl _ _, rfl⟩
      intro oo hoo
      simp only [execOp, hoo, Act.eval, n15]
      go_simp
    | 12, _ =>
      have n106 : a.tmps.getD 106 undef = _ := hat 9 (List.contains_iff_mem.1 (by kernel_rfl)) 106 rfl
      refine op_runs (d := some 109) iroOp12 (wants_some (d := 106) (b := false) (by kernel_rfl) n106) (v := .agg #[.string (str []), .string (str [])]) (w' := w) ?_ ⟨109, _, rfl, rfl, Step.refl _ _, rfl⟩
      intro oo hoo
      simp only [execOp, hoo, Act.eval]
      kernel_rfl
    | 13, _ =>
      have n107 : a.tmps.getD 107 undef = _ := hat 10 (List.contains_iff_mem.1 (by kernel_rfl)) 107 rfl
      have n108 : a.tmps.getD 108 undef = _ := hat 11 (List.contains_iff_mem.1 (by kernel_rfl)) 108 rfl
      have n109 : a.tmps.getD 109 undef = _ := hat 12 (List.contains_iff_mem.1 (by kernel_rfl)) 109 rfl
      have n106 : a.tmps.getD 106 undef = _ := hat 9 (List.contains_iff_mem.1 (by kernel_rfl)) 106 rfl
      refine op_calls iroOp13 (wants_some (d := 106) (b := false) (by kernel_rfl) n106) Try.func12 (by kernel_rfl) (by kernel_rfl) (args := #[.pointer (some ⟨p, 0, none⟩), .int .i64 t, .agg #[.string (str []), .string (str [])]]) (by simp [Act.eval, n107, n108, n109]) ((c110 w (Step.refl _ _)).mono ?_)
      rintro e w' ⟨rfl, s'⟩
      exact ⟨_, rfl, 110, _, rfl, rfl, s', rfl⟩
    | 14, _ =>
      have n106 : a.tmps.getD 106 undef = _ := hat 9 (List.contains_iff_mem.1 (by kernel_rfl)) 106 rfl
      refine op_runs (d := some 111) iroOp14 (wants_some (d := 106) (b := false) (by kernel_rfl) n106) (v := .slice (some ⟨b, off, none⟩) n c) (w' := w) ?_ ⟨111, _, rfl, rfl, Step.refl _ _, rfl⟩
      intro oo hoo
      simp only [execOp, hoo, Act.eval, n17]
      go_simp
    | 15, _ =>
      have n106 : a.tmps.getD 106 undef = _ := hat 9 (List.contains_iff_mem.1 (by kernel_rfl)) 106 rfl
      refine op_runs (d := some 112) iroOp15 (wants_some (d := 106) (b := false) (by kernel_rfl) n106) (v := .int .i64 kx) (w' := w) ?_ ⟨112, _, rfl, rfl, Step.refl _ _, rfl⟩
      intro oo hoo
      simp only [execOp, hoo, Act.eval, n19]
      go_simp
    | 16, _ =>
      have n111 : a.tmps.getD 111 undef = _ := hat 14 (List.contains_iff_mem.1 (by kernel_rfl)) 111 rfl
      have n112 : a.tmps.getD 112 undef = _ := hat 15 (List.contains_iff_mem.1 (by kernel_rfl)) 112 rfl
      have n106 : a.tmps.getD 106 undef = _ := hat 9 (List.contains_iff_mem.1 (by kernel_rfl)) 106 rfl
      refine op_runs (d := some 113) iroOp16 (wants_some (d := 106) (b := false) (by kernel_rfl) n106) (v := .pointer (some ⟨b, off + kx * 3, none⟩)) (w' := w) ?_ ⟨113, _, rfl, rfl, Step.refl _ _, rfl⟩
      intro oo hoo
      simp only [execOp, hoo, Act.eval, n111, n112]
      go_simp
    | 17, _ =>
      have n113 : a.tmps.getD 113 undef = _ := hat 16 (List.contains_iff_mem.1 (by kernel_rfl)) 113 rfl
      have n106 : a.tmps.getD 106 undef = _ := hat 9 (List.contains_iff_mem.1 (by kernel_rfl)) 106 rfl
      refine op_runs (d := some 114) iroOp17 (wants_some (d := 106) (b := false) (by kernel_rfl) n106) (v := .pointer (some ⟨b, off + kx * 3 + 1, none⟩)) (w' := w) ?_ ⟨114, _, rfl, rfl, Step.refl _ _, rfl⟩
      intro oo hoo
      simp only [execOp, hoo, Act.eval, n113]
      go_simp
    | 18, _ =>
      have n114 : a.tmps.getD 114 undef = _ := hat 17 (List.contains_iff_mem.1 (by kernel_rfl)) 114 rfl
      have n106 : a.tmps.getD 106 undef = _ := hat 9 (List.contains_iff_mem.1 (by kernel_rfl)) 106 rfl
      refine op_runs (d := some 115) iroOp18 (wants_some (d := 106) (b := false) (by kernel_rfl) n106) (v := .string (str K)) (w' := w) ?_ ⟨115, _, rfl, rfl, Step.refl _ _, rfl⟩
      intro oo hoo
      simp only [execOp, hoo, Act.eval, n114]
      go_simp
    | 19, _ =>
      have n110 : a.tmps.getD 110 undef = _ := hat 13 (List.contains_iff_mem.1 (by kernel_rfl)) 110 rfl
      have n115 : a.tmps.getD 115 undef = _ := hat 18 (List.contains_iff_mem.1 (by kernel_rfl)) 115 rfl
      have n106 : a.tmps.getD 106 undef = _ := hat 9 (List.contains_iff_mem.1 (by kernel_rfl)) 106 rfl
      refine op_calls iroOp19 (wants_some (d := 106) (b := false) (by kernel_rfl) n106) Try.func13 (by kernel_rfl) (by kernel_rfl) (args := #[.agg #[.string (str R.lo), .string (str R.hi)], .string (str K)]) (by simp [Act.eval, n110, n115]) ((c116 w (Step.refl _ _)).mono ?_)
      rintro e w' ⟨rfl, s'⟩
      exact ⟨_, rfl, 116, _, rfl, rfl, s', rfl⟩
    | 20, _ =>
      have n116 : a.tmps.getD 116 undef = _ := hat 19 (List.contains_iff_mem.1 (by kernel_rfl)) 116 rfl
      have n106 : a.tmps.getD 106 undef = _ := hat 9 (List.contains_iff_mem.1 (by kernel_rfl)) 106 rfl
      refine op_runs (d := some 117) iroOp20 (wants_some (d := 106) (b := false) (by kernel_rfl) n106) (v := .bool false) (w' := w) ?_ ⟨117, _, rfl, rfl, Step.refl _ _, rfl⟩
      intro oo hoo
      simp only [execOp, hoo, Act.eval, n116]
      go_simp
    | 21, _ =>
      have n106 : a.tmps.getD 106 undef = _ := hat 9 (List.contains_iff_mem.1 (by kernel_rfl)) 106 rfl
      have n117 : a.tmps.getD 117 undef = _ := hat 20 (List.contains_iff_mem.1 (by kernel_rfl)) 117 rfl
      refine op_runs (d := some 118) iroOp21 (wants_none a) (v := .bool false) (w' := w) ?_ ⟨118, _, rfl, rfl, Step.refl _ _, rfl⟩
      intro oo hoo
      simp only [execOp, hoo, Act.eval, n106, n117]
      go_simp
    | k + 22, h => exact absurd h (by omega)
  · intro a w hs hdf hs2 hfr hat
    rw [iro_size] at hat
    have e := act_vals (a := a) (a0 := a0) iroDs (by decide) (fun d hd => by rw [hsz]; exact iro_lt d (by revert hd; revert d; decide)) hdf hs2 (fun k hk => hfr k (fun hk2 => hk (by revert hk2; simp [iroDl, iroDs])))
    rw [e]
    exact hend (fun d => a.tmps.getD d undef) w hs (hat 21 (by omega) 118 rfl)
set_option maxRecDepth 100000 in
theorem iro_lit (f : Nat → Value) (D : List Deferred) (x0 x1 x2 x3 x4 x5 x6 x7 x8 x9 x10 x11 x12 x13 x14 x15 x16 x17 x18 x19 x20 x21 x22 x23 x24 x25 x26 x27 x28 x29 x30 x31 x32 x33 x34 x35 x36 x37 x38 x39 x40 x41 x42 x43 x44 x45 x46 x47 x48 x49 x50 x51 x52 x53 x54 x55 x56 x57 x58 x59 x60 x61 x62 x63 x64 x65 x66 x67 x68 x69 x70 x71 x72 x73 x74 x75 x76 x77 x78 x79 x80 x81 x82 x83 x84 x85 x86 x87 x88 x89 x90 x91 x92 x93 x94 x95 x96 x97 x98 x99 x100 x101 x102 x103 x104 x105 x106 x107 x108 x109 x110 x111 x112 x113 x114 x115 x116 x117 x118 x119 x120 x121 x122 x123 x124 x125 x126 x127 x128 x129 x130 x131 x132 x133 x134 x135 x136 x137 x138 x139 : Value) : putAll { tmps := #[x0, x1, x2, x3, x4, x5, x6, x7, x8, x9, x10, x11, x12, x13, x14, x15, x16, x17, x18, x19, x20, x21, x22, x23, x24, x25, x26, x27, x28, x29, x30, x31, x32, x33, x34, x35, x36, x37, x38, x39, x40, x41, x42, x43, x44, x45, x46, x47, x48, x49, x50, x51, x52, x53, x54, x55, x56, x57, x58, x59, x60, x61, x62, x63, x64, x65, x66, x67, x68, x69, x70, x71, x72, x73, x74, x75, x76, x77, x78, x79, x80, x81, x82, x83, x84, x85, x86, x87, x88, x89, x90, x91, x92, x93, x94, x95, x96, x97, x98, x99, x100, x101, x102, x103, x104, x105, x106, x107, x108, x109, x110, x111, x112, x113, x114, x115, x116, x117, x118, x119, x120, x121, x122, x123, x124, x125, x126, x127, x128, x129, x130, x131, x132, x133, x134, x135, x136, x137, x138, x139], defers := D } (iroDs.map some) (iroDs.map f) = { tmps := #[x0, x1, x2, x3, x4, x5, x6, x7, x8, x9, x10, x11, x12, x13, x14, x15, x16, x17, x18, x19, x20, x21, x22, x23, x24, x25, x26, x27, x28, x29, x30, x31, x32, x33, x34, x35, x36, x37, x38, x39, x40, x41, x42, x43, x44, x45, x46, x47, x48, x49, x50, x51, x52, x53, x54, x55, x56, x57, x58, x59, x60, x61, x62, x63, x64, x65, x66, x67, x68, x69, x70, x71, x72, x73, x74, x75, x76, x77, x78, x79, x80, x81, x82, x83, x84, x85, x86, x87, x88, x89, x90, x91, x92, x93, x94, x95, x96, f 97, f 98, f 99, f 100, f 101, f 102, f 103, f 104, f 105, f 106, f 107, f 108, f 109, f 110, f 111, f 112, f 113, f 114, f 115, f 116, f 117, f 118, x119, x120, x121, x122, x123, x124, x125, x126, x127, x128, x129, x130, x131, x132, x133, x134, x135, x136, x137, x138, x139], defers := D } := by kernel_rfl
end Go.Proofs.Ytgmgoaencaldmaa
namespace Go.Proofs.Ytgmgoaencaldmaa
open Go.RowKit Go.Sort
set_option linter.unusedVariables false
set_option linter.unusedSimpArgs false
set_option maxRecDepth 20000

theorem rest_ok {ks : List Int} {ps : List (List UInt8)} {u : List Mg} (h : NdOk ⟨ks, ps, u⟩) (L : List Nat) : NdOk ⟨ks, ps, restM ps L u⟩ :=
  ⟨h.1, (rest_good ps L u h.2.1 h.2.2.1).1, (rest_good ps L u h.2.1 h.2.2.1).2, h.2.2.2.1, Nat.le_trans (List.length_filter_le _ _) h.2.2.2.2⟩
theorem mine_in {ps : List (List UInt8)} {i : Nat} {u : List Mg} (hg : GoodM u) (m : Mg) (hm : m ∈ mineM ps i u) : m.is = true ∧ kidOf ps m.key = i ∧ isK m.key = true :=
  ⟨hg m (List.mem_filter.1 hm).1, by simpa using (List.mem_filter.1 hm).2, good_key hg m (List.mem_filter.1 hm).1⟩

set_option maxHeartbeats 8000000 in
theorem innerRoutes_any (ks : List Int) (hkl : ks.length ≤ maxLen) (ka : Option Addr) (kc : Nat) (hkc : ka = none → kc = 0) (ps : List (List UInt8)) (hpl : ps.length ≤ maxLen) (hpq : ∀ x ∈ ps, x.length ≤ maxLen) (pa : Option Addr) (pc : Nat) (hpc : pa = none → pc = 0) (ms : List Mg) (hml : ms.length ≤ maxLen) (hmq : ∀ m ∈ ms, m.key.length ≤ maxLen ∧ m.val.length ≤ maxLen) (a : Option Addr) (c : Nat) (hc : a = none → c = 0) (os : List Int) (hol : os.length ≤ maxLen) (oa : Option Addr) (oc : Nat) (w : World) (hK : RowAt w noF ka (intsOf ks)) (hP : RowAt w noF pa (texts ps)) (hM : MsgsAt w noF a ms) (hO : RowAt w noF oa (intsOf os)) :
    Calls Try.prog 3 #[.slice ka ks.length kc, .slice pa ps.length pc, .slice a ms.length c, .slice oa os.length oc] w fun e w' => e = .returned (.bool true) ∧ Step noF w w' := by
  have hz := str_size
  have h0 := nil_str
  have cG := greatN_any ks hkl ps hpl hpq ms hml hmq ka pa a kc pc c
  unfold maxLen at hol
  have HK := hid hK
  have HP := hid hP
  have HM := hid hM
  have HO := hid hO
  have HKC := hid hkc
  have HPC := hid hpc
  have HC := hid hc
  have HQ := hid hmq
  clear hK hP hM hO hpq hkl hpl hkc hpc hc hml hmq
  go_enter Try.func3, Try.ntmps3
  go_wp2_with fail
  refine (awakeN_any _).mono ?_
  rintro e w1 ⟨rfl, s1⟩
  have S1 := hid s1
  clear s1
  go_wp2_with fail
  refine (cG w1 (rowAt_step HP.out S1.out (fun _ _ h => h)) (HM.out.stepB S1.out)).mono ?_
  rintro e w1' ⟨hg, rfl⟩
  rcases hg with rfl | ⟨rfl, hk30, hp30, hm40, _, _⟩
  · go_wp2_with fail
    go_ret
    exact ⟨rfl, S1.out⟩
  by_cases go : 60 < os.length
  · have goz : (60 : Int) < (os.length : Int) := by omega
    go_wp2_with fail
    go_ret
    exact ⟨rfl, S1.out⟩
  have goz : ¬ (60 : Int) < (os.length : Int) := by omega
  have cO := ofN_any ks ps ms (by omega) (by omega) (by omega) (fun m hm => (HQ.out m hm).2) ka pa a kc pc c HKC.out HPC.out HC.out w1 (rowAt_step HK.out S1.out (fun _ _ h => h)) (rowAt_step HP.out S1.out (fun _ _ h => h)) (HM.out.stepB S1.out)
  go_wp2_with fail
  refine cO.mono ?_
  rintro e w2 ⟨ho, s2⟩
  have S2 := hid (S1.out.trans s2)
  clear s2 cO cG goz
  rcases ho with ⟨h1, rfl⟩ | ⟨h1, p, rfl, hi⟩
  · go_wp2_with fail
    go_ret
    exact ⟨rfl, S2.out⟩
  have hok := ndOk_of h1 (by omega) (by omega)
  obtain ⟨u, hu⟩ : ∃ u, putsM ms [] = u := ⟨_, rfl⟩
  rw [hu] at hi hok
  have I2 := hid hi
  have OK := hid hok
  have hlen := hok.len
  have hul : u.length ≤ 100000 := hok.2.2.2.2
  simp only at hlen
  obtain ⟨n, hn⟩ : ∃ n, ks.length = n := ⟨_, rfl⟩
  obtain ⟨m, hm⟩ : ∃ n, os.length = n := ⟨_, rfl⟩
  have hn0 : 0 < n := by omega
  have hn30 : n ≤ 30 := by omega
  have hm60 : m ≤ 60 := by omega
  have hpn : ps.length + 1 = n := by omega
  have HN := hid hn
  have HMM := hid hm
  have cB := ofB_any [] (fun _ h => by simp at h) (by simp) none 0 (fun _ => rfl) w2 (.inl rfl)
  rw [List.length_nil] at cB
  rw [hn, hm]
  clear h1 hi hok hu hn hm hk30 hm40 go hol
  go_wp2_with fail
  refine cB.mono ?_
  rintro e w3 ⟨hb, s3⟩
  have S3 := hid (S2.out.trans s3)
  have I3 := hid (I2.out.step s3)
  clear s3 cB
  rcases hb with ⟨h1, _⟩ | ⟨_, q0, rfl, hq0⟩
  · cases h1
  have Q0 : Hid (BuffAt w3 q0 []) := hq0
  clear hq0
  have wmn : IntKind.i64.wrap ((m : Int) + (n : Int)) = (m : Int) + (n : Int) := by rw [IntKind.wrap_i64]; omega
  have wun : IntKind.u64.wrap (n : Int) = (n : Int) := by rw [IntKind.wrap_u64]; omega
  have nz0 : ¬ (n : Int) = 0 := by omega
  have nz1 : ((n : Int) == 0) = false := by rw [beq_eq_false_iff_ne]; exact nz0
  go_wp2_with fail
  go_loopg [11, 12, 13, 14] (m + n) (fun kx s11 s12 s13 s14 wr => ∃ (i qb qn : Nat) (L : List Nat), s14 = .int .i64 i ∧ s13 = .pointer (some ⟨qn, 0, none⟩) ∧ s11 = .pointer (some ⟨qb, 0, none⟩) ∧ s12 = .int .i64 0 ∧ i ≤ m + n ∧ m + n - i ≤ kx ∧ Hid (∀ x, m + x < i → x ∈ L) ∧ Hid (InnerAt wr qn ⟨ks, ps, restM ps L u⟩) ∧ Hid (BuffAt wr qb (outM ps L u)) ∧ Hid (Step noF w3 wr))
  case atStart =>
    refine ⟨0, q0, p, [], rfl, rfl, rfl, rfl, Nat.zero_le _, by omega, fun x hx => by omega, ?_, ?_, Step.refl _ _⟩
    · show InnerAt _ _ _
      rw [(out_none ps u).2]
      exact I3.out
    · show BuffAt _ _ _
      rw [(out_none ps u).1]
      exact Q0.out
  case round =>
    obtain ⟨i, qb, qn, L, rfl, rfl, rfl, rfl, him0, hkx, HL, HA, HB, HS⟩ := hrel
    by_cases hil : i < m + n
    · have hilz : (i : Int) < (m : Int) + (n : Int) := by omega
      have wim : IntKind.i64.wrap ((i : Int) - (m : Int)) = (i : Int) - (m : Int) := by rw [IntKind.wrap_i64]; omega
      obtain ⟨t, ht, hmem, hcase⟩ : ∃ t, t < n ∧ (∀ x, m + x < i + 1 → x ∈ t :: L) ∧ ((i < m ∧ ∃ g o z, oa = some ⟨g, o, none⟩ ∧ wr.cell? ⟨g, o + i, none⟩ = some (.int .i64 z) ∧ (IntKind.u64.wrap z).tmod (n : Int) = (t : Int)) ∨ (¬ i < m ∧ (i : Int) - (m : Int) = (t : Int))) := by
        by_cases him : i < m
        · have hio : i < os.length := by rw [HMM.out]; exact him
          obtain ⟨g, o, rfl, hcell⟩ := ints_get (rowAt_step HO.out (S3.out.trans HS.out) (fun _ _ h => h)) i hio
          obtain ⟨t, ht, e⟩ := pick_kid os[i] n hn0 (by omega)
          exact ⟨t, ht, fun x hx => by omega, .inl ⟨him, g, o, _, rfl, hcell, e⟩⟩
        · refine ⟨i - m, by omega, fun x hx => ?_, .inr ⟨him, by omega⟩⟩
          by_cases h : m + x < i
          · exact List.mem_cons_of_mem _ (HL.out x h)
          · rw [show x = i - m by omega]
            exact List.mem_cons_self
      have wt : IntKind.i64.wrap (t : Int) = (t : Int) := by rw [IntKind.wrap_i64]; omega
      have MEM := hid hmem
      have hokr := rest_ok OK.out L
      have hpv := OK.out.pivs
      have htp : t ≤ ps.length := by omega
      have cF := flushN_any qn ⟨ks, ps, restM ps L u⟩ hokr t (by simp only; rw [HN.out]; exact ht) wr HA.out
      simp only at cF hpv
      rw [take_part ps hpv.2 hpv.1 t htp _ hokr.2.1, drop_part ps hpv.2 hpv.1 t htp _ hokr.2.1, rest_step] at cF
      have hps := out_step ps L u OK.out.2.1 OK.out.2.2.1 t
      obtain ⟨T, hT⟩ : ∃ T, mineM ps t (restM ps L u) = T := ⟨_, rfl⟩
      have hTin : ∀ x ∈ T, x.is = true ∧ kidOf ps x.key = t ∧ isK x.key = true := fun x hx => mine_in hokr.2.1 x (by rw [hT]; exact hx)
      have hTl : T.length ≤ 100000 := by
        rw [← hT]
        exact Nat.le_trans (List.length_filter_le _ _) hokr.2.2.2.2
      have hTG : GoodM T := fun x hx => (hTin x hx).1
      have hOl : (outM ps L u).length ≤ 100000 := Nat.le_trans (List.length_filter_le _ _) hul
      have hOg := out_good ps L u OK.out.2.1 OK.out.2.2.1
      rw [hT] at cF hps
      have HPS := hid hps
      have HTIN := hid hTin
      have HTG := hid hTG
      have HOG := hid hOg
      clear hmem hokr hpv hps hTin hTG hOg hT
      rcases hcase with ⟨him, g, o, z, rfl, hcell, hmod⟩ | ⟨him, hit⟩
      case' inl =>
        have himz : (i : Int) < (m : Int) := by omega
        go_upto_region 16 with fail
        clear hcell hmod himz him
      case' inr =>
        have himz : ¬ (i : Int) < (m : Int) := by omega
        go_upto_region 16 with fail
        clear himz him hit
      all_goals
        clear wim hilz wmn wun nz0 nz1
        go_wp2_with fail
        refine cF.mono ?_
        rintro e w4 ⟨qn2, ta, tc, rfl, HTC, HA2, HT2, S4⟩
        have HB4 := hid (HB.out.step S4.out)
        clear cF
        obtain ⟨tn, htn⟩ : ∃ k, T.length = k := ⟨_, rfl⟩
        have HTN := hid htn
        rw [htn]
        rw [htn] at hTl
        clear htn
        go_wp2_with fail
        go_loopg [19] tn (fun kx s19 wr => ∃ j : Nat, s19 = .int .i64 j ∧ j ≤ tn ∧ tn - j ≤ kx ∧ Hid (Step noF w4 wr))
        case atStart => exact ⟨0, rfl, Nat.zero_le _, by omega, Step.refl _ _⟩
        case round =>
          obtain ⟨j, rfl, hjt, hkx2, HS2⟩ := hrel
          by_cases hjl : j < tn
          · have hjz : (j : Int) < (tn : Int) := by omega
            have hjT : j < T.length := by rw [HTN.out]; exact hjl
            have wj : IntKind.i64.wrap ((j : Int) + 1) = (j : Int) + 1 := by rw [IntKind.wrap_i64]; omega
            obtain ⟨b, off, rfl, _, y1, _⟩ := (HT2.out.stepB HS2.out).at j hjT
            have hin := HTIN.out T[j] (List.getElem_mem _)
            have hpv := OK.out.pivs
            simp only at hpv
            have hst := S3.out.trans (HS.out.trans (S4.out.trans HS2.out))
            have hIx : InnerAt wr p ⟨ks, ps, u⟩ := I3.out.step (HS.out.trans (S4.out.trans HS2.out))
            have hhas : (rangeN ⟨[], []⟩ ps t).has T[j].key = true := by
              rw [part_has _ ps hpv.2 hpv.1 t htp, all_has hin.2.2, Bool.true_and]
              exact decide_eq_true hin.2.1
            have c103 : ∀ w', Step noF wr w' → Calls Try.prog 11 #[.pointer (some ⟨p, 0, none⟩), .string (str T[j].key)] w' fun e w'' => e = .returned (.int .i64 t) ∧ Step noF w' w'' := fun w' hs => by
              have := kidOfN_any p ⟨ks, ps, u⟩ OK.out.1 (by simp only; omega) T[j].key w' (hIx.step hs)
              simp only at this
              rw [hin.2.1] at this
              exact this
            have c110 : ∀ w', Step noF wr w' → Calls Try.prog 12 #[.pointer (some ⟨p, 0, none⟩), .int .i64 t, .agg #[.string (str []), .string (str [])]] w' fun e w'' => e = .returned (.agg #[.string (str (rangeN ⟨[], []⟩ ps t).lo), .string (str (rangeN ⟨[], []⟩ ps t).hi)]) ∧ Step noF w' w'' := fun w' hs =>
              rangeN_any p ks ps u (by rw [HN.out]; exact hpn) (by omega) t (by rw [HN.out]; exact ht) ⟨[], []⟩ w' (hIx.step hs)
            have c116 : ∀ w', Step noF wr w' → Calls Try.prog 13 #[.agg #[.string (str (rangeN ⟨[], []⟩ ps t).lo), .string (str (rangeN ⟨[], []⟩ ps t).hi)], .string (str T[j].key)] w' fun e w'' => e = .returned (.bool true) ∧ Step noF w' w'' := fun w' hs => by
              have := has_any (rangeN ⟨[], []⟩ ps t) T[j].key w'
              rw [hhas] at this
              exact this
            clear hin hpv hst hIx hhas
            go_upto_region 22 with fail
            change Code.wp _ (Code.region 22 ((Try.f3.body.bind (regionOps 22)).getD #[]) true) _ _ _
            refine iro_go p t b off tn tc j T[j].key (rangeN ⟨[], []⟩ ps t) wr y1 hjz h0 c103 c110 c116 _ rfl rfl rfl rfl rfl ?_
            intro ff wz sz e118
            have e118' : ff 118 = .bool false := e118
            have SZ := hid (HS2.out.trans sz)
            clear sz e118 c103 c110 c116 y1
            rw [iro_lit, e118']
            go_wp2_with fail
            go_roundg (tn - (j + 1))
            case measure => omega
            case rel => exact ⟨j + 1, by simp, by omega, Nat.le_refl _, SZ.out⟩
          · obtain rfl : j = tn := by omega
            have cW := withB_any qb (outM ps L u) HOG.out.2 HOG.out.1 T (fun x hx => by
              have := (good_small HTG.out (by rw [HTN.out]; omega)).2 x hx
              exact le_max (by omega)) (by rw [HTN.out]; omega) ta tc HTC.out wr (HB4.out.step HS2.out) (HT2.out.stepB HS2.out)
            rw [HTN.out] at cW
            have hjn : ¬ (j : Int) < (j : Int) := by omega
            have wi1 : IntKind.i64.wrap ((i : Int) + 1) = (i : Int) + 1 := by rw [IntKind.wrap_i64]; omega
            go_wp2_with fail
            refine cW.mono ?_
            rintro e w5 ⟨hw, s5⟩
            rcases hw with ⟨h1, _⟩ | ⟨_, qb2, rfl, hb2⟩
            · rw [List.all_eq_true.2 HTG.out] at h1
              cases h1
            have HB5 : Hid (BuffAt w5 qb2 (outM ps (t :: L) u)) := by
              show BuffAt _ _ _
              rw [← HPS.out]
              exact hb2
            have HA5 := hid (HA2.out.step (HS2.out.trans s5))
            have S5 := hid (HS.out.trans (S4.out.trans (HS2.out.trans s5)))
            clear s5 hb2 cW
            go_wp2_with fail
            go_roundg (m + n - (i + 1))
            case measure => omega
            case rel => exact ⟨i + 1, qb2, qn2, t :: L, by simp, rfl, rfl, rfl, by omega, Nat.le_refl _, MEM.out, HA5.out, HB5.out, S5.out⟩
    · have hie : i = m + n := by omega
      have hilz : ¬ (i : Int) < (m : Int) + (n : Int) := by omega
      have hall := out_all ps L u (fun x hx => HL.out x (by omega))
      have HA2 : Hid (InnerAt wr qn ⟨ks, ps, []⟩) := by
        show InnerAt _ _ _
        rw [← hall.2]
        exact HA.out
      have HB2 : Hid (BuffAt wr qb u) := by
        show BuffAt _ _ _
        have := HB.out
        rw [hall.1] at this
        exact this
      have c1 := buffN_any qn _ wr HA2.out
      have c2 := buffN_any p ⟨ks, ps, u⟩ wr (I3.out.step HS.out)
      have c3 := fun (q q2 : Nat) (h : BuffAt wr q []) => lenB_any q [] wr h
      have c4 := fun (q2 : Nat) (h : BuffAt wr q2 u) => sameBf_any qb q2 u u (by omega) wr HB2.out h
      rw [(sameM_iff _ _).2 rfl] at c4
      simp only [List.length_nil] at c3
      clear hall HA HB
      go_wp2_with fail
      refine c1.mono ?_
      rintro e w6 ⟨q1, rfl, hq1, rfl⟩
      go_wp2_with fail
      refine (c3 q1 0 hq1.out).mono ?_
      rintro e w6 ⟨rfl, rfl⟩
      go_wp2_with fail
      refine c2.mono ?_
      rintro e w6 ⟨q2, rfl, hq2, rfl⟩
      go_wp2_with fail
      refine (c4 q2 hq2.out).mono ?_
      rintro e w7 ⟨rfl, s7⟩
      have S7 := hid (S3.out.trans (HS.out.trans s7))
      clear s7
      go_wp2_with fail
      go_ret
      exact ⟨by first | rfl | simp, S7.out⟩
end Go.Proofs.Ytgmgoaencaldmaa
namespace Go.Proofs.Ytgmgoaencaldmaa.innerRoutesDone
open Go.ChangeShapes Go.WideShapes Go.ChangeAt Go.RowKit
open Go.ChangeMaps (open_string shut_string)
set_option linter.unusedVariables false

set_option maxRecDepth 100000 in
theorem lifted (os : Os) (started : os.Started) (H : Type) (enc : TypeId × Value → H) :
    ReturnsInHanded {} Try.checked os 3 .any (Rows.innerRoutesSpec.pre6 enc Try.prog Try.f3 Rows.innerRoutesRow.domain false) (Rows.innerRoutesSpec.post enc Try.prog Try.f3 false true false false) := by
  refine returnsInHanded_of_change (C := Try.checked) own_okM started (by kernel_rfl) Try.func3
    (ChangeSpec.witness6 (enc := enc) (C := Try.checked) false ⟨#[], #[.slice none 0 0, .slice none 0 0, .slice none 0 0, .slice none 0 0], []⟩ 8 (by kernel_rfl) (by kernel_rfl) (by kernel_rfl) (by kernel_rfl)) ?_
  intro W base args ds gs before hval0 hW hcnd _
  have hval : ∀ (j : Nat) t v, Try.f3.params[j]? = some t → args[j]? = some v → Value.okWide Try.prog W .any base t v := hval0
  have hW' := hW
  obtain ⟨p, q, hA0, hV, rfl, hfz, hnd⟩ := hW
  have hA : DataW.TrodAll enc Try.prog W 0 (fun _ => true) true Try.f3.params.toList args.toList ds p := hA0
  rw [Try.params3] at hA hval
  obtain ⟨v0, vs0, d0, ds0, p0, q0, hargs, rfl, rfl, h0, r0_⟩ := trodAll_cons hA
  obtain ⟨v1, vs1, d1, ds1, p1, q1, rfl, rfl, rfl, h1, r1_⟩ := trodAll_cons r0_
  obtain ⟨v2, vs2, d2, ds2, p2, q2, rfl, rfl, rfl, h2, r2_⟩ := trodAll_cons r1_
  obtain ⟨v3, vs3, d3, ds3, p3, q3, rfl, rfl, rfl, h3, r3_⟩ := trodAll_cons r2_
  obtain ⟨rfl, rfl, rfl⟩ := trodAll_nil r3_
  obtain rfl : args = #[v0, v1, v2, v3] := by cases args; simp_all
  obtain ⟨rfl, rfl⟩ := trodVars_none hV
  have k0 := h0
  have lt0 : ∀ x ∈ p0, x.block < W.heap.size := by obtain ⟨m, hm⟩ := k0; exact DataW.trod_lt m _ _ _ hm
  obtain ⟨a0, len0, cap0, rfl⟩ := okWide_slice Try.underlying22 (hval 0 22 v0 rfl rfl)
  obtain ⟨⟨hb0, hc0⟩, zs0, hzl0, hzs0⟩ := open_intsN h0
  subst hzl0
  have k1 := h1
  have lt1 : ∀ x ∈ p1, x.block < W.heap.size := by obtain ⟨m, hm⟩ := k1; exact DataW.trod_lt m _ _ _ hm
  obtain ⟨a1, len1, cap1, rfl⟩ := okWide_slice Try.underlying23 (hval 1 23 v1 rfl rfl)
  obtain ⟨hb1, ps1, hpl1, hps1, hmb1⟩ := open_textsK h1
  have hc1 := open_cap Try.underlying23 h1
  subst hpl1
  have k2 := h2
  have lt2 : ∀ x ∈ p2, x.block < W.heap.size := by obtain ⟨m, hm⟩ := k2; exact DataW.trod_lt m _ _ _ hm
  obtain ⟨a2, len2, cap2, rfl⟩ := okWide_slice Try.underlying24 (hval 2 24 v2 rfl rfl)
  obtain ⟨⟨hb2, hc2⟩, ms2, hnl2, hms2, hmb2⟩ := open_mss h2
  subst hnl2
  have k3 := h3
  have lt3 : ∀ x ∈ p3, x.block < W.heap.size := by obtain ⟨m, hm⟩ := k3; exact DataW.trod_lt m _ _ _ hm
  obtain ⟨a3, len3, cap3, rfl⟩ := okWide_slice Try.underlying22 (hval 3 22 v3 rfl rfl)
  obtain ⟨⟨hb3, hc3⟩, zs3, hzl3, hzs3⟩ := open_intsN h3
  subst hzl3
  clear hA0 hval0
  have hw := innerRoutes_any zs0 hb0 a0 cap0 hc0 ps1 hb1 hmb1 a1 cap1 hc1 ms2 hb2 hmb2 a2 cap2 hc2 zs3 hb3 a3 cap3 W hzs0 hps1 hms2 hzs3
  refine hw.mono fun e W' ⟨he, hst⟩ => ?_
  subst he
  have bel : Below W.heap.size W W' := hst.below (fun k hk => hk.elim)
  exact ⟨_, rfl, _, _, _, [], _, [], hW', trodAll_mk1 (shut_bool Try.underlying4 _),
    (trodAll_cons_mk (Below.trod laidOutM (by kernel_rfl) (of_decide_eq_true (by kernel_rfl)) k0 bel lt0) (trodAll_cons_mk (Below.trod laidOutM (by kernel_rfl) (of_decide_eq_true (by kernel_rfl)) k1 bel lt1) (trodAll_cons_mk (Below.trod laidOutM (by kernel_rfl) (of_decide_eq_true (by kernel_rfl)) k2 bel lt2) (trodAll_cons_mk (Below.trod laidOutM (by kernel_rfl) (of_decide_eq_true (by kernel_rfl)) k3 bel lt3) trodAll_mk0)))), rfl, bel.frame _, fun h => by cases h⟩

theorem over : Rows.innerRoutesRow.holds Try.pinned (OpenSpec.ofChange Rows.innerRoutesSpec) :=
  OpenClaim.holds_of_wide 3 Try.f3 rfl rfl rfl rfl rfl rfl rfl ⟨rfl, rfl, rfl, rfl, rfl⟩ rfl rfl rfl rfl rfl (by kernel_rfl) Try.func3 (by kernel_rfl)
    (of_decide_eq_true (by kernel_rfl)) (by unfold Func.isWrapper; first | (rw [if_pos (by decide +kernel)]; kernel_rfl) | (rw [if_neg (by decide +kernel)]; exact ⟨rfl, rfl⟩))
    (fun os started H enc _ => lifted os started H enc)
end Go.Proofs.Ytgmgoaencaldmaa.innerRoutesDone
namespace Go.Proofs.Ytgmgoaencaldmaa
theorem innerRoutes_holds : Rows.InnerRoutesSaid := innerRoutesDone.over
end Go.Proofs.Ytgmgoaencaldmaa
