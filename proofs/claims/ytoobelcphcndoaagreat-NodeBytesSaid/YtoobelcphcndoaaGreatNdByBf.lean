/-
  The region that draws in grangerlaw12.NodeBytes (number 18), operation by operation. Written by draw6.py.
-/
import Derived.Test.YtoobelcphcndoaaGreatDraw
import Derived.Test.YtoobelcphcndoaaGreatNdRC
namespace Go.Proofs.YtoobelcphcndoaaGreat
open Go.RowKit
set_option linter.unusedVariables false
set_option linter.unusedSimpArgs false


def nbybfDs : List Nat := [90, 91, 92, 93, 94, 95, 96, 97, 98, 99]
def nbybfDl : List (Option Nat) := [some 90, some 91, some 92, some 93, some 94, some 95, some 96, some 97, some 98, some 99]
theorem nbybf_dl : ((Tryz.f3.body.bind (regionOps 18)).getD #[]).toList.map (·.dst) = nbybfDl := by kernel_rfl
theorem nbybf_back : backB ((Tryz.f3.body.bind (regionOps 18)).getD #[]) = true := by kernel_rfl
theorem nbybf_size : ((Tryz.f3.body.bind (regionOps 18)).getD #[]).size = 10 := by kernel_rfl
theorem nbybf_nd : nbybfDl.Pairwise (fun x y => x = none ∨ x ≠ y) := by decide
theorem nbybf_lt (d : Nat) (h : some d ∈ nbybfDl) : d < 145 := by
  have hh : nbybfDl.all (fun o => o.all (fun d => decide (d < 145))) = true := by decide
  simpa using List.all_eq_true.1 hh _ h
theorem nbybfOp0 : opIs ((Tryz.f3.body.bind (regionOps 18)).getD #[]) 0 (some 90) (Op.move (Operand.tmp 12)) (none) := opIs_of (by kernel_rfl)
theorem nbybfOp1 : opIs ((Tryz.f3.body.bind (regionOps 18)).getD #[]) 1 (some 91) (Op.move (Operand.tmp 90)) (none) := opIs_of (by kernel_rfl)
theorem nbybfOp2 : opIs ((Tryz.f3.body.bind (regionOps 18)).getD #[]) 2 (some 92) (Op.move (Operand.tmp 5)) (some (1, true)) := opIs_of (by kernel_rfl)
theorem nbybfOp3 : opIs ((Tryz.f3.body.bind (regionOps 18)).getD #[]) 3 (some 93) (Op.move (Operand.tmp 10)) (some (1, true)) := opIs_of (by kernel_rfl)
theorem nbybfOp4 : opIs ((Tryz.f3.body.bind (regionOps 18)).getD #[]) 4 (some 94) (Op.call { callee := Callee.value (Operand.func 17), args := #[Operand.tmp 92, Operand.tmp 93], argTypes := #[32, 32] }) (some (1, true)) := opIs_of (by kernel_rfl)
theorem nbybfOp5 : opIs ((Tryz.f3.body.bind (regionOps 18)).getD #[]) 5 (some 95) (Op.load 29 (Operand.tmp 6)) (some (1, true)) := opIs_of (by kernel_rfl)
theorem nbybfOp6 : opIs ((Tryz.f3.body.bind (regionOps 18)).getD #[]) 6 (some 96) (Op.load 29 (Operand.tmp 11)) (some (1, true)) := opIs_of (by kernel_rfl)
theorem nbybfOp7 : opIs ((Tryz.f3.body.bind (regionOps 18)).getD #[]) 7 (some 97) (Op.call { callee := Callee.value (Operand.func 18), args := #[Operand.tmp 95, Operand.tmp 96], argTypes := #[29, 29] }) (some (1, true)) := opIs_of (by kernel_rfl)
theorem nbybfOp8 : opIs ((Tryz.f3.body.bind (regionOps 18)).getD #[]) 8 (some 98) (Op.binOp BinOp.neq 4 (Operand.tmp 94) (Operand.tmp 97) 4) (some (1, true)) := opIs_of (by kernel_rfl)
theorem nbybfOp9 : opIs ((Tryz.f3.body.bind (regionOps 18)).getD #[]) 9 (some 99) (Op.pick (Operand.tmp 91) (Operand.tmp 98) (Operand.const (Value.bool false))) (none) := opIs_of (by kernel_rfl)
/-- What is said of each slot. -/
def nbybfSp (r g6 g11 : Nat) (x2 : Option Addr) (E : Bool) (U0 U1 U2 U3 U4 V0 V1 V2 V3 V4 : Value) (i : Nat) (w : World) (v : Value) : Prop := match i with
  | 0 => v = .bool false
  | 1 => v = .bool false
  | 2 => v = undef
  | 3 => v = undef
  | 4 => v = undef
  | 5 => v = undef
  | 6 => v = undef
  | 7 => v = undef
  | 8 => v = undef
  | 9 => v = .bool false
  | _ => True
theorem nbybfSp_mono (r g6 g11 : Nat) (x2 : Option Addr) (E : Bool) (U0 U1 U2 U3 U4 V0 V1 V2 V3 V4 : Value) : ∀ i w w' v, Step noF w w' → nbybfSp r g6 g11 x2 E U0 U1 U2 U3 U4 V0 V1 V2 V3 V4 i w v → nbybfSp r g6 g11 x2 E U0 U1 U2 U3 U4 V0 V1 V2 V3 V4 i w' v := by
  intro i w w' v hs h
  match i with
  | 0 => exact h
  | 1 => exact h
  | 2 => exact h
  | 3 => exact h
  | 4 => exact h
  | 5 => exact h
  | 6 => exact h
  | 7 => exact h
  | 8 => exact h
  | 9 => exact h
  | k + 10 => exact h

set_option maxHeartbeats 4000000 in
set_option maxRecDepth 100000 in
theorem nbybf_go (r g6 g11 : Nat) (x2 : Option Addr) (E : Bool) (U0 U1 U2 U3 U4 V0 V1 V2 V3 V4 : Value) (w0 : World) (k00 : w0.cell? ⟨g6, 0, none⟩ = some U0)
    {Q : Exit → Act → World → Prop} (a0 : Act) (hsz : a0.tmps.size = 145) (h5 : a0.tmps.getD 5 undef = .pointer (some ⟨r, 0, none⟩)) (h10 : a0.tmps.getD 10 undef = .pointer x2) (h6 : a0.tmps.getD 6 undef = .pointer (some ⟨g6, 0, none⟩)) (h11 : a0.tmps.getD 11 undef = .pointer (some ⟨g11, 0, none⟩)) (h12 : a0.tmps.getD 12 undef = .bool false)
    (hend : ∀ (f : Nat → Value) (w : World), Step noF w0 w → nbybfSp r g6 g11 x2 E U0 U1 U2 U3 U4 V0 V1 V2 V3 V4 9 w (f 99) → Q .normal (putAll a0 (nbybfDs.map some) (nbybfDs.map f)) w) :
    (Code.region 18 ((Tryz.f3.body.bind (regionOps 18)).getD #[]) true).wp Tryz.prog Q a0 w0 := by
  refine wp_region_preds (nbybfSp r g6 g11 x2 E U0 U1 U2 U3 U4 V0 V1 V2 V3 V4) (nbybfSp_mono r g6 g11 x2 E U0 U1 U2 U3 U4 V0 V1 V2 V3 V4) nbybfDl (by kernel_rfl) nbybf_back nbybf_dl nbybf_nd (fun d h => by rw [hsz]; exact nbybf_lt d h) ?_ ?_
  · intro i hi a w hs hfr hat
    rw [nbybf_size] at hi
    have n5 := (hfr 5 (by decide)).trans h5
    have n10 := (hfr 10 (by decide)).trans h10
    have n6 := (hfr 6 (by decide)).trans h6
    have n11 := (hfr 11 (by decide)).trans h11
    have n12 := (hfr 12 (by decide)).trans h12
    have k0 : w.cell? ⟨g6, 0, none⟩ = some U0 := hs.after k00
    match i, hi with
    | 0, _ =>
      refine op_runs (d := some 90) nbybfOp0 (wants_none a) (v := .bool false) (w' := w) ?_ ⟨90, _, rfl, rfl, Step.refl _ _, rfl⟩
      intro oo hoo
      simp only [execOp, hoo, Act.eval, n12]
      go_simp
    | 1, _ =>
      have n90 : a.tmps.getD 90 undef = _ := hat 0 (lc (by kernel_rfl)) 90 rfl
      refine op_runs (d := some 91) nbybfOp1 (wants_none a) (v := .bool false) (w' := w) ?_ ⟨91, _, rfl, rfl, Step.refl _ _, rfl⟩
      intro oo hoo
      simp only [execOp, hoo, Act.eval, n90]
      go_simp
    | 2, _ =>
      have n91 : a.tmps.getD 91 undef = _ := hat 1 (lc (by kernel_rfl)) 91 rfl
      exact op_skip nbybfOp2 (dj := 91) (by kernel_rfl) n91 (by decide) ⟨92, undef, rfl, rfl, Step.refl _ _, rfl⟩
    | 3, _ =>
      have n91 : a.tmps.getD 91 undef = _ := hat 1 (lc (by kernel_rfl)) 91 rfl
      exact op_skip nbybfOp3 (dj := 91) (by kernel_rfl) n91 (by decide) ⟨93, undef, rfl, rfl, Step.refl _ _, rfl⟩
    | 4, _ =>
      have n91 : a.tmps.getD 91 undef = _ := hat 1 (lc (by kernel_rfl)) 91 rfl
      exact op_skip nbybfOp4 (dj := 91) (by kernel_rfl) n91 (by decide) ⟨94, undef, rfl, rfl, Step.refl _ _, rfl⟩
    | 5, _ =>
      have n91 : a.tmps.getD 91 undef = _ := hat 1 (lc (by kernel_rfl)) 91 rfl
      exact op_skip nbybfOp5 (dj := 91) (by kernel_rfl) n91 (by decide) ⟨95, undef, rfl, rfl, Step.refl _ _, rfl⟩
    | 6, _ =>
      have n91 : a.tmps.getD 91 undef = _ := hat 1 (lc (by kernel_rfl)) 91 rfl
      exact op_skip nbybfOp6 (dj := 91) (by kernel_rfl) n91 (by decide) ⟨96, undef, rfl, rfl, Step.refl _ _, rfl⟩
    | 7, _ =>
      have n91 : a.tmps.getD 91 undef = _ := hat 1 (lc (by kernel_rfl)) 91 rfl
      exact op_skip nbybfOp7 (dj := 91) (by kernel_rfl) n91 (by decide) ⟨97, undef, rfl, rfl, Step.refl _ _, rfl⟩
    | 8, _ =>
      have n91 : a.tmps.getD 91 undef = _ := hat 1 (lc (by kernel_rfl)) 91 rfl
      exact op_skip nbybfOp8 (dj := 91) (by kernel_rfl) n91 (by decide) ⟨98, undef, rfl, rfl, Step.refl _ _, rfl⟩
    | 9, _ =>
      have n91 : a.tmps.getD 91 undef = _ := hat 1 (lc (by kernel_rfl)) 91 rfl
      have n98 : a.tmps.getD 98 undef = _ := hat 8 (lc (by kernel_rfl)) 98 rfl
      refine op_runs (d := some 99) nbybfOp9 (wants_none a) (v := .bool false) (w' := w) ?_ ⟨99, _, rfl, rfl, Step.refl _ _, rfl⟩
      intro oo hoo
      simp only [execOp, hoo, Act.eval, n91, n98]
      go_simp
    | k + 10, h => exact absurd h (by omega)
  · intro a w hs hdf hs2 hfr hat
    rw [nbybf_size] at hat
    have e := act_vals (a := a) (a0 := a0) nbybfDs (by decide) (fun d hd => by rw [hsz]; exact nbybf_lt d (by revert hd; revert d; decide)) hdf hs2 (fun k hk => hfr k (fun hk2 => hk (by revert hk2; simp [nbybfDl, nbybfDs])))
    rw [e]
    exact hend (fun d => a.tmps.getD d undef) w hs (hat 9 (by omega) 99 rfl)
set_option maxRecDepth 100000 in
theorem nbybf_lit (f : Nat → Value) (D : List Deferred) (x0 x1 x2 x3 x4 x5 x6 x7 x8 x9 x10 x11 x12 x13 x14 x15 x16 x17 x18 x19 x20 x21 x22 x23 x24 x25 x26 x27 x28 x29 x30 x31 x32 x33 x34 x35 x36 x37 x38 x39 x40 x41 x42 x43 x44 x45 x46 x47 x48 x49 x50 x51 x52 x53 x54 x55 x56 x57 x58 x59 x60 x61 x62 x63 x64 x65 x66 x67 x68 x69 x70 x71 x72 x73 x74 x75 x76 x77 x78 x79 x80 x81 x82 x83 x84 x85 x86 x87 x88 x89 x90 x91 x92 x93 x94 x95 x96 x97 x98 x99 x100 x101 x102 x103 x104 x105 x106 x107 x108 x109 x110 x111 x112 x113 x114 x115 x116 x117 x118 x119 x120 x121 x122 x123 x124 x125 x126 x127 x128 x129 x130 x131 x132 x133 x134 x135 x136 x137 x138 x139 x140 x141 x142 x143 x144 : Value) : putAll { tmps := #[x0, x1, x2, x3, x4, x5, x6, x7, x8, x9, x10, x11, x12, x13, x14, x15, x16, x17, x18, x19, x20, x21, x22, x23, x24, x25, x26, x27, x28, x29, x30, x31, x32, x33, x34, x35, x36, x37, x38, x39, x40, x41, x42, x43, x44, x45, x46, x47, x48, x49, x50, x51, x52, x53, x54, x55, x56, x57, x58, x59, x60, x61, x62, x63, x64, x65, x66, x67, x68, x69, x70, x71, x72, x73, x74, x75, x76, x77, x78, x79, x80, x81, x82, x83, x84, x85, x86, x87, x88, x89, x90, x91, x92, x93, x94, x95, x96, x97, x98, x99, x100, x101, x102, x103, x104, x105, x106, x107, x108, x109, x110, x111, x112, x113, x114, x115, x116, x117, x118, x119, x120, x121, x122, x123, x124, x125, x126, x127, x128, x129, x130, x131, x132, x133, x134, x135, x136, x137, x138, x139, x140, x141, x142, x143, x144], defers := D } (nbybfDs.map some) (nbybfDs.map f) = { tmps := #[x0, x1, x2, x3, x4, x5, x6, x7, x8, x9, x10, x11, x12, x13, x14, x15, x16, x17, x18, x19, x20, x21, x22, x23, x24, x25, x26, x27, x28, x29, x30, x31, x32, x33, x34, x35, x36, x37, x38, x39, x40, x41, x42, x43, x44, x45, x46, x47, x48, x49, x50, x51, x52, x53, x54, x55, x56, x57, x58, x59, x60, x61, x62, x63, x64, x65, x66, x67, x68, x69, x70, x71, x72, x73, x74, x75, x76, x77, x78, x79, x80, x81, x82, x83, x84, x85, x86, x87, x88, x89, f 90, f 91, f 92, f 93, f 94, f 95, f 96, f 97, f 98, f 99, x100, x101, x102, x103, x104, x105, x106, x107, x108, x109, x110, x111, x112, x113, x114, x115, x116, x117, x118, x119, x120, x121, x122, x123, x124, x125, x126, x127, x128, x129, x130, x131, x132, x133, x134, x135, x136, x137, x138, x139, x140, x141, x142, x143, x144], defers := D } := by kernel_rfl
end Go.Proofs.YtoobelcphcndoaaGreat
