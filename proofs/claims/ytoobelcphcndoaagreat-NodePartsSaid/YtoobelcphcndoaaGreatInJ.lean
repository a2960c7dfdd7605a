/-
  The region that draws in inner.Inner.Join (number 6), operation by operation. Written by draw6.py.
  The region that draws in inner.Inner.Join (number 3), operation by operation. Written by draw6.py.
  The region that draws in inner.Inner.Parts (number 6), operation by operation. Written by draw6.py.
  The region that draws in inner.Same (number 3), operation by operation. Written by draw6.py.
  The region that draws in inner.Same (number 3), operation by operation. Written by draw6.py.
  The region that draws in inner.Same (number 3), operation by operation. Written by draw6.py.
  What Join, Same and Parts of package inner do.
-/
import Derived.Test.YtoobelcphcndoaaGreatDraw
import Derived.Test.YtoobelcphcndoaaGreatInG
import Derived.Test.YtoobelcphcndoaaGreatInA
import Derived.Test.YtoobelcphcndoaaGreatInE
import Derived.Test.YtoobelcphcndoaaGreatInH
import Derived.Test.YtoobelcphcndoaaGreatInS
namespace Go.Proofs.YtoobelcphcndoaaGreat
open Go.RowKit
set_option linter.unusedVariables false
set_option linter.unusedSimpArgs false

/-- A node's pointer, if there is one. -/
def PtrN (w : World) (d : Nd) (v : Value) : Prop := ∃ x, v = .pointer x ∧ (goodN d.kids d.pivs = true → ∃ q, x = some ⟨q, 0, none⟩ ∧ InnerAt w q d) ∧ (goodN d.kids d.pivs = false → x = none)
theorem PtrN.step {w w' : World} {d : Nd} {v : Value} (h : PtrN w d v) (hs : Step noF w w') : PtrN w' d v := by
  obtain ⟨x, h1, h2, h3⟩ := h
  refine ⟨x, h1, fun hg => ?_, h3⟩
  obtain ⟨q, e, hi⟩ := h2 hg
  exact ⟨q, e, hi.step hs⟩
def SlV (w : World) (n : Nat) (cs : List Value) (v : Value) : Prop := ∃ a c, v = .slice a n c ∧ SlAt w a n c cs
theorem SlV.step {w w' : World} {n : Nat} {cs : List Value} {v : Value} (h : SlV w n cs v) (hs : Step noF w w') : SlV w' n cs v := by
  obtain ⟨a, c, h1, h2⟩ := h
  exact ⟨a, c, h1, h2.step hs⟩

def ijrDs : List Nat := [32, 33, 34, 35, 36, 37, 38, 39, 40, 41, 42, 43, 44, 45, 46, 47, 48, 49, 50, 51, 52, 53, 54, 55, 56, 57, 6, 7]
def ijrDl : List (Option Nat) := [some 32, some 33, some 34, some 35, some 36, some 37, some 38, some 39, some 40, some 41, some 42, some 43, some 44, some 45, some 46, some 47, some 48, some 49, some 50, some 51, some 52, some 53, some 54, some 55, some 56, some 57, some 6, some 7]
theorem ijr_dl : ((Tryz.f33.body.bind (regionOps 6)).getD #[]).toList.map (·.dst) = ijrDl := by kernel_rfl
theorem ijr_back : backB ((Tryz.f33.body.bind (regionOps 6)).getD #[]) = true := by kernel_rfl
theorem ijr_size : ((Tryz.f33.body.bind (regionOps 6)).getD #[]).size = 28 := by kernel_rfl
theorem ijr_nd : ijrDl.Pairwise (fun x y => x = none ∨ x ≠ y) := by decide
theorem ijr_lt (d : Nat) (h : some d ∈ ijrDl) : d < 58 := by
  have hh : ijrDl.all (fun o => o.all (fun d => decide (d < 58))) = true := by decide
  simpa using List.all_eq_true.1 hh _ h
theorem ijrOp0 : opIs ((Tryz.f33.body.bind (regionOps 6)).getD #[]) 0 (some 32) (Op.move (Operand.tmp 0)) (none) := opIs_of (by kernel_rfl)
theorem ijrOp1 : opIs ((Tryz.f33.body.bind (regionOps 6)).getD #[]) 1 (some 33) (Op.nilCheck (Operand.tmp 32)) (none) := opIs_of (by kernel_rfl)
theorem ijrOp2 : opIs ((Tryz.f33.body.bind (regionOps 6)).getD #[]) 2 (some 34) (Op.fieldAddr 132 (Operand.tmp 33) 0) (none) := opIs_of (by kernel_rfl)
theorem ijrOp3 : opIs ((Tryz.f33.body.bind (regionOps 6)).getD #[]) 3 (some 35) (Op.load 23 (Operand.tmp 34)) (none) := opIs_of (by kernel_rfl)
theorem ijrOp4 : opIs ((Tryz.f33.body.bind (regionOps 6)).getD #[]) 4 (some 36) (Op.move (Operand.tmp 2)) (none) := opIs_of (by kernel_rfl)
theorem ijrOp5 : opIs ((Tryz.f33.body.bind (regionOps 6)).getD #[]) 5 (some 37) (Op.nilCheck (Operand.tmp 36)) (none) := opIs_of (by kernel_rfl)
theorem ijrOp6 : opIs ((Tryz.f33.body.bind (regionOps 6)).getD #[]) 6 (some 38) (Op.fieldAddr 132 (Operand.tmp 37) 0) (none) := opIs_of (by kernel_rfl)
theorem ijrOp7 : opIs ((Tryz.f33.body.bind (regionOps 6)).getD #[]) 7 (some 39) (Op.load 23 (Operand.tmp 38)) (none) := opIs_of (by kernel_rfl)
theorem ijrOp8 : opIs ((Tryz.f33.body.bind (regionOps 6)).getD #[]) 8 (some 40) (Op.buildSlice 179 2 #[(0, Operand.tmp 35), (1, Operand.tmp 39)]) (none) := opIs_of (by kernel_rfl)
theorem ijrOp9 : opIs ((Tryz.f33.body.bind (regionOps 6)).getD #[]) 9 (some 41) (Op.call { callee := Callee.value (Operand.func 81), args := #[Operand.tmp 40], argTypes := #[179] }) (none) := opIs_of (by kernel_rfl)
theorem ijrOp10 : opIs ((Tryz.f33.body.bind (regionOps 6)).getD #[]) 10 (some 42) (Op.move (Operand.tmp 0)) (none) := opIs_of (by kernel_rfl)
theorem ijrOp11 : opIs ((Tryz.f33.body.bind (regionOps 6)).getD #[]) 11 (some 43) (Op.nilCheck (Operand.tmp 42)) (none) := opIs_of (by kernel_rfl)
theorem ijrOp12 : opIs ((Tryz.f33.body.bind (regionOps 6)).getD #[]) 12 (some 44) (Op.fieldAddr 132 (Operand.tmp 43) 1) (none) := opIs_of (by kernel_rfl)
theorem ijrOp13 : opIs ((Tryz.f33.body.bind (regionOps 6)).getD #[]) 13 (some 45) (Op.load 24 (Operand.tmp 44)) (none) := opIs_of (by kernel_rfl)
theorem ijrOp14 : opIs ((Tryz.f33.body.bind (regionOps 6)).getD #[]) 14 (some 46) (Op.move (Operand.tmp 1)) (none) := opIs_of (by kernel_rfl)
theorem ijrOp15 : opIs ((Tryz.f33.body.bind (regionOps 6)).getD #[]) 15 (some 47) (Op.buildSlice 24 1 #[(0, Operand.tmp 46)]) (none) := opIs_of (by kernel_rfl)
theorem ijrOp16 : opIs ((Tryz.f33.body.bind (regionOps 6)).getD #[]) 16 (some 48) (Op.move (Operand.tmp 2)) (none) := opIs_of (by kernel_rfl)
theorem ijrOp17 : opIs ((Tryz.f33.body.bind (regionOps 6)).getD #[]) 17 (some 49) (Op.nilCheck (Operand.tmp 48)) (none) := opIs_of (by kernel_rfl)
theorem ijrOp18 : opIs ((Tryz.f33.body.bind (regionOps 6)).getD #[]) 18 (some 50) (Op.fieldAddr 132 (Operand.tmp 49) 1) (none) := opIs_of (by kernel_rfl)
theorem ijrOp19 : opIs ((Tryz.f33.body.bind (regionOps 6)).getD #[]) 19 (some 51) (Op.load 24 (Operand.tmp 50)) (none) := opIs_of (by kernel_rfl)
theorem ijrOp20 : opIs ((Tryz.f33.body.bind (regionOps 6)).getD #[]) 20 (some 52) (Op.buildSlice 181 3 #[(0, Operand.tmp 45), (1, Operand.tmp 47), (2, Operand.tmp 51)]) (none) := opIs_of (by kernel_rfl)
theorem ijrOp21 : opIs ((Tryz.f33.body.bind (regionOps 6)).getD #[]) 21 (some 53) (Op.call { callee := Callee.value (Operand.func 82), args := #[Operand.tmp 52], argTypes := #[181] }) (none) := opIs_of (by kernel_rfl)
theorem ijrOp22 : opIs ((Tryz.f33.body.bind (regionOps 6)).getD #[]) 22 (some 54) (Op.move (Operand.tmp 8)) (none) := opIs_of (by kernel_rfl)
theorem ijrOp23 : opIs ((Tryz.f33.body.bind (regionOps 6)).getD #[]) 23 (some 55) (Op.call { callee := Callee.value (Operand.func 80), args := #[Operand.tmp 41, Operand.tmp 53, Operand.tmp 54], argTypes := #[23, 24, 64] }) (none) := opIs_of (by kernel_rfl)
theorem ijrOp24 : opIs ((Tryz.f33.body.bind (regionOps 6)).getD #[]) 24 (some 56) (Op.extract (Operand.tmp 55) 0) (none) := opIs_of (by kernel_rfl)
theorem ijrOp25 : opIs ((Tryz.f33.body.bind (regionOps 6)).getD #[]) 25 (some 57) (Op.extract (Operand.tmp 55) 1) (none) := opIs_of (by kernel_rfl)
theorem ijrOp26 : opIs ((Tryz.f33.body.bind (regionOps 6)).getD #[]) 26 (some 6) (Op.assign (Operand.tmp 56)) (none) := opIs_of (by kernel_rfl)
theorem ijrOp27 : opIs ((Tryz.f33.body.bind (regionOps 6)).getD #[]) 27 (some 7) (Op.assign (Operand.tmp 57)) (none) := opIs_of (by kernel_rfl)
/-- What is said of each slot. -/
def ijrSp (p p2 q3 : Nat) (ka1 ka2 pa1 pa2 : Option Addr) (kn1 kn2 kc1 kc2 pn1 pn2 pc1 pc2 : Nat) (piv : List UInt8) (KS : List Int) (PS : List (List UInt8)) (ms : List Mg) (ER : Int) (i : Nat) (w : World) (v : Value) : Prop := match i with
  | 0 => v = .pointer (some ⟨p, 0, none⟩)
  | 1 => v = .pointer (some ⟨p, 0, none⟩)
  | 2 => v = .pointer (some ⟨p, 0, none⟩)
  | 3 => v = .slice ka1 kn1 kc1
  | 4 => v = .pointer (some ⟨p2, 0, none⟩)
  | 5 => v = .pointer (some ⟨p2, 0, none⟩)
  | 6 => v = .pointer (some ⟨p2, 0, none⟩)
  | 7 => v = .slice ka2 kn2 kc2
  | 8 => ∃ g, v = .slice (some ⟨g, 0, none⟩) 2 2 ∧ w.cell? ⟨g, 0, none⟩ = some (.slice ka1 kn1 kc1) ∧ w.cell? ⟨g, 1, none⟩ = some (.slice ka2 kn2 kc2)
  | 9 => SlV w KS.length (intsOf KS) v
  | 10 => v = .pointer (some ⟨p, 0, none⟩)
  | 11 => v = .pointer (some ⟨p, 0, none⟩)
  | 12 => v = .pointer (some ⟨p, 1, none⟩)
  | 13 => v = .slice pa1 pn1 pc1
  | 14 => v = .string (str piv)
  | 15 => ∃ g, v = .slice (some ⟨g, 0, none⟩) 1 1 ∧ w.cell? ⟨g, 0, none⟩ = some (.string (str piv))
  | 16 => v = .pointer (some ⟨p2, 0, none⟩)
  | 17 => v = .pointer (some ⟨p2, 0, none⟩)
  | 18 => v = .pointer (some ⟨p2, 1, none⟩)
  | 19 => v = .slice pa2 pn2 pc2
  | 20 => ∃ g g1, v = .slice (some ⟨g, 0, none⟩) 3 3 ∧ w.cell? ⟨g, 0, none⟩ = some (.slice pa1 pn1 pc1) ∧ w.cell? ⟨g, 1, none⟩ = some (.slice (some ⟨g1, 0, none⟩) 1 1) ∧ w.cell? ⟨g, 2, none⟩ = some (.slice pa2 pn2 pc2) ∧ w.cell? ⟨g1, 0, none⟩ = some (.string (str piv))
  | 21 => SlV w PS.length (texts PS) v
  | 22 => v = .pointer (some ⟨q3, 0, none⟩)
  | 23 => ∃ x, v = .tuple #[.pointer x, .int .i64 ER] ∧ PtrN w ⟨KS, PS, ms⟩ (.pointer x)
  | 24 => PtrN w ⟨KS, PS, ms⟩ v
  | 25 => v = .int .i64 ER
  | 26 => PtrN w ⟨KS, PS, ms⟩ v
  | 27 => v = .int .i64 ER
  | _ => True
theorem ijrKeep40 (p p2 q3 : Nat) (ka1 ka2 pa1 pa2 : Option Addr) (kn1 kn2 kc1 kc2 pn1 pn2 pc1 pc2 : Nat) (piv : List UInt8) (KS : List Int) (PS : List (List UInt8)) (ms : List Mg) (ER : Int) {w w' : World} {v : Value} (hs : Step noF w w') (h : ∃ g, v = .slice (some ⟨g, 0, none⟩) 2 2 ∧ w.cell? ⟨g, 0, none⟩ = some (.slice ka1 kn1 kc1) ∧ w.cell? ⟨g, 1, none⟩ = some (.slice ka2 kn2 kc2)) : ∃ g, v = .slice (some ⟨g, 0, none⟩) 2 2 ∧ w'.cell? ⟨g, 0, none⟩ = some (.slice ka1 kn1 kc1) ∧ w'.cell? ⟨g, 1, none⟩ = some (.slice ka2 kn2 kc2) := by
  obtain ⟨g, h1, h2, h3⟩ := h; exact ⟨g, h1, hs.after h2, hs.after h3⟩
theorem ijrKeep41 (p p2 q3 : Nat) (ka1 ka2 pa1 pa2 : Option Addr) (kn1 kn2 kc1 kc2 pn1 pn2 pc1 pc2 : Nat) (piv : List UInt8) (KS : List Int) (PS : List (List UInt8)) (ms : List Mg) (ER : Int) {w w' : World} {v : Value} (hs : Step noF w w') (h : SlV w KS.length (intsOf KS) v) : SlV w' KS.length (intsOf KS) v := by
  exact h.step hs
theorem ijrKeep47 (p p2 q3 : Nat) (ka1 ka2 pa1 pa2 : Option Addr) (kn1 kn2 kc1 kc2 pn1 pn2 pc1 pc2 : Nat) (piv : List UInt8) (KS : List Int) (PS : List (List UInt8)) (ms : List Mg) (ER : Int) {w w' : World} {v : Value} (hs : Step noF w w') (h : ∃ g, v = .slice (some ⟨g, 0, none⟩) 1 1 ∧ w.cell? ⟨g, 0, none⟩ = some (.string (str piv))) : ∃ g, v = .slice (some ⟨g, 0, none⟩) 1 1 ∧ w'.cell? ⟨g, 0, none⟩ = some (.string (str piv)) := by
  obtain ⟨g, h1, h2⟩ := h; exact ⟨g, h1, hs.after h2⟩
theorem ijrKeep52 (p p2 q3 : Nat) (ka1 ka2 pa1 pa2 : Option Addr) (kn1 kn2 kc1 kc2 pn1 pn2 pc1 pc2 : Nat) (piv : List UInt8) (KS : List Int) (PS : List (List UInt8)) (ms : List Mg) (ER : Int) {w w' : World} {v : Value} (hs : Step noF w w') (h : ∃ g g1, v = .slice (some ⟨g, 0, none⟩) 3 3 ∧ w.cell? ⟨g, 0, none⟩ = some (.slice pa1 pn1 pc1) ∧ w.cell? ⟨g, 1, none⟩ = some (.slice (some ⟨g1, 0, none⟩) 1 1) ∧ w.cell? ⟨g, 2, none⟩ = some (.slice pa2 pn2 pc2) ∧ w.cell? ⟨g1, 0, none⟩ = some (.string (str piv))) : ∃ g g1, v = .slice (some ⟨g, 0, none⟩) 3 3 ∧ w'.cell? ⟨g, 0, none⟩ = some (.slice pa1 pn1 pc1) ∧ w'.cell? ⟨g, 1, none⟩ = some (.slice (some ⟨g1, 0, none⟩) 1 1) ∧ w'.cell? ⟨g, 2, none⟩ = some (.slice pa2 pn2 pc2) ∧ w'.cell? ⟨g1, 0, none⟩ = some (.string (str piv)) := by
  obtain ⟨g, g1, h1, h2, h3, h4, h5⟩ := h; exact ⟨g, g1, h1, hs.after h2, hs.after h3, hs.after h4, hs.after h5⟩
theorem ijrKeep53 (p p2 q3 : Nat) (ka1 ka2 pa1 pa2 : Option Addr) (kn1 kn2 kc1 kc2 pn1 pn2 pc1 pc2 : Nat) (piv : List UInt8) (KS : List Int) (PS : List (List UInt8)) (ms : List Mg) (ER : Int) {w w' : World} {v : Value} (hs : Step noF w w') (h : SlV w PS.length (texts PS) v) : SlV w' PS.length (texts PS) v := by
  exact h.step hs
theorem ijrKeep55 (p p2 q3 : Nat) (ka1 ka2 pa1 pa2 : Option Addr) (kn1 kn2 kc1 kc2 pn1 pn2 pc1 pc2 : Nat) (piv : List UInt8) (KS : List Int) (PS : List (List UInt8)) (ms : List Mg) (ER : Int) {w w' : World} {v : Value} (hs : Step noF w w') (h : ∃ x, v = .tuple #[.pointer x, .int .i64 ER] ∧ PtrN w ⟨KS, PS, ms⟩ (.pointer x)) : ∃ x, v = .tuple #[.pointer x, .int .i64 ER] ∧ PtrN w' ⟨KS, PS, ms⟩ (.pointer x) := by
  obtain ⟨x, h1, h2⟩ := h; exact ⟨x, h1, h2.step hs⟩
theorem ijrKeep56 (p p2 q3 : Nat) (ka1 ka2 pa1 pa2 : Option Addr) (kn1 kn2 kc1 kc2 pn1 pn2 pc1 pc2 : Nat) (piv : List UInt8) (KS : List Int) (PS : List (List UInt8)) (ms : List Mg) (ER : Int) {w w' : World} {v : Value} (hs : Step noF w w') (h : PtrN w ⟨KS, PS, ms⟩ v) : PtrN w' ⟨KS, PS, ms⟩ v := by
  exact h.step hs
theorem ijrKeep6 (p p2 q3 : Nat) (ka1 ka2 pa1 pa2 : Option Addr) (kn1 kn2 kc1 kc2 pn1 pn2 pc1 pc2 : Nat) (piv : List UInt8) (KS : List Int) (PS : List (List UInt8)) (ms : List Mg) (ER : Int) {w w' : World} {v : Value} (hs : Step noF w w') (h : PtrN w ⟨KS, PS, ms⟩ v) : PtrN w' ⟨KS, PS, ms⟩ v := by
  exact h.step hs
theorem ijrSp_mono (p p2 q3 : Nat) (ka1 ka2 pa1 pa2 : Option Addr) (kn1 kn2 kc1 kc2 pn1 pn2 pc1 pc2 : Nat) (piv : List UInt8) (KS : List Int) (PS : List (List UInt8)) (ms : List Mg) (ER : Int) : ∀ i w w' v, Step noF w w' → ijrSp p p2 q3 ka1 ka2 pa1 pa2 kn1 kn2 kc1 kc2 pn1 pn2 pc1 pc2 piv KS PS ms ER i w v → ijrSp p p2 q3 ka1 ka2 pa1 pa2 kn1 kn2 kc1 kc2 pn1 pn2 pc1 pc2 piv KS PS ms ER i w' v := by
  intro i w w' v hs h
  match i with
  | 0 => exact h
  | 1 => exact h
  | 2 => exact h
  | 3 => exact h
  | 4 => exact h
  | 5 => exact h
  | 6 => exact h
  | 7 => exact h
  | 8 => exact ijrKeep40 p p2 q3 ka1 ka2 pa1 pa2 kn1 kn2 kc1 kc2 pn1 pn2 pc1 pc2 piv KS PS ms ER hs h
  | 9 => exact ijrKeep41 p p2 q3 ka1 ka2 pa1 pa2 kn1 kn2 kc1 kc2 pn1 pn2 pc1 pc2 piv KS PS ms ER hs h
  | 10 => exact h
  | 11 => exact h
  | 12 => exact h
  | 13 => exact h
  | 14 => exact h
  | 15 => exact ijrKeep47 p p2 q3 ka1 ka2 pa1 pa2 kn1 kn2 kc1 kc2 pn1 pn2 pc1 pc2 piv KS PS ms ER hs h
  | 16 => exact h
  | 17 => exact h
  | 18 => exact h
  | 19 => exact h
  | 20 => exact ijrKeep52 p p2 q3 ka1 ka2 pa1 pa2 kn1 kn2 kc1 kc2 pn1 pn2 pc1 pc2 piv KS PS ms ER hs h
  | 21 => exact ijrKeep53 p p2 q3 ka1 ka2 pa1 pa2 kn1 kn2 kc1 kc2 pn1 pn2 pc1 pc2 piv KS PS ms ER hs h
  | 22 => exact h
  | 23 => exact ijrKeep55 p p2 q3 ka1 ka2 pa1 pa2 kn1 kn2 kc1 kc2 pn1 pn2 pc1 pc2 piv KS PS ms ER hs h
  | 24 => exact ijrKeep56 p p2 q3 ka1 ka2 pa1 pa2 kn1 kn2 kc1 kc2 pn1 pn2 pc1 pc2 piv KS PS ms ER hs h
  | 25 => exact h
  | 26 => exact ijrKeep6 p p2 q3 ka1 ka2 pa1 pa2 kn1 kn2 kc1 kc2 pn1 pn2 pc1 pc2 piv KS PS ms ER hs h
  | 27 => exact h
  | k + 28 => exact h

set_option maxHeartbeats 4000000 in
set_option maxRecDepth 100000 in
theorem ijr_go (p p2 q3 : Nat) (ka1 ka2 pa1 pa2 : Option Addr) (kn1 kn2 kc1 kc2 pn1 pn2 pc1 pc2 : Nat) (piv : List UInt8) (KS : List Int) (PS : List (List UInt8)) (ms : List Mg) (ER : Int) (w0 : World) (k10 : w0.cell? ⟨p, 0, none⟩ = some (.slice ka1 kn1 kc1)) (p10 : w0.cell? ⟨p, 1, none⟩ = some (.slice pa1 pn1 pc1)) (k20 : w0.cell? ⟨p2, 0, none⟩ = some (.slice ka2 kn2 kc2)) (p2_0 : w0.cell? ⟨p2, 1, none⟩ = some (.slice pa2 pn2 pc2)) (c410 : ∀ (G : Nat) (w0' : World), Step noF w0 w0' → w0'.cell? ⟨G, 0, none⟩ = some (.slice ka1 kn1 kc1) → w0'.cell? ⟨G, 1, none⟩ = some (.slice ka2 kn2 kc2) → Calls Tryz.prog 81 #[.slice (some ⟨G, 0, none⟩) 2 2] w0' fun e w0'' => ∃ v, e = .returned v ∧ Step noF w0' w0'' ∧ SlV w0'' KS.length (intsOf KS) v) (c530 : ∀ (G g1 : Nat) (w0' : World), Step noF w0 w0' → w0'.cell? ⟨G, 0, none⟩ = some (.slice pa1 pn1 pc1) → w0'.cell? ⟨G, 1, none⟩ = some (.slice (some ⟨g1, 0, none⟩) 1 1) → w0'.cell? ⟨G, 2, none⟩ = some (.slice pa2 pn2 pc2) → w0'.cell? ⟨g1, 0, none⟩ = some (.string (str piv)) → Calls Tryz.prog 82 #[.slice (some ⟨G, 0, none⟩) 3 3] w0' fun e w0'' => ∃ v, e = .returned v ∧ Step noF w0' w0'' ∧ SlV w0'' PS.length (texts PS) v) (c550 : ∀ (v1 v2 : Value) (w0' : World), Step noF w0 w0' → SlV w0' KS.length (intsOf KS) v1 → SlV w0' PS.length (texts PS) v2 → Calls Tryz.prog 80 #[v1, v2, .pointer (some ⟨q3, 0, none⟩)] w0' fun e w0'' => ∃ v, e = .returned v ∧ Step noF w0' w0'' ∧ ∃ x, v = .tuple #[.pointer x, .int .i64 ER] ∧ PtrN w0'' ⟨KS, PS, ms⟩ (.pointer x))
    {Q : Exit → Act → World → Prop} (a0 : Act) (hsz : a0.tmps.size = 58) (h0 : a0.tmps.getD 0 undef = .pointer (some ⟨p, 0, none⟩)) (h1 : a0.tmps.getD 1 undef = .string (str piv)) (h2 : a0.tmps.getD 2 undef = .pointer (some ⟨p2, 0, none⟩)) (h8 : a0.tmps.getD 8 undef = .pointer (some ⟨q3, 0, none⟩))
    (hend : ∀ (f : Nat → Value) (w : World), Step noF w0 w → ijrSp p p2 q3 ka1 ka2 pa1 pa2 kn1 kn2 kc1 kc2 pn1 pn2 pc1 pc2 piv KS PS ms ER 26 w (f 6) → ijrSp p p2 q3 ka1 ka2 pa1 pa2 kn1 kn2 kc1 kc2 pn1 pn2 pc1 pc2 piv KS PS ms ER 27 w (f 7) → Q .normal (putAll a0 (ijrDs.map some) (ijrDs.map f)) w) :
    (Code.region 6 ((Tryz.f33.body.bind (regionOps 6)).getD #[]) true).wp Tryz.prog Q a0 w0 := by
  refine wp_region_preds (ijrSp p p2 q3 ka1 ka2 pa1 pa2 kn1 kn2 kc1 kc2 pn1 pn2 pc1 pc2 piv KS PS ms ER) (ijrSp_mono p p2 q3 ka1 ka2 pa1 pa2 kn1 kn2 kc1 kc2 pn1 pn2 pc1 pc2 piv KS PS ms ER) ijrDl (by kernel_rfl) ijr_back ijr_dl ijr_nd (fun d h => by rw [hsz]; exact ijr_lt d h) ?_ ?_
  · intro i hi a w hs hfr hat
    rw [ijr_size] at hi
    have n0 := (hfr 0 (by decide)).trans h0
    have n1 := (hfr 1 (by decide)).trans h1
    have n2 := (hfr 2 (by decide)).trans h2
    have n8 := (hfr 8 (by decide)).trans h8
    have k1 : w.cell? ⟨p, 0, none⟩ = some (.slice ka1 kn1 kc1) := hs.after k10
    have p1 : w.cell? ⟨p, 1, none⟩ = some (.slice pa1 pn1 pc1) := hs.after p10
    have k2 : w.cell? ⟨p2, 0, none⟩ = some (.slice ka2 kn2 kc2) := hs.after k20
    have p2_ : w.cell? ⟨p2, 1, none⟩ = some (.slice pa2 pn2 pc2) := hs.after p2_0
    have c41 : ∀ (G : Nat) (w' : World), Step noF w w' → w'.cell? ⟨G, 0, none⟩ = some (.slice ka1 kn1 kc1) → w'.cell? ⟨G, 1, none⟩ = some (.slice ka2 kn2 kc2) → Calls Tryz.prog 81 #[.slice (some ⟨G, 0, none⟩) 2 2] w' fun e w'' => ∃ v, e = .returned v ∧ Step noF w' w'' ∧ SlV w'' KS.length (intsOf KS) v := fun G w' s' => c410 G w' (hs.trans s')
    have c53 : ∀ (G g1 : Nat) (w' : World), Step noF w w' → w'.cell? ⟨G, 0, none⟩ = some (.slice pa1 pn1 pc1) → w'.cell? ⟨G, 1, none⟩ = some (.slice (some ⟨g1, 0, none⟩) 1 1) → w'.cell? ⟨G, 2, none⟩ = some (.slice pa2 pn2 pc2) → w'.cell? ⟨g1, 0, none⟩ = some (.string (str piv)) → Calls Tryz.prog 82 #[.slice (some ⟨G, 0, none⟩) 3 3] w' fun e w'' => ∃ v, e = .returned v ∧ Step noF w' w'' ∧ SlV w'' PS.length (texts PS) v := fun G g1 w' s' => c530 G g1 w' (hs.trans s')
    have c55 : ∀ (v1 v2 : Value) (w' : World), Step noF w w' → SlV w' KS.length (intsOf KS) v1 → SlV w' PS.length (texts PS) v2 → Calls Tryz.prog 80 #[v1, v2, .pointer (some ⟨q3, 0, none⟩)] w' fun e w'' => ∃ v, e = .returned v ∧ Step noF w' w'' ∧ ∃ x, v = .tuple #[.pointer x, .int .i64 ER] ∧ PtrN w'' ⟨KS, PS, ms⟩ (.pointer x) := fun v1 v2 w' s' => c550 v1 v2 w' (hs.trans s')
    match i, hi with
    | 0, _ =>
      refine op_runs (d := some 32) ijrOp0 (wants_none a) (v := .pointer (some ⟨p, 0, none⟩)) (w' := w) ?_ ⟨32, _, rfl, rfl, Step.refl _ _, rfl⟩
      intro oo hoo
      simp only [execOp, hoo, Act.eval, n0]
      go_simp
    | 1, _ =>
      have n32 : a.tmps.getD 32 undef = _ := hat 0 (lc (by kernel_rfl)) 32 rfl
      refine op_runs (d := some 33) ijrOp1 (wants_none a) (v := .pointer (some ⟨p, 0, none⟩)) (w' := w) ?_ ⟨33, _, rfl, rfl, Step.refl _ _, rfl⟩
      intro oo hoo
      simp only [execOp, hoo, Act.eval, n32]
      go_simp
    | 2, _ =>
      have n33 : a.tmps.getD 33 undef = _ := hat 1 (lc (by kernel_rfl)) 33 rfl
      refine op_runs (d := some 34) ijrOp2 (wants_none a) (v := .pointer (some ⟨p, 0, none⟩)) (w' := w) ?_ ⟨34, _, rfl, rfl, Step.refl _ _, rfl⟩
      intro oo hoo
      simp only [execOp, hoo, Act.eval, n33]
      go_simp
    | 3, _ =>
      have n34 : a.tmps.getD 34 undef = _ := hat 2 (lc (by kernel_rfl)) 34 rfl
      refine op_runs (d := some 35) ijrOp3 (wants_none a) (v := .slice ka1 kn1 kc1) (w' := w) ?_ ⟨35, _, rfl, rfl, Step.refl _ _, rfl⟩
      intro oo hoo
      simp only [execOp, hoo, Act.eval, n34]
      go_simp
    | 4, _ =>
      refine op_runs (d := some 36) ijrOp4 (wants_none a) (v := .pointer (some ⟨p2, 0, none⟩)) (w' := w) ?_ ⟨36, _, rfl, rfl, Step.refl _ _, rfl⟩
      intro oo hoo
      simp only [execOp, hoo, Act.eval, n2]
      go_simp
    | 5, _ =>
      have n36 : a.tmps.getD 36 undef = _ := hat 4 (lc (by kernel_rfl)) 36 rfl
      refine op_runs (d := some 37) ijrOp5 (wants_none a) (v := .pointer (some ⟨p2, 0, none⟩)) (w' := w) ?_ ⟨37, _, rfl, rfl, Step.refl _ _, rfl⟩
      intro oo hoo
      simp only [execOp, hoo, Act.eval, n36]
      go_simp
    | 6, _ =>
      have n37 : a.tmps.getD 37 undef = _ := hat 5 (lc (by kernel_rfl)) 37 rfl
      refine op_runs (d := some 38) ijrOp6 (wants_none a) (v := .pointer (some ⟨p2, 0, none⟩)) (w' := w) ?_ ⟨38, _, rfl, rfl, Step.refl _ _, rfl⟩
      intro oo hoo
      simp only [execOp, hoo, Act.eval, n37]
      go_simp
    | 7, _ =>
      have n38 : a.tmps.getD 38 undef = _ := hat 6 (lc (by kernel_rfl)) 38 rfl
      refine op_runs (d := some 39) ijrOp7 (wants_none a) (v := .slice ka2 kn2 kc2) (w' := w) ?_ ⟨39, _, rfl, rfl, Step.refl _ _, rfl⟩
      intro oo hoo
      simp only [execOp, hoo, Act.eval, n38]
      go_simp
    | 8, _ =>
      have n35 : a.tmps.getD 35 undef = _ := hat 3 (lc (by kernel_rfl)) 35 rfl
      have n39 : a.tmps.getD 39 undef = _ := hat 7 (lc (by kernel_rfl)) 39 rfl
      refine op_runs (d := some 40) ijrOp8 (wants_none a) (v := .slice (some ⟨w.heap.size, 0, none⟩) 2 2) (w' := (w.alloc (.cells #[.slice ka1 kn1 kc1, .slice ka2 kn2 kc2] 23))) ?_ ⟨40, _, rfl, rfl, (by first | exact (Step.refl _ _).alloc _ | exact Step.refl _ _), ⟨_, rfl, (two_slices w _ _ _).1, (two_slices w _ _ _).2⟩⟩
      intro oo hoo
      simp only [execOp, hoo, Act.eval, List.map_toArray, List.map_cons, List.map_nil, n35, n39]
      kernel_rfl
    | 9, _ =>
      have hp40 : ijrSp p p2 q3 ka1 ka2 pa1 pa2 kn1 kn2 kc1 kc2 pn1 pn2 pc1 pc2 piv KS PS ms ER 8 w (a.tmps.getD 40 undef) := hat 8 (lc (by kernel_rfl)) 40 rfl
      have hq40 := hp40
      obtain ⟨g40, n40, u40, t40⟩ := hq40
      refine op_calls ijrOp9 (wants_none a) Tryz.func81 (by kernel_rfl) (by kernel_rfl) (args := #[.slice (some ⟨g40, 0, none⟩) 2 2]) (by simp [Act.eval, n40]) ((c41 g40 w (Step.refl _ _) u40 t40).mono ?_)
      rintro e w' ⟨v, rfl, s', hv⟩
      exact ⟨_, rfl, 41, _, rfl, rfl, s', hv⟩
    | 10, _ =>
      refine op_runs (d := some 42) ijrOp10 (wants_none a) (v := .pointer (some ⟨p, 0, none⟩)) (w' := w) ?_ ⟨42, _, rfl, rfl, Step.refl _ _, rfl⟩
      intro oo hoo
      simp only [execOp, hoo, Act.eval, n0]
      go_simp
    | 11, _ =>
      have n42 : a.tmps.getD 42 undef = _ := hat 10 (lc (by kernel_rfl)) 42 rfl
      refine op_runs (d := some 43) ijrOp11 (wants_none a) (v := .pointer (some ⟨p, 0, none⟩)) (w' := w) ?_ ⟨43, _, rfl, rfl, Step.refl _ _, rfl⟩
      intro oo hoo
      simp only [execOp, hoo, Act.eval, n42]
      go_simp
    | 12, _ =>
      have n43 : a.tmps.getD 43 undef = _ := hat 11 (lc (by kernel_rfl)) 43 rfl
      refine op_runs (d := some 44) ijrOp12 (wants_none a) (v := .pointer (some ⟨p, 1, none⟩)) (w' := w) ?_ ⟨44, _, rfl, rfl, Step.refl _ _, rfl⟩
      intro oo hoo
      simp only [execOp, hoo, Act.eval, n43]
      go_simp
    | 13, _ =>
      have n44 : a.tmps.getD 44 undef = _ := hat 12 (lc (by kernel_rfl)) 44 rfl
      refine op_runs (d := some 45) ijrOp13 (wants_none a) (v := .slice pa1 pn1 pc1) (w' := w) ?_ ⟨45, _, rfl, rfl, Step.refl _ _, rfl⟩
      intro oo hoo
      simp only [execOp, hoo, Act.eval, n44]
      go_simp
    | 14, _ =>
      refine op_runs (d := some 46) ijrOp14 (wants_none a) (v := .string (str piv)) (w' := w) ?_ ⟨46, _, rfl, rfl, Step.refl _ _, rfl⟩
      intro oo hoo
      simp only [execOp, hoo, Act.eval, n1]
      go_simp
    | 15, _ =>
      have n46 : a.tmps.getD 46 undef = _ := hat 14 (lc (by kernel_rfl)) 46 rfl
      refine op_runs (d := some 47) ijrOp15 (wants_none a) (v := .slice (some ⟨w.heap.size, 0, none⟩) 1 1) (w' := (w.alloc (.cells #[.string (str piv)] 9))) ?_ ⟨47, _, rfl, rfl, (by first | exact (Step.refl _ _).alloc _ | exact Step.refl _ _), ⟨_, rfl, by rw [cell_of_block (block_alloc_new w _)]; rfl⟩⟩
      intro oo hoo
      simp only [execOp, hoo, Act.eval, List.map_toArray, List.map_cons, List.map_nil, n46]
      kernel_rfl
    | 16, _ =>
      refine op_runs (d := some 48) ijrOp16 (wants_none a) (v := .pointer (some ⟨p2, 0, none⟩)) (w' := w) ?_ ⟨48, _, rfl, rfl, Step.refl _ _, rfl⟩
      intro oo hoo
      simp only [execOp, hoo, Act.eval, n2]
      go_simp
    | 17, _ =>
      have n48 : a.tmps.getD 48 undef = _ := hat 16 (lc (by kernel_rfl)) 48 rfl
      refine op_runs (d := some 49) ijrOp17 (wants_none a) (v := .pointer (some ⟨p2, 0, none⟩)) (w' := w) ?_ ⟨49, _, rfl, rfl, Step.refl _ _, rfl⟩
      intro oo hoo
      simp only [execOp, hoo, Act.eval, n48]
      go_simp
    | 18, _ =>
      have n49 : a.tmps.getD 49 undef = _ := hat 17 (lc (by kernel_rfl)) 49 rfl
      refine op_runs (d := some 50) ijrOp18 (wants_none a) (v := .pointer (some ⟨p2, 1, none⟩)) (w' := w) ?_ ⟨50, _, rfl, rfl, Step.refl _ _, rfl⟩
      intro oo hoo
      simp only [execOp, hoo, Act.eval, n49]
      go_simp
    | 19, _ =>
      have n50 : a.tmps.getD 50 undef = _ := hat 18 (lc (by kernel_rfl)) 50 rfl
      refine op_runs (d := some 51) ijrOp19 (wants_none a) (v := .slice pa2 pn2 pc2) (w' := w) ?_ ⟨51, _, rfl, rfl, Step.refl _ _, rfl⟩
      intro oo hoo
      simp only [execOp, hoo, Act.eval, n50]
      go_simp
    | 20, _ =>
      have n45 : a.tmps.getD 45 undef = _ := hat 13 (lc (by kernel_rfl)) 45 rfl
      have hp47 : ijrSp p p2 q3 ka1 ka2 pa1 pa2 kn1 kn2 kc1 kc2 pn1 pn2 pc1 pc2 piv KS PS ms ER 15 w (a.tmps.getD 47 undef) := hat 15 (lc (by kernel_rfl)) 47 rfl
      have hq47 := hp47
      obtain ⟨g47, n47, u47⟩ := hq47
      have n51 : a.tmps.getD 51 undef = _ := hat 19 (lc (by kernel_rfl)) 51 rfl
      refine op_runs (d := some 52) ijrOp20 (wants_none a) (v := .slice (some ⟨w.heap.size, 0, none⟩) 3 3) (w' := (w.alloc (.cells #[.slice pa1 pn1 pc1, .slice (some ⟨g47, 0, none⟩) 1 1, .slice pa2 pn2 pc2] 24))) ?_ ⟨52, _, rfl, rfl, (by first | exact (Step.refl _ _).alloc _ | exact Step.refl _ _), ⟨_, g47, rfl, (three_slices w _ _ _ _).1, (three_slices w _ _ _ _).2.1, (three_slices w _ _ _ _).2.2, cell_alloc u47 _⟩⟩
      intro oo hoo
      simp only [execOp, hoo, Act.eval, List.map_toArray, List.map_cons, List.map_nil, n45, n47, n51]
      kernel_rfl
    | 21, _ =>
      have hp52 : ijrSp p p2 q3 ka1 ka2 pa1 pa2 kn1 kn2 kc1 kc2 pn1 pn2 pc1 pc2 piv KS PS ms ER 20 w (a.tmps.getD 52 undef) := hat 20 (lc (by kernel_rfl)) 52 rfl
      have hq52 := hp52
      obtain ⟨g52, g53, n52, u52, t52, s52, r52⟩ := hq52
      refine op_calls ijrOp21 (wants_none a) Tryz.func82 (by kernel_rfl) (by kernel_rfl) (args := #[.slice (some ⟨g52, 0, none⟩) 3 3]) (by simp [Act.eval, n52]) ((c53 g52 g53 w (Step.refl _ _) u52 t52 s52 r52).mono ?_)
      rintro e w' ⟨v, rfl, s', hv⟩
      exact ⟨_, rfl, 53, _, rfl, rfl, s', hv⟩
    | 22, _ =>
      refine op_runs (d := some 54) ijrOp22 (wants_none a) (v := .pointer (some ⟨q3, 0, none⟩)) (w' := w) ?_ ⟨54, _, rfl, rfl, Step.refl _ _, rfl⟩
      intro oo hoo
      simp only [execOp, hoo, Act.eval, n8]
      go_simp
    | 23, _ =>
      have hp41 : ijrSp p p2 q3 ka1 ka2 pa1 pa2 kn1 kn2 kc1 kc2 pn1 pn2 pc1 pc2 piv KS PS ms ER 9 w (a.tmps.getD 41 undef) := hat 9 (lc (by kernel_rfl)) 41 rfl
      have hq41 := hp41
      obtain ⟨a41, d41, n41, s41⟩ := hq41
      have hp53 : ijrSp p p2 q3 ka1 ka2 pa1 pa2 kn1 kn2 kc1 kc2 pn1 pn2 pc1 pc2 piv KS PS ms ER 21 w (a.tmps.getD 53 undef) := hat 21 (lc (by kernel_rfl)) 53 rfl
      have hq53 := hp53
      obtain ⟨a53, d53, n53, s53⟩ := hq53
      have n54 : a.tmps.getD 54 undef = _ := hat 22 (lc (by kernel_rfl)) 54 rfl
      refine op_calls ijrOp23 (wants_none a) Tryz.func80 (by kernel_rfl) (by kernel_rfl) (args := #[.slice a41 KS.length d41, .slice a53 PS.length d53, .pointer (some ⟨q3, 0, none⟩)]) (by simp [Act.eval, n41, n53, n54]) ((c55 _ _ w (Step.refl _ _) ⟨a41, d41, rfl, s41⟩ ⟨a53, d53, rfl, s53⟩).mono ?_)
      rintro e w' ⟨v, rfl, s', hv⟩
      exact ⟨_, rfl, 55, _, rfl, rfl, s', hv⟩
    | 24, _ =>
      have hp55 : ijrSp p p2 q3 ka1 ka2 pa1 pa2 kn1 kn2 kc1 kc2 pn1 pn2 pc1 pc2 piv KS PS ms ER 23 w (a.tmps.getD 55 undef) := hat 23 (lc (by kernel_rfl)) 55 rfl
      have hq55 := hp55
      obtain ⟨x55, n55, r55⟩ := hq55
      refine op_runs (d := some 56) ijrOp24 (wants_none a) (v := .pointer x55) (w' := w) ?_ ⟨56, _, rfl, rfl, (by first | exact (Step.refl _ _).alloc _ | exact Step.refl _ _), r55⟩
      intro oo hoo
      simp only [execOp, hoo, Act.eval, List.map_toArray, List.map_cons, List.map_nil, n55]
      go_simp
    | 25, _ =>
      have hp55 : ijrSp p p2 q3 ka1 ka2 pa1 pa2 kn1 kn2 kc1 kc2 pn1 pn2 pc1 pc2 piv KS PS ms ER 23 w (a.tmps.getD 55 undef) := hat 23 (lc (by kernel_rfl)) 55 rfl
      have hq55 := hp55
      obtain ⟨x55, n55, r55⟩ := hq55
      refine op_runs (d := some 57) ijrOp25 (wants_none a) (v := .int .i64 ER) (w' := w) ?_ ⟨57, _, rfl, rfl, Step.refl _ _, rfl⟩
      intro oo hoo
      simp only [execOp, hoo, Act.eval, n55]
      go_simp
    | 26, _ =>
      have hp56 : ijrSp p p2 q3 ka1 ka2 pa1 pa2 kn1 kn2 kc1 kc2 pn1 pn2 pc1 pc2 piv KS PS ms ER 24 w (a.tmps.getD 56 undef) := hat 24 (lc (by kernel_rfl)) 56 rfl
      have hq56 := hp56
      obtain ⟨x56, n56, r56⟩ := hq56
      refine op_runs (d := some 6) ijrOp26 (wants_none a) (v := a.tmps.getD 56 undef) (w' := w) ?_ ⟨6, _, rfl, rfl, Step.refl _ _, hp56⟩
      intro oo hoo
      simp only [execOp, hoo, Act.eval]
      go_simp
    | 27, _ =>
      have n57 : a.tmps.getD 57 undef = _ := hat 25 (lc (by kernel_rfl)) 57 rfl
      refine op_runs (d := some 7) ijrOp27 (wants_none a) (v := .int .i64 ER) (w' := w) ?_ ⟨7, _, rfl, rfl, Step.refl _ _, rfl⟩
      intro oo hoo
      simp only [execOp, hoo, Act.eval, n57]
      go_simp
    | k + 28, h => exact absurd h (by omega)
  · intro a w hs hdf hs2 hfr hat
    rw [ijr_size] at hat
    have e := act_vals (a := a) (a0 := a0) ijrDs (by decide) (fun d hd => by rw [hsz]; exact ijr_lt d (by revert hd; revert d; decide)) hdf hs2 (fun k hk => hfr k (fun hk2 => hk (by revert hk2; simp [ijrDl, ijrDs])))
    rw [e]
    exact hend (fun d => a.tmps.getD d undef) w hs (hat 26 (by omega) 6 rfl) (hat 27 (by omega) 7 rfl)
set_option maxRecDepth 100000 in
theorem ijr_lit (f : Nat → Value) (D : List Deferred) (x0 x1 x2 x3 x4 x5 x6 x7 x8 x9 x10 x11 x12 x13 x14 x15 x16 x17 x18 x19 x20 x21 x22 x23 x24 x25 x26 x27 x28 x29 x30 x31 x32 x33 x34 x35 x36 x37 x38 x39 x40 x41 x42 x43 x44 x45 x46 x47 x48 x49 x50 x51 x52 x53 x54 x55 x56 x57 : Value) : putAll { tmps := #[x0, x1, x2, x3, x4, x5, x6, x7, x8, x9, x10, x11, x12, x13, x14, x15, x16, x17, x18, x19, x20, x21, x22, x23, x24, x25, x26, x27, x28, x29, x30, x31, x32, x33, x34, x35, x36, x37, x38, x39, x40, x41, x42, x43, x44, x45, x46, x47, x48, x49, x50, x51, x52, x53, x54, x55, x56, x57], defers := D } (ijrDs.map some) (ijrDs.map f) = { tmps := #[x0, x1, x2, x3, x4, x5, f 6, f 7, x8, x9, x10, x11, x12, x13, x14, x15, x16, x17, x18, x19, x20, x21, x22, x23, x24, x25, x26, x27, x28, x29, x30, x31, f 32, f 33, f 34, f 35, f 36, f 37, f 38, f 39, f 40, f 41, f 42, f 43, f 44, f 45, f 46, f 47, f 48, f 49, f 50, f 51, f 52, f 53, f 54, f 55, f 56, f 57], defers := D } := by kernel_rfl
end Go.Proofs.YtoobelcphcndoaaGreat
namespace Go.Proofs.YtoobelcphcndoaaGreat
open Go.RowKit
set_option linter.unusedVariables false
set_option linter.unusedSimpArgs false


def ijwDs : List Nat := [17, 18, 19, 20, 21, 22, 23, 24, 25, 26, 16, 27, 28, 8, 9]
def ijwDl : List (Option Nat) := [some 17, some 18, some 19, some 20, some 21, some 22, some 23, some 24, some 25, some 26, some 16, some 27, some 28, some 8, some 9]
theorem ijw_dl : ((Tryz.f33.body.bind (regionOps 3)).getD #[]).toList.map (·.dst) = ijwDl := by kernel_rfl
theorem ijw_back : backB ((Tryz.f33.body.bind (regionOps 3)).getD #[]) = true := by kernel_rfl
theorem ijw_size : ((Tryz.f33.body.bind (regionOps 3)).getD #[]).size = 15 := by kernel_rfl
theorem ijw_nd : ijwDl.Pairwise (fun x y => x = none ∨ x ≠ y) := by decide
theorem ijw_lt (d : Nat) (h : some d ∈ ijwDl) : d < 58 := by
  have hh : ijwDl.all (fun o => o.all (fun d => decide (d < 58))) = true := by decide
  simpa using List.all_eq_true.1 hh _ h
theorem ijwOp0 : opIs ((Tryz.f33.body.bind (regionOps 3)).getD #[]) 0 (some 17) (Op.move (Operand.tmp 0)) (none) := opIs_of (by kernel_rfl)
theorem ijwOp1 : opIs ((Tryz.f33.body.bind (regionOps 3)).getD #[]) 1 (some 18) (Op.nilCheck (Operand.tmp 17)) (none) := opIs_of (by kernel_rfl)
theorem ijwOp2 : opIs ((Tryz.f33.body.bind (regionOps 3)).getD #[]) 2 (some 19) (Op.fieldAddr 132 (Operand.tmp 18) 2) (none) := opIs_of (by kernel_rfl)
theorem ijwOp3 : opIs ((Tryz.f33.body.bind (regionOps 3)).getD #[]) 3 (some 20) (Op.load 64 (Operand.tmp 19)) (none) := opIs_of (by kernel_rfl)
theorem ijwOp4 : opIs ((Tryz.f33.body.bind (regionOps 3)).getD #[]) 4 (some 21) (Op.move (Operand.tmp 2)) (none) := opIs_of (by kernel_rfl)
theorem ijwOp5 : opIs ((Tryz.f33.body.bind (regionOps 3)).getD #[]) 5 (some 22) (Op.nilCheck (Operand.tmp 21)) (none) := opIs_of (by kernel_rfl)
theorem ijwOp6 : opIs ((Tryz.f33.body.bind (regionOps 3)).getD #[]) 6 (some 23) (Op.fieldAddr 132 (Operand.tmp 22) 2) (none) := opIs_of (by kernel_rfl)
theorem ijwOp7 : opIs ((Tryz.f33.body.bind (regionOps 3)).getD #[]) 7 (some 24) (Op.load 64 (Operand.tmp 23)) (none) := opIs_of (by kernel_rfl)
theorem ijwOp8 : opIs ((Tryz.f33.body.bind (regionOps 3)).getD #[]) 8 (some 25) (Op.call { callee := Callee.value (Operand.func 62), args := #[Operand.tmp 24], argTypes := #[64] }) (none) := opIs_of (by kernel_rfl)
theorem ijwOp9 : opIs ((Tryz.f33.body.bind (regionOps 3)).getD #[]) 9 (some 26) (Op.call { callee := Callee.value (Operand.func 79), args := #[Operand.tmp 20, Operand.tmp 25], argTypes := #[64, 25] }) (none) := opIs_of (by kernel_rfl)
theorem ijwOp10 : opIs ((Tryz.f33.body.bind (regionOps 3)).getD #[]) 10 (some 16) (Op.move (Operand.tmp 26)) (none) := opIs_of (by kernel_rfl)
theorem ijwOp11 : opIs ((Tryz.f33.body.bind (regionOps 3)).getD #[]) 11 (some 27) (Op.extract (Operand.tmp 16) 0) (none) := opIs_of (by kernel_rfl)
theorem ijwOp12 : opIs ((Tryz.f33.body.bind (regionOps 3)).getD #[]) 12 (some 28) (Op.extract (Operand.tmp 16) 1) (none) := opIs_of (by kernel_rfl)
theorem ijwOp13 : opIs ((Tryz.f33.body.bind (regionOps 3)).getD #[]) 13 (some 8) (Op.assign (Operand.tmp 27)) (none) := opIs_of (by kernel_rfl)
theorem ijwOp14 : opIs ((Tryz.f33.body.bind (regionOps 3)).getD #[]) 14 (some 9) (Op.assign (Operand.tmp 28)) (none) := opIs_of (by kernel_rfl)
/-- What is said of each slot. -/
def ijwSp (p p2 q q2 : Nat) (ms2 ms : List Mg) (i : Nat) (w : World) (v : Value) : Prop := match i with
  | 0 => v = .pointer (some ⟨p, 0, none⟩)
  | 1 => v = .pointer (some ⟨p, 0, none⟩)
  | 2 => v = .pointer (some ⟨p, 2, none⟩)
  | 3 => v = .pointer (some ⟨q, 0, none⟩)
  | 4 => v = .pointer (some ⟨p2, 0, none⟩)
  | 5 => v = .pointer (some ⟨p2, 0, none⟩)
  | 6 => v = .pointer (some ⟨p2, 2, none⟩)
  | 7 => v = .pointer (some ⟨q2, 0, none⟩)
  | 8 => ∃ a c, v = .slice a ms2.length c ∧ (a = none → c = 0) ∧ MsgsAt w noF a ms2
  | 9 => ∃ b, v = .tuple #[.pointer (some ⟨b, 0, none⟩), .int .i64 0] ∧ BuffAt w b ms
  | 10 => ∃ b, v = .tuple #[.pointer (some ⟨b, 0, none⟩), .int .i64 0] ∧ BuffAt w b ms
  | 11 => ∃ b, v = .pointer (some ⟨b, 0, none⟩) ∧ BuffAt w b ms
  | 12 => v = .int .i64 0
  | 13 => ∃ b, v = .pointer (some ⟨b, 0, none⟩) ∧ BuffAt w b ms
  | 14 => v = .int .i64 0
  | _ => True
theorem ijwKeep25 (p p2 q q2 : Nat) (ms2 ms : List Mg) {w w' : World} {v : Value} (hs : Step noF w w') (h : ∃ a c, v = .slice a ms2.length c ∧ (a = none → c = 0) ∧ MsgsAt w noF a ms2) : ∃ a c, v = .slice a ms2.length c ∧ (a = none → c = 0) ∧ MsgsAt w' noF a ms2 := by
  obtain ⟨a, c, h1, h2, h3⟩ := h; exact ⟨a, c, h1, h2, h3.stepB hs⟩
theorem ijwKeep26 (p p2 q q2 : Nat) (ms2 ms : List Mg) {w w' : World} {v : Value} (hs : Step noF w w') (h : ∃ b, v = .tuple #[.pointer (some ⟨b, 0, none⟩), .int .i64 0] ∧ BuffAt w b ms) : ∃ b, v = .tuple #[.pointer (some ⟨b, 0, none⟩), .int .i64 0] ∧ BuffAt w' b ms := by
  obtain ⟨b, h1, h2⟩ := h; exact ⟨b, h1, h2.step hs⟩
theorem ijwKeep27 (p p2 q q2 : Nat) (ms2 ms : List Mg) {w w' : World} {v : Value} (hs : Step noF w w') (h : ∃ b, v = .pointer (some ⟨b, 0, none⟩) ∧ BuffAt w b ms) : ∃ b, v = .pointer (some ⟨b, 0, none⟩) ∧ BuffAt w' b ms := by
  obtain ⟨b, h1, h2⟩ := h; exact ⟨b, h1, h2.step hs⟩
theorem ijwKeep16 (p p2 q q2 : Nat) (ms2 ms : List Mg) {w w' : World} {v : Value} (hs : Step noF w w') (h : ∃ b, v = .tuple #[.pointer (some ⟨b, 0, none⟩), .int .i64 0] ∧ BuffAt w b ms) : ∃ b, v = .tuple #[.pointer (some ⟨b, 0, none⟩), .int .i64 0] ∧ BuffAt w' b ms := by
  obtain ⟨b, h1, h2⟩ := h; exact ⟨b, h1, h2.step hs⟩
theorem ijwKeep8 (p p2 q q2 : Nat) (ms2 ms : List Mg) {w w' : World} {v : Value} (hs : Step noF w w') (h : ∃ b, v = .pointer (some ⟨b, 0, none⟩) ∧ BuffAt w b ms) : ∃ b, v = .pointer (some ⟨b, 0, none⟩) ∧ BuffAt w' b ms := by
  obtain ⟨b, h1, h2⟩ := h; exact ⟨b, h1, h2.step hs⟩
theorem ijwSp_mono (p p2 q q2 : Nat) (ms2 ms : List Mg) : ∀ i w w' v, Step noF w w' → ijwSp p p2 q q2 ms2 ms i w v → ijwSp p p2 q q2 ms2 ms i w' v := by
  intro i w w' v hs h
  match i with
  | 0 => exact h
  | 1 => exact h
  | 2 => exact h
  | 3 => exact h
  | 4 => exact h
  | 5 => exact h
  | 6 => exact h
  | 7 => exact h
  | 8 => exact ijwKeep25 p p2 q q2 ms2 ms hs h
  | 9 => exact ijwKeep26 p p2 q q2 ms2 ms hs h
  | 10 => exact ijwKeep16 p p2 q q2 ms2 ms hs h
  | 11 => exact ijwKeep27 p p2 q q2 ms2 ms hs h
  | 12 => exact h
  | 13 => exact ijwKeep8 p p2 q q2 ms2 ms hs h
  | 14 => exact h
  | k + 15 => exact h

set_option maxHeartbeats 4000000 in
set_option maxRecDepth 100000 in
theorem ijw_go (p p2 q q2 : Nat) (ms2 ms : List Mg) (w0 : World) (b10 : w0.cell? ⟨p, 2, none⟩ = some (.pointer (some ⟨q, 0, none⟩))) (b20 : w0.cell? ⟨p2, 2, none⟩ = some (.pointer (some ⟨q2, 0, none⟩))) (c250 : ∀ w0', Step noF w0 w0' → Calls Tryz.prog 62 #[.pointer (some ⟨q2, 0, none⟩)] w0' fun e w0'' => ∃ v, e = .returned v ∧ Step noF w0' w0'' ∧ ∃ a c, v = .slice a ms2.length c ∧ (a = none → c = 0) ∧ MsgsAt w0'' noF a ms2) (c260 : ∀ a c w0', Step noF w0 w0' → (a = none → c = 0) → MsgsAt w0' noF a ms2 → Calls Tryz.prog 79 #[.pointer (some ⟨q, 0, none⟩), .slice a ms2.length c] w0' fun e w0'' => ∃ v, e = .returned v ∧ Step noF w0' w0'' ∧ ∃ b, v = .tuple #[.pointer (some ⟨b, 0, none⟩), .int .i64 0] ∧ BuffAt w0'' b ms)
    {Q : Exit → Act → World → Prop} (a0 : Act) (hsz : a0.tmps.size = 58) (h0 : a0.tmps.getD 0 undef = .pointer (some ⟨p, 0, none⟩)) (h2 : a0.tmps.getD 2 undef = .pointer (some ⟨p2, 0, none⟩))
    (hend : ∀ (f : Nat → Value) (w : World), Step noF w0 w → ijwSp p p2 q q2 ms2 ms 13 w (f 8) → ijwSp p p2 q q2 ms2 ms 14 w (f 9) → Q .normal (putAll a0 (ijwDs.map some) (ijwDs.map f)) w) :
    (Code.region 3 ((Tryz.f33.body.bind (regionOps 3)).getD #[]) true).wp Tryz.prog Q a0 w0 := by
  refine wp_region_preds (ijwSp p p2 q q2 ms2 ms) (ijwSp_mono p p2 q q2 ms2 ms) ijwDl (by kernel_rfl) ijw_back ijw_dl ijw_nd (fun d h => by rw [hsz]; exact ijw_lt d h) ?_ ?_
  · intro i hi a w hs hfr hat
    rw [ijw_size] at hi
    have n0 := (hfr 0 (by decide)).trans h0
    have n2 := (hfr 2 (by decide)).trans h2
    have b1 : w.cell? ⟨p, 2, none⟩ = some (.pointer (some ⟨q, 0, none⟩)) := hs.after b10
    have b2 : w.cell? ⟨p2, 2, none⟩ = some (.pointer (some ⟨q2, 0, none⟩)) := hs.after b20
    have c25 : ∀ w', Step noF w w' → Calls Tryz.prog 62 #[.pointer (some ⟨q2, 0, none⟩)] w' fun e w'' => ∃ v, e = .returned v ∧ Step noF w' w'' ∧ ∃ a c, v = .slice a ms2.length c ∧ (a = none → c = 0) ∧ MsgsAt w'' noF a ms2 := fun w' s' => c250 w' (hs.trans s')
    have c26 : ∀ a c w', Step noF w w' → (a = none → c = 0) → MsgsAt w' noF a ms2 → Calls Tryz.prog 79 #[.pointer (some ⟨q, 0, none⟩), .slice a ms2.length c] w' fun e w'' => ∃ v, e = .returned v ∧ Step noF w' w'' ∧ ∃ b, v = .tuple #[.pointer (some ⟨b, 0, none⟩), .int .i64 0] ∧ BuffAt w'' b ms := fun a c w' s' => c260 a c w' (hs.trans s')
    match i, hi with
    | 0, _ =>
      refine op_runs (d := some 17) ijwOp0 (wants_none a) (v := .pointer (some ⟨p, 0, none⟩)) (w' := w) ?_ ⟨17, _, rfl, rfl, Step.refl _ _, rfl⟩
      intro oo hoo
      simp only [execOp, hoo, Act.eval, n0]
      go_simp
    | 1, _ =>
      have n17 : a.tmps.getD 17 undef = _ := hat 0 (lc (by kernel_rfl)) 17 rfl
      refine op_runs (d := some 18) ijwOp1 (wants_none a) (v := .pointer (some ⟨p, 0, none⟩)) (w' := w) ?_ ⟨18, _, rfl, rfl, Step.refl _ _, rfl⟩
      intro oo hoo
      simp only [execOp, hoo, Act.eval, n17]
      go_simp
    | 2, _ =>
      have n18 : a.tmps.getD 18 undef = _ := hat 1 (lc (by kernel_rfl)) 18 rfl
      refine op_runs (d := some 19) ijwOp2 (wants_none a) (v := .pointer (some ⟨p, 2, none⟩)) (w' := w) ?_ ⟨19, _, rfl, rfl, Step.refl _ _, rfl⟩
      intro oo hoo
      simp only [execOp, hoo, Act.eval, n18]
      go_simp
    | 3, _ =>
      have n19 : a.tmps.getD 19 undef = _ := hat 2 (lc (by kernel_rfl)) 19 rfl
      refine op_runs (d := some 20) ijwOp3 (wants_none a) (v := .pointer (some ⟨q, 0, none⟩)) (w' := w) ?_ ⟨20, _, rfl, rfl, Step.refl _ _, rfl⟩
      intro oo hoo
      simp only [execOp, hoo, Act.eval, n19]
      go_simp
    | 4, _ =>
      refine op_runs (d := some 21) ijwOp4 (wants_none a) (v := .pointer (some ⟨p2, 0, none⟩)) (w' := w) ?_ ⟨21, _, rfl, rfl, Step.refl _ _, rfl⟩
      intro oo hoo
      simp only [execOp, hoo, Act.eval, n2]
      go_simp
    | 5, _ =>
      have n21 : a.tmps.getD 21 undef = _ := hat 4 (lc (by kernel_rfl)) 21 rfl
      refine op_runs (d := some 22) ijwOp5 (wants_none a) (v := .pointer (some ⟨p2, 0, none⟩)) (w' := w) ?_ ⟨22, _, rfl, rfl, Step.refl _ _, rfl⟩
      intro oo hoo
      simp only [execOp, hoo, Act.eval, n21]
      go_simp
    | 6, _ =>
      have n22 : a.tmps.getD 22 undef = _ := hat 5 (lc (by kernel_rfl)) 22 rfl
      refine op_runs (d := some 23) ijwOp6 (wants_none a) (v := .pointer (some ⟨p2, 2, none⟩)) (w' := w) ?_ ⟨23, _, rfl, rfl, Step.refl _ _, rfl⟩
      intro oo hoo
      simp only [execOp, hoo, Act.eval, n22]
      go_simp
    | 7, _ =>
      have n23 : a.tmps.getD 23 undef = _ := hat 6 (lc (by kernel_rfl)) 23 rfl
      refine op_runs (d := some 24) ijwOp7 (wants_none a) (v := .pointer (some ⟨q2, 0, none⟩)) (w' := w) ?_ ⟨24, _, rfl, rfl, Step.refl _ _, rfl⟩
      intro oo hoo
      simp only [execOp, hoo, Act.eval, n23]
      go_simp
    | 8, _ =>
      have n24 : a.tmps.getD 24 undef = _ := hat 7 (lc (by kernel_rfl)) 24 rfl
      refine op_calls ijwOp8 (wants_none a) Tryz.func62 (by kernel_rfl) (by kernel_rfl) (args := #[.pointer (some ⟨q2, 0, none⟩)]) (by simp [Act.eval, n24]) ((c25 w (Step.refl _ _)).mono ?_)
      rintro e w' ⟨v, rfl, s', hv⟩
      exact ⟨_, rfl, 25, _, rfl, rfl, s', hv⟩
    | 9, _ =>
      have n20 : a.tmps.getD 20 undef = _ := hat 3 (lc (by kernel_rfl)) 20 rfl
      have hp25 : ijwSp p p2 q q2 ms2 ms 8 w (a.tmps.getD 25 undef) := hat 8 (lc (by kernel_rfl)) 25 rfl
      have hq25 := hp25
      obtain ⟨a25, d25, n25, u25, s25⟩ := hq25
      refine op_calls ijwOp9 (wants_none a) Tryz.func79 (by kernel_rfl) (by kernel_rfl) (args := #[.pointer (some ⟨q, 0, none⟩), .slice a25 ms2.length d25]) (by simp [Act.eval, n20, n25]) ((c26 _ _ w (Step.refl _ _) u25 s25).mono ?_)
      rintro e w' ⟨v, rfl, s', hv⟩
      exact ⟨_, rfl, 26, _, rfl, rfl, s', hv⟩
    | 10, _ =>
      have hp26 : ijwSp p p2 q q2 ms2 ms 9 w (a.tmps.getD 26 undef) := hat 9 (lc (by kernel_rfl)) 26 rfl
      have hq26 := hp26
      obtain ⟨b26, n26, s26⟩ := hq26
      refine op_runs (d := some 16) ijwOp10 (wants_none a) (v := a.tmps.getD 26 undef) (w' := w) ?_ ⟨16, _, rfl, rfl, Step.refl _ _, hp26⟩
      intro oo hoo
      simp only [execOp, hoo, Act.eval]
      go_simp
    | 11, _ =>
      have hp16 : ijwSp p p2 q q2 ms2 ms 10 w (a.tmps.getD 16 undef) := hat 10 (lc (by kernel_rfl)) 16 rfl
      have hq16 := hp16
      obtain ⟨b16, n16, s16⟩ := hq16
      refine op_runs (d := some 27) ijwOp11 (wants_none a) (v := .pointer (some ⟨b16, 0, none⟩)) (w' := w) ?_ ⟨27, _, rfl, rfl, (by first | exact (Step.refl _ _).alloc _ | exact Step.refl _ _), ⟨_, rfl, s16⟩⟩
      intro oo hoo
      simp only [execOp, hoo, Act.eval, List.map_toArray, List.map_cons, List.map_nil, n16]
      go_simp
    | 12, _ =>
      have hp16 : ijwSp p p2 q q2 ms2 ms 10 w (a.tmps.getD 16 undef) := hat 10 (lc (by kernel_rfl)) 16 rfl
      have hq16 := hp16
      obtain ⟨b16, n16, s16⟩ := hq16
      refine op_runs (d := some 28) ijwOp12 (wants_none a) (v := .int .i64 0) (w' := w) ?_ ⟨28, _, rfl, rfl, Step.refl _ _, rfl⟩
      intro oo hoo
      simp only [execOp, hoo, Act.eval, n16]
      go_simp
    | 13, _ =>
      have hp27 : ijwSp p p2 q q2 ms2 ms 11 w (a.tmps.getD 27 undef) := hat 11 (lc (by kernel_rfl)) 27 rfl
      have hq27 := hp27
      obtain ⟨b27, n27, s27⟩ := hq27
      refine op_runs (d := some 8) ijwOp13 (wants_none a) (v := a.tmps.getD 27 undef) (w' := w) ?_ ⟨8, _, rfl, rfl, Step.refl _ _, hp27⟩
      intro oo hoo
      simp only [execOp, hoo, Act.eval]
      go_simp
    | 14, _ =>
      have n28 : a.tmps.getD 28 undef = _ := hat 12 (lc (by kernel_rfl)) 28 rfl
      refine op_runs (d := some 9) ijwOp14 (wants_none a) (v := .int .i64 0) (w' := w) ?_ ⟨9, _, rfl, rfl, Step.refl _ _, rfl⟩
      intro oo hoo
      simp only [execOp, hoo, Act.eval, n28]
      go_simp
    | k + 15, h => exact absurd h (by omega)
  · intro a w hs hdf hs2 hfr hat
    rw [ijw_size] at hat
    have e := act_vals (a := a) (a0 := a0) ijwDs (by decide) (fun d hd => by rw [hsz]; exact ijw_lt d (by revert hd; revert d; decide)) hdf hs2 (fun k hk => hfr k (fun hk2 => hk (by revert hk2; simp [ijwDl, ijwDs])))
    rw [e]
    exact hend (fun d => a.tmps.getD d undef) w hs (hat 13 (by omega) 8 rfl) (hat 14 (by omega) 9 rfl)
set_option maxRecDepth 100000 in
theorem ijw_lit (f : Nat → Value) (D : List Deferred) (x0 x1 x2 x3 x4 x5 x6 x7 x8 x9 x10 x11 x12 x13 x14 x15 x16 x17 x18 x19 x20 x21 x22 x23 x24 x25 x26 x27 x28 x29 x30 x31 x32 x33 x34 x35 x36 x37 x38 x39 x40 x41 x42 x43 x44 x45 x46 x47 x48 x49 x50 x51 x52 x53 x54 x55 x56 x57 : Value) : putAll { tmps := #[x0, x1, x2, x3, x4, x5, x6, x7, x8, x9, x10, x11, x12, x13, x14, x15, x16, x17, x18, x19, x20, x21, x22, x23, x24, x25, x26, x27, x28, x29, x30, x31, x32, x33, x34, x35, x36, x37, x38, x39, x40, x41, x42, x43, x44, x45, x46, x47, x48, x49, x50, x51, x52, x53, x54, x55, x56, x57], defers := D } (ijwDs.map some) (ijwDs.map f) = { tmps := #[x0, x1, x2, x3, x4, x5, x6, x7, f 8, f 9, x10, x11, x12, x13, x14, x15, f 16, f 17, f 18, f 19, f 20, f 21, f 22, f 23, f 24, f 25, f 26, f 27, f 28, x29, x30, x31, x32, x33, x34, x35, x36, x37, x38, x39, x40, x41, x42, x43, x44, x45, x46, x47, x48, x49, x50, x51, x52, x53, x54, x55, x56, x57], defers := D } := by kernel_rfl
end Go.Proofs.YtoobelcphcndoaaGreat
namespace Go.Proofs.YtoobelcphcndoaaGreat
open Go.RowKit
set_option linter.unusedVariables false
set_option linter.unusedSimpArgs false

/-- Nodes, by their pointers. -/
def NdsV (w : World) (n : Nat) (ds : List Nd) (v : Value) : Prop := ∃ (g : Nat) (qs : List Nat), v = .slice (some ⟨g, 0, none⟩) n n ∧ qs.length = n ∧ RowAt w noF (some ⟨g, 0, none⟩) (qs.map fun q => .pointer (some ⟨q, 0, none⟩)) ∧ ∀ t (h1 : t < qs.length) (h2 : t < ds.length), InnerAt w qs[t] ds[t]
theorem NdsV.step {w w' : World} {n : Nat} {ds : List Nd} {v : Value} (h : NdsV w n ds v) (hs : Step noF w w') : NdsV w' n ds v := by
  obtain ⟨g, qs, h1, h2, h3, h4⟩ := h
  exact ⟨g, qs, h1, h2, rowAt_step h3 hs (fun _ _ h => h), fun t a b => (h4 t a b).step hs⟩
def TxV (w : World) (n : Nat) (ps : List (List UInt8)) (v : Value) : Prop := ∃ (a : Option Addr) (c : Nat), v = .slice a n c ∧ RowAt w noF a (texts ps)
theorem TxV.step {w w' : World} {n : Nat} {ps : List (List UInt8)} {v : Value} (h : TxV w n ps v) (hs : Step noF w w') : TxV w' n ps v := by
  obtain ⟨a, c, h1, h2⟩ := h
  exact ⟨a, c, h1, rowAt_step h2 hs (fun _ _ h => h)⟩

def ipsDs : List Nat := [15, 16, 17, 18, 19, 20, 21, 22, 23, 2, 3]
def ipsDl : List (Option Nat) := [some 15, some 16, some 17, some 18, some 19, some 20, some 21, some 22, some 23, some 2, some 3]
theorem ips_dl : ((Tryz.f30.body.bind (regionOps 6)).getD #[]).toList.map (·.dst) = ipsDl := by kernel_rfl
theorem ips_back : backB ((Tryz.f30.body.bind (regionOps 6)).getD #[]) = true := by kernel_rfl
theorem ips_size : ((Tryz.f30.body.bind (regionOps 6)).getD #[]).size = 11 := by kernel_rfl
theorem ips_nd : ipsDl.Pairwise (fun x y => x = none ∨ x ≠ y) := by decide
theorem ips_lt (d : Nat) (h : some d ∈ ipsDl) : d < 24 := by
  have hh : ipsDl.all (fun o => o.all (fun d => decide (d < 24))) = true := by decide
  simpa using List.all_eq_true.1 hh _ h
theorem ipsOp0 : opIs ((Tryz.f30.body.bind (regionOps 6)).getD #[]) 0 (some 15) (Op.move (Operand.tmp 4)) (none) := opIs_of (by kernel_rfl)
theorem ipsOp1 : opIs ((Tryz.f30.body.bind (regionOps 6)).getD #[]) 1 (some 16) (Op.move (Operand.tmp 0)) (none) := opIs_of (by kernel_rfl)
theorem ipsOp2 : opIs ((Tryz.f30.body.bind (regionOps 6)).getD #[]) 2 (some 17) (Op.makeFunc (Fn.func 75) #[Operand.tmp 16] #[]) (none) := opIs_of (by kernel_rfl)
theorem ipsOp3 : opIs ((Tryz.f30.body.bind (regionOps 6)).getD #[]) 3 (some 18) (Op.call { callee := Callee.value (Operand.func 74), args := #[Operand.tmp 15, Operand.tmp 17], argTypes := #[123, 128] }) (none) := opIs_of (by kernel_rfl)
theorem ipsOp4 : opIs ((Tryz.f30.body.bind (regionOps 6)).getD #[]) 4 (some 19) (Op.move (Operand.tmp 4)) (none) := opIs_of (by kernel_rfl)
theorem ipsOp5 : opIs ((Tryz.f30.body.bind (regionOps 6)).getD #[]) 5 (some 20) (Op.slice 123 (Operand.tmp 19) (some (Operand.const (Value.int IntKind.i64 1))) none none) (none) := opIs_of (by kernel_rfl)
theorem ipsOp6 : opIs ((Tryz.f30.body.bind (regionOps 6)).getD #[]) 6 (some 21) (Op.move (Operand.tmp 0)) (none) := opIs_of (by kernel_rfl)
theorem ipsOp7 : opIs ((Tryz.f30.body.bind (regionOps 6)).getD #[]) 7 (some 22) (Op.makeFunc (Fn.func 77) #[Operand.tmp 21] #[]) (none) := opIs_of (by kernel_rfl)
theorem ipsOp8 : opIs ((Tryz.f30.body.bind (regionOps 6)).getD #[]) 8 (some 23) (Op.call { callee := Callee.value (Operand.func 76), args := #[Operand.tmp 20, Operand.tmp 22], argTypes := #[123, 130] }) (none) := opIs_of (by kernel_rfl)
theorem ipsOp9 : opIs ((Tryz.f30.body.bind (regionOps 6)).getD #[]) 9 (some 2) (Op.assign (Operand.tmp 18)) (none) := opIs_of (by kernel_rfl)
theorem ipsOp10 : opIs ((Tryz.f30.body.bind (regionOps 6)).getD #[]) 10 (some 3) (Op.assign (Operand.tmp 23)) (none) := opIs_of (by kernel_rfl)
/-- What is said of each slot. -/
def ipsSp (p g c : Nat) (d : Nd) (xs ys : List (Int × Int)) (FN : Int × Int → Nd) (PS : List (List UInt8)) (i : Nat) (w : World) (v : Value) : Prop := match i with
  | 0 => v = .slice (some ⟨g, 0, none⟩) c c
  | 1 => v = .pointer (some ⟨p, 0, none⟩)
  | 2 => v = .func (.func 75) #[.pointer (some ⟨p, 0, none⟩)] #[]
  | 3 => NdsV w c (xs.map FN) v
  | 4 => v = .slice (some ⟨g, 0, none⟩) c c
  | 5 => v = .slice (some ⟨g, 2, none⟩) (c - 1) (c - 1)
  | 6 => v = .pointer (some ⟨p, 0, none⟩)
  | 7 => v = .func (.func 77) #[.pointer (some ⟨p, 0, none⟩)] #[]
  | 8 => TxV w (c - 1) PS v
  | 9 => NdsV w c (xs.map FN) v
  | 10 => TxV w (c - 1) PS v
  | _ => True
theorem ipsKeep18 (p g c : Nat) (d : Nd) (xs ys : List (Int × Int)) (FN : Int × Int → Nd) (PS : List (List UInt8)) {w w' : World} {v : Value} (hs : Step noF w w') (h : NdsV w c (xs.map FN) v) : NdsV w' c (xs.map FN) v := by
  exact h.step hs
theorem ipsKeep23 (p g c : Nat) (d : Nd) (xs ys : List (Int × Int)) (FN : Int × Int → Nd) (PS : List (List UInt8)) {w w' : World} {v : Value} (hs : Step noF w w') (h : TxV w (c - 1) PS v) : TxV w' (c - 1) PS v := by
  exact h.step hs
theorem ipsKeep2 (p g c : Nat) (d : Nd) (xs ys : List (Int × Int)) (FN : Int × Int → Nd) (PS : List (List UInt8)) {w w' : World} {v : Value} (hs : Step noF w w') (h : NdsV w c (xs.map FN) v) : NdsV w' c (xs.map FN) v := by
  exact h.step hs
theorem ipsKeep3 (p g c : Nat) (d : Nd) (xs ys : List (Int × Int)) (FN : Int × Int → Nd) (PS : List (List UInt8)) {w w' : World} {v : Value} (hs : Step noF w w') (h : TxV w (c - 1) PS v) : TxV w' (c - 1) PS v := by
  exact h.step hs
theorem ipsSp_mono (p g c : Nat) (d : Nd) (xs ys : List (Int × Int)) (FN : Int × Int → Nd) (PS : List (List UInt8)) : ∀ i w w' v, Step noF w w' → ipsSp p g c d xs ys FN PS i w v → ipsSp p g c d xs ys FN PS i w' v := by
  intro i w w' v hs h
  match i with
  | 0 => exact h
  | 1 => exact h
  | 2 => exact h
  | 3 => exact ipsKeep18 p g c d xs ys FN PS hs h
  | 4 => exact h
  | 5 => exact h
  | 6 => exact h
  | 7 => exact h
  | 8 => exact ipsKeep23 p g c d xs ys FN PS hs h
  | 9 => exact ipsKeep2 p g c d xs ys FN PS hs h
  | 10 => exact ipsKeep3 p g c d xs ys FN PS hs h
  | k + 11 => exact h

set_option maxHeartbeats 4000000 in
set_option maxRecDepth 100000 in
theorem ips_go (p g c : Nat) (d : Nd) (xs ys : List (Int × Int)) (FN : Int × Int → Nd) (PS : List (List UInt8)) (w0 : World) (nc0 : ¬ c = 1) (hc10 : (1 : Int) ≤ (c : Int)) (ec0 : (c : Int) - 1 = ((c - 1 : Nat) : Int)) (c180 : ∀ w0', Step noF w0 w0' → Calls Tryz.prog 74 #[.slice (some ⟨g, 0, none⟩) c c, .func (.func 75) #[.pointer (some ⟨p, 0, none⟩)] #[]] w0' fun e w0'' => ∃ v, e = .returned v ∧ Step noF w0' w0'' ∧ NdsV w0'' c (xs.map FN) v) (c230 : ∀ w0', Step noF w0 w0' → Calls Tryz.prog 76 #[.slice (some ⟨g, 2, none⟩) (c - 1) (c - 1), .func (.func 77) #[.pointer (some ⟨p, 0, none⟩)] #[]] w0' fun e w0'' => ∃ v, e = .returned v ∧ Step noF w0' w0'' ∧ TxV w0'' (c - 1) PS v)
    {Q : Exit → Act → World → Prop} (a0 : Act) (hsz : a0.tmps.size = 24) (h0 : a0.tmps.getD 0 undef = .pointer (some ⟨p, 0, none⟩)) (h4 : a0.tmps.getD 4 undef = .slice (some ⟨g, 0, none⟩) c c)
    (hend : ∀ (f : Nat → Value) (w : World), Step noF w0 w → ipsSp p g c d xs ys FN PS 9 w (f 2) → ipsSp p g c d xs ys FN PS 10 w (f 3) → Q .normal (putAll a0 (ipsDs.map some) (ipsDs.map f)) w) :
    (Code.region 6 ((Tryz.f30.body.bind (regionOps 6)).getD #[]) true).wp Tryz.prog Q a0 w0 := by
  refine wp_region_preds (ipsSp p g c d xs ys FN PS) (ipsSp_mono p g c d xs ys FN PS) ipsDl (by kernel_rfl) ips_back ips_dl ips_nd (fun d h => by rw [hsz]; exact ips_lt d h) ?_ ?_
  · intro i hi a w hs hfr hat
    rw [ips_size] at hi
    have n0 := (hfr 0 (by decide)).trans h0
    have n4 := (hfr 4 (by decide)).trans h4
    have nc : ¬ c = 1 := nc0
    have hc1 : (1 : Int) ≤ (c : Int) := hc10
    have ec : (c : Int) - 1 = ((c - 1 : Nat) : Int) := ec0
    have c18 : ∀ w', Step noF w w' → Calls Tryz.prog 74 #[.slice (some ⟨g, 0, none⟩) c c, .func (.func 75) #[.pointer (some ⟨p, 0, none⟩)] #[]] w' fun e w'' => ∃ v, e = .returned v ∧ Step noF w' w'' ∧ NdsV w'' c (xs.map FN) v := fun w' s' => c180 w' (hs.trans s')
    have c23 : ∀ w', Step noF w w' → Calls Tryz.prog 76 #[.slice (some ⟨g, 2, none⟩) (c - 1) (c - 1), .func (.func 77) #[.pointer (some ⟨p, 0, none⟩)] #[]] w' fun e w'' => ∃ v, e = .returned v ∧ Step noF w' w'' ∧ TxV w'' (c - 1) PS v := fun w' s' => c230 w' (hs.trans s')
    match i, hi with
    | 0, _ =>
      refine op_runs (d := some 15) ipsOp0 (wants_none a) (v := .slice (some ⟨g, 0, none⟩) c c) (w' := w) ?_ ⟨15, _, rfl, rfl, Step.refl _ _, rfl⟩
      intro oo hoo
      simp only [execOp, hoo, Act.eval, n4]
      go_simp
    | 1, _ =>
      refine op_runs (d := some 16) ipsOp1 (wants_none a) (v := .pointer (some ⟨p, 0, none⟩)) (w' := w) ?_ ⟨16, _, rfl, rfl, Step.refl _ _, rfl⟩
      intro oo hoo
      simp only [execOp, hoo, Act.eval, n0]
      go_simp
    | 2, _ =>
      have n16 : a.tmps.getD 16 undef = _ := hat 1 (lc (by kernel_rfl)) 16 rfl
      refine op_runs (d := some 17) ipsOp2 (wants_none a) (v := .func (.func 75) #[.pointer (some ⟨p, 0, none⟩)] #[]) (w' := w) ?_ ⟨17, _, rfl, rfl, Step.refl _ _, rfl⟩
      intro oo hoo
      simp only [execOp, hoo, Act.eval, n16]
      simp only [List.map_toArray, List.map_cons, List.map_nil, Act.eval, n16]
      rfl
    | 3, _ =>
      have n15 : a.tmps.getD 15 undef = _ := hat 0 (lc (by kernel_rfl)) 15 rfl
      have n17 : a.tmps.getD 17 undef = _ := hat 2 (lc (by kernel_rfl)) 17 rfl
      refine op_calls ipsOp3 (wants_none a) Tryz.func74 (by kernel_rfl) (by kernel_rfl) (args := #[.slice (some ⟨g, 0, none⟩) c c, .func (.func 75) #[.pointer (some ⟨p, 0, none⟩)] #[]]) (by simp [Act.eval, n15, n17]) ((c18 w (Step.refl _ _)).mono ?_)
      rintro e w' ⟨v, rfl, s', hv⟩
      exact ⟨_, rfl, 18, _, rfl, rfl, s', hv⟩
    | 4, _ =>
      refine op_runs (d := some 19) ipsOp4 (wants_none a) (v := .slice (some ⟨g, 0, none⟩) c c) (w' := w) ?_ ⟨19, _, rfl, rfl, Step.refl _ _, rfl⟩
      intro oo hoo
      simp only [execOp, hoo, Act.eval, n4]
      go_simp
    | 5, _ =>
      have n19 : a.tmps.getD 19 undef = _ := hat 4 (lc (by kernel_rfl)) 19 rfl
      refine op_runs (d := some 20) ipsOp5 (wants_none a) (v := .slice (some ⟨g, 2, none⟩) (c - 1) (c - 1)) (w' := w) ?_ ⟨20, _, rfl, rfl, Step.refl _ _, rfl⟩
      intro oo hoo
      simp only [execOp, hoo, Act.eval, n19]
      go_simp
    | 6, _ =>
      refine op_runs (d := some 21) ipsOp6 (wants_none a) (v := .pointer (some ⟨p, 0, none⟩)) (w' := w) ?_ ⟨21, _, rfl, rfl, Step.refl _ _, rfl⟩
      intro oo hoo
      simp only [execOp, hoo, Act.eval, n0]
      go_simp
    | 7, _ =>
      have n21 : a.tmps.getD 21 undef = _ := hat 6 (lc (by kernel_rfl)) 21 rfl
      refine op_runs (d := some 22) ipsOp7 (wants_none a) (v := .func (.func 77) #[.pointer (some ⟨p, 0, none⟩)] #[]) (w' := w) ?_ ⟨22, _, rfl, rfl, Step.refl _ _, rfl⟩
      intro oo hoo
      simp only [execOp, hoo, Act.eval, n21]
      simp only [List.map_toArray, List.map_cons, List.map_nil, Act.eval, n21]
      rfl
    | 8, _ =>
      have n20 : a.tmps.getD 20 undef = _ := hat 5 (lc (by kernel_rfl)) 20 rfl
      have n22 : a.tmps.getD 22 undef = _ := hat 7 (lc (by kernel_rfl)) 22 rfl
      refine op_calls ipsOp8 (wants_none a) Tryz.func76 (by kernel_rfl) (by kernel_rfl) (args := #[.slice (some ⟨g, 2, none⟩) (c - 1) (c - 1), .func (.func 77) #[.pointer (some ⟨p, 0, none⟩)] #[]]) (by simp [Act.eval, n20, n22]) ((c23 w (Step.refl _ _)).mono ?_)
      rintro e w' ⟨v, rfl, s', hv⟩
      exact ⟨_, rfl, 23, _, rfl, rfl, s', hv⟩
    | 9, _ =>
      have hp18 : ipsSp p g c d xs ys FN PS 3 w (a.tmps.getD 18 undef) := hat 3 (lc (by kernel_rfl)) 18 rfl
      have hq18 := hp18
      obtain ⟨g18, q18, n18, u18, s18, r18⟩ := hq18
      refine op_runs (d := some 2) ipsOp9 (wants_none a) (v := a.tmps.getD 18 undef) (w' := w) ?_ ⟨2, _, rfl, rfl, Step.refl _ _, hp18⟩
      intro oo hoo
      simp only [execOp, hoo, Act.eval]
      go_simp
    | 10, _ =>
      have hp23 : ipsSp p g c d xs ys FN PS 8 w (a.tmps.getD 23 undef) := hat 8 (lc (by kernel_rfl)) 23 rfl
      have hq23 := hp23
      obtain ⟨a23, c23_, n23, s23⟩ := hq23
      refine op_runs (d := some 3) ipsOp10 (wants_none a) (v := a.tmps.getD 23 undef) (w' := w) ?_ ⟨3, _, rfl, rfl, Step.refl _ _, hp23⟩
      intro oo hoo
      simp only [execOp, hoo, Act.eval]
      go_simp
    | k + 11, h => exact absurd h (by omega)
  · intro a w hs hdf hs2 hfr hat
    rw [ips_size] at hat
    have e := act_vals (a := a) (a0 := a0) ipsDs (by decide) (fun d hd => by rw [hsz]; exact ips_lt d (by revert hd; revert d; decide)) hdf hs2 (fun k hk => hfr k (fun hk2 => hk (by revert hk2; simp [ipsDl, ipsDs])))
    rw [e]
    exact hend (fun d => a.tmps.getD d undef) w hs (hat 9 (by omega) 2 rfl) (hat 10 (by omega) 3 rfl)
set_option maxRecDepth 100000 in
theorem ips_lit (f : Nat → Value) (D : List Deferred) (x0 x1 x2 x3 x4 x5 x6 x7 x8 x9 x10 x11 x12 x13 x14 x15 x16 x17 x18 x19 x20 x21 x22 x23 : Value) : putAll { tmps := #[x0, x1, x2, x3, x4, x5, x6, x7, x8, x9, x10, x11, x12, x13, x14, x15, x16, x17, x18, x19, x20, x21, x22, x23], defers := D } (ipsDs.map some) (ipsDs.map f) = { tmps := #[x0, x1, f 2, f 3, x4, x5, x6, x7, x8, x9, x10, x11, x12, x13, x14, f 15, f 16, f 17, f 18, f 19, f 20, f 21, f 22, f 23], defers := D } := by kernel_rfl
end Go.Proofs.YtoobelcphcndoaaGreat
namespace Go.Proofs.YtoobelcphcndoaaGreat
open Go.RowKit Go.Sort
set_option linter.unusedVariables false
set_option linter.unusedSimpArgs false
set_option maxRecDepth 20000

theorem joinN_left (v v2 : Value) (w : World) : Calls Tryz.prog 33 #[.pointer none, v, .pointer none] w fun e w' => e = .returned (.tuple #[.pointer none, .int .i64 2]) ∧ w = w' := by
  go_enter Tryz.func33, Tryz.ntmps33
  go_wp2
  go_ret2
  exact ⟨rfl, rfl⟩
theorem joinN_nil (a : Option Addr) (v : Value) (w : World) : Calls Tryz.prog 33 #[.pointer none, v, .pointer a] w fun e w' => e = .returned (.tuple #[.pointer none, .int .i64 2]) ∧ w = w' := by
  go_enter Tryz.func33, Tryz.ntmps33
  go_wp2
  go_ret2
  exact ⟨rfl, rfl⟩
theorem joinN_none (p : Nat) (v : Value) (w : World) : Calls Tryz.prog 33 #[.pointer (some ⟨p, 0, none⟩), v, .pointer none] w fun e w' => e = .returned (.tuple #[.pointer none, .int .i64 2]) ∧ w = w' := by
  go_enter Tryz.func33, Tryz.ntmps33
  go_wp2
  go_ret2
  exact ⟨rfl, rfl⟩
theorem madeN_ptr {w : World} {d : Nd} {e : Ending} (h : MadeN w d e) : ∃ v, e = .returned v ∧ ∃ x, v = .tuple #[.pointer x, .int .i64 (if goodN d.kids d.pivs then 0 else 1)] ∧ PtrN w d (.pointer x) := by
  rcases h with ⟨h1, rfl⟩ | ⟨h1, q, rfl, hi⟩
  · exact ⟨_, rfl, none, (by rw [h1]; rfl), none, rfl, (fun h => by rw [h1] at h; cases h), (fun _ => rfl)⟩
  · exact ⟨_, rfl, some ⟨q, 0, none⟩, (by rw [h1]; rfl), _, rfl, (fun _ => ⟨q, rfl, hi⟩), (fun h => by rw [h1] at h; cases h)⟩
set_option maxHeartbeats 4000000 in
theorem joinN_any (p p2 : Nat) (d d2 : Nd) (hd : NdOk d) (hd2 : NdOk d2) (piv : List UInt8) (w : World) (h : InnerAt w p d) (h2 : InnerAt w p2 d2) :
    Calls Tryz.prog 33 #[.pointer (some ⟨p, 0, none⟩), .string (str piv), .pointer (some ⟨p2, 0, none⟩)] w fun e w' => MadeN w' (joinN d piv d2) e ∧ Step noF w w' := by
  obtain ⟨ka, pa, kc, pc, q, k0, k1, k2, hk, hp, hb⟩ := h.cell
  obtain ⟨ka2, pa2, kc2, pc2, q2, j0, j1, j2, hk2, hp2, hb2⟩ := h2.cell
  have l1 := hd.2.2.2.1
  have l2 := hd2.2.2.2.1
  have l3 := hd.len
  have l4 := hd2.len
  have l5 := hd.2.2.2.2
  have l6 := hd2.2.2.2.2
  have c25 : ∀ w', Step noF w w' → Calls Tryz.prog 62 #[.pointer (some ⟨q2, 0, none⟩)] w' fun e w'' => ∃ v, e = .returned v ∧ Step noF w' w'' ∧ ∃ a c, v = .slice a d2.ms.length c ∧ (a = none → c = 0) ∧ MsgsAt w'' noF a d2.ms := fun w' hs => by
    refine (listB_any q2 d2.ms (by omega) w' (hb2.step hs)).mono ?_
    rintro e w'' ⟨v, rfl, o, s⟩
    obtain ⟨a, c, rfl, _, hn, hm⟩ := owns_msgs o
    exact ⟨_, rfl, s, a, c, rfl, hn.1, hm⟩
  have hall : d2.ms.all Mg.is = true := List.all_eq_true.2 hd2.2.1
  have c26 : ∀ a c w', Step noF w w' → (a = none → c = 0) → MsgsAt w' noF a d2.ms → Calls Tryz.prog 79 #[.pointer (some ⟨q, 0, none⟩), .slice a d2.ms.length c] w' fun e w'' => ∃ v, e = .returned v ∧ Step noF w' w'' ∧ ∃ b, v = .tuple #[.pointer (some ⟨b, 0, none⟩), .int .i64 0] ∧ BuffAt w'' b (putsM d2.ms d.ms) := fun a c w' hs hc hm => by
    refine (withB_any q d.ms hd.2.2.1 hd.2.1 d2.ms (fun m hm => by
      have := (good_small hd2.2.1 (by omega)).2 m hm
      exact le_max (by omega)) (by omega) a c hc w' (hb.step hs) hm).mono ?_
    rintro e w'' ⟨hw, s⟩
    rcases hw with ⟨h1, _⟩ | ⟨_, b, rfl, hb⟩
    · rw [hall] at h1; cases h1
    · exact ⟨_, rfl, s, b, rfl, hb⟩
  obtain ⟨n1, e1⟩ : ∃ n, d.kids.length = n := ⟨_, rfl⟩
  obtain ⟨n2, e2⟩ : ∃ n, d2.kids.length = n := ⟨_, rfl⟩
  obtain ⟨m1, e3⟩ : ∃ n, d.pivs.length = n := ⟨_, rfl⟩
  obtain ⟨m2, e4⟩ : ∃ n, d2.pivs.length = n := ⟨_, rfl⟩
  have HK := hid hk
  have HK2 := hid hk2
  have HP := hid hp
  have HP2 := hid hp2
  rw [e1] at k0
  rw [e2] at j0
  rw [e3] at k1
  rw [e4] at j1
  have c41 : ∀ (G : Nat) (w' : World), Step noF w w' → w'.cell? ⟨G, 0, none⟩ = some (.slice ka n1 kc) → w'.cell? ⟨G, 1, none⟩ = some (.slice ka2 n2 kc2) → Calls Tryz.prog 81 #[.slice (some ⟨G, 0, none⟩) 2 2] w' fun e w'' => ∃ v, e = .returned v ∧ Step noF w' w'' ∧ SlV w'' (d.kids ++ d2.kids).length (intsOf (d.kids ++ d2.kids)) v := fun G w' hs g0 g1 => by
    refine (concatI2_any G d.kids d2.kids (by omega) ka ka2 kc kc2 2 w' (by rw [e1]; exact g0) (by rw [e2]; exact g1) (HK.out.step hs).2.2 HK.out.2.1.1 (HK2.out.step hs).2.2 HK2.out.2.1.1).mono ?_
    rintro e w'' ⟨v, rfl, o, s⟩
    exact ⟨v, rfl, s, o.row⟩
  have c53 : ∀ (G g1 : Nat) (w' : World), Step noF w w' → w'.cell? ⟨G, 0, none⟩ = some (.slice pa m1 pc) → w'.cell? ⟨G, 1, none⟩ = some (.slice (some ⟨g1, 0, none⟩) 1 1) → w'.cell? ⟨G, 2, none⟩ = some (.slice pa2 m2 pc2) → w'.cell? ⟨g1, 0, none⟩ = some (.string (str piv)) → Calls Tryz.prog 82 #[.slice (some ⟨G, 0, none⟩) 3 3] w' fun e w'' => ∃ v, e = .returned v ∧ Step noF w' w'' ∧ SlV w'' (d.pivs ++ piv :: d2.pivs).length (texts (d.pivs ++ piv :: d2.pivs)) v := fun G g1 w' hs x0 x1 x2 x3 => by
    refine (concatT3_any G d.pivs [piv] d2.pivs (by simp; omega) pa (some ⟨g1, 0, none⟩) pa2 pc 1 pc2 3 w' (by rw [e3]; exact x0) x1 (by rw [e4]; exact x2) (HP.out.step hs).2.2 HP.out.2.1.1 (.inr ⟨g1, 0, rfl, fun h => h, fun j hj => ?_⟩) (fun e => by cases e) (HP2.out.step hs).2.2 HP2.out.2.1.1).mono ?_
    · obtain rfl : j = 0 := by simp [texts] at hj; omega
      exact x3
    · rintro e w'' ⟨v, rfl, o, s⟩
      exact ⟨v, rfl, s, o.row⟩
  have hKL : (d.kids ++ d2.kids).length ≤ 1000000 := by rw [List.length_append]; omega
  have hPL : (d.pivs ++ piv :: d2.pivs).length ≤ 1000000 := by rw [List.length_append, List.length_cons]; omega
  have HJ : Hid (joinN d piv d2 = ⟨d.kids ++ d2.kids, d.pivs ++ piv :: d2.pivs, putsM d2.ms d.ms⟩) := rfl
  obtain ⟨KS, hKS⟩ : ∃ K, d.kids ++ d2.kids = K := ⟨_, rfl⟩
  obtain ⟨PS, hPS⟩ : ∃ K, d.pivs ++ piv :: d2.pivs = K := ⟨_, rfl⟩
  obtain ⟨MS, hMS⟩ : ∃ K, putsM d2.ms d.ms = K := ⟨_, rfl⟩
  rw [hKS] at c41 hKL HJ
  rw [hPS] at c53 hPL HJ
  rw [hMS] at c26 HJ
  obtain ⟨J, hJ⟩ : ∃ J, joinN d piv d2 = J := ⟨_, rfl⟩
  rw [hJ] at HJ ⊢
  obtain ⟨ER, hER⟩ : ∃ E : Int, (if goodN KS PS then 0 else 1) = E := ⟨_, rfl⟩
  have c55 : ∀ (b : Nat) (v1 v2 : Value) (w' : World), BuffAt w' b MS → SlV w' KS.length (intsOf KS) v1 → SlV w' PS.length (texts PS) v2 → Calls Tryz.prog 80 #[v1, v2, .pointer (some ⟨b, 0, none⟩)] w' fun e w'' => ∃ v, e = .returned v ∧ Step noF w' w'' ∧ ∃ x, v = .tuple #[.pointer x, .int .i64 ER] ∧ PtrN w'' ⟨KS, PS, MS⟩ (.pointer x) := fun b v1 v2 w' hb h1 h2 => by
    obtain ⟨a1, d1, rfl, s1⟩ := h1
    obtain ⟨a2, d2, rfl, s2⟩ := h2
    refine (build_any KS PS MS hKL hPL a1 a2 d1 d2 b w' s1 s2 hb).mono ?_
    rintro e w'' ⟨hm, s⟩
    obtain ⟨v, rfl, x, hv, hx⟩ := madeN_ptr hm
    exact ⟨v, rfl, s, x, by rw [hv, ← hER], hx⟩
  have HER := hid hER
  clear h h2 hk hk2 hp hp2 hb hb2 e1 e2 e3 e4 hKS hPS hMS hJ hER hall l1 l2 l3 l4 l5 l6 hKL hPL hd hd2
  go_enter Tryz.func33, Tryz.ntmps33
  go_upto_region 3 with fail
  go_cut [8, 9] from 10 (fun s8 s9 wx => ∃ b, s8 = .pointer (some ⟨b, 0, none⟩) ∧ s9 = .int .i64 0 ∧ Hid (BuffAt wx b MS) ∧ Hid (Step noF w wx))
  case first =>
    change Code.wp _ (Code.region 3 ((Tryz.f33.body.bind (regionOps 3)).getD #[]) true) _ _ _
    refine ijw_go p p2 q q2 d2.ms MS w k2 j2 c25 c26 _ rfl rfl rfl ?_
    intro ff w1 s1 e8 e9
    obtain ⟨b, e8', hb⟩ := e8
    have e9' : ff 9 = .int .i64 0 := e9
    have HB := hid hb
    have S1 := hid s1
    clear hb s1 e9 c25 c26 c41 c53 c55
    rw [ijw_lit, e8', e9']
    go_wp2_with fail
    go_meet
    exact ⟨b, rfl, rfl, HB.out, S1.out⟩
  case rest =>
    obtain ⟨b, rfl, rfl, HB, S1⟩ := hcut
    have a0 := S1.out.after k0
    have a1 := S1.out.after k1
    have b0 := S1.out.after j0
    have b1 := S1.out.after j1
    have c41' := fun G w' hs => c41 G w' (S1.out.trans hs)
    have c53' := fun G g1 w' hs => c53 G g1 w' (S1.out.trans hs)
    have c55' : ∀ (v1 v2 : Value) (w' : World), Step noF wc w' → _ := fun v1 v2 w' hs => c55 b v1 v2 w' (HB.out.step hs)
    clear c25 c26 c41 c53 c55 k0 k1 j0 j1
    go_upto_region 6 with fail
    change Code.wp _ (Code.region 6 ((Tryz.f33.body.bind (regionOps 6)).getD #[]) true) _ _ _
    refine ijr_go p p2 b ka ka2 pa pa2 n1 n2 kc kc2 m1 m2 pc pc2 piv KS PS MS ER wc a0 a1 b0 b1 c41' c53' c55' _ rfl rfl rfl rfl rfl ?_
    intro ff w1 s1 e6 e7
    obtain ⟨x, e6', hx1, hx2⟩ := e6
    have e7' : ff 7 = .int .i64 ER := e7
    have S2 := hid (S1.out.trans s1)
    have HX : Hid (MadeN w1 J (.returned (.tuple #[.pointer x, .int .i64 ER]))) := by
      show MadeN _ _ _
      rw [HJ.out]
      have := HER.out
      cases hg : goodN KS PS
      · rw [hg] at this
        exact .inl ⟨hg, by rw [hx2 hg, ← this]; rfl⟩
      · rw [hg] at this
        obtain ⟨q', e, hi⟩ := hx1 hg
        exact .inr ⟨hg, q', by rw [e, ← this]; rfl, hi⟩
    clear s1 e7 hx1 hx2 c41' c53' c55'
    rw [ijr_lit, e6', e7']
    go_wp2_with fail
    go_ret2
    exact ⟨HX.out, S2.out⟩

/-- The node of a span. -/
def spanNd (d : Nd) (x : Int × Int) : Nd := ⟨(d.kids.take x.2.toNat).drop x.1.toNat, (d.pivs.take (x.2.toNat - 1)).drop x.1.toNat, takeM (partRg d.kids.length d.pivs x.1.toNat x.2.toNat) d.ms⟩
theorem spans_parts (d : Nd) (hc : ¬ countN d.kids.length < 2) : (spansN d.kids.length).map (spanNd d) = partsN d := by
  unfold partsN spansN
  rw [if_neg hc, List.map_map]
  refine List.map_congr_left (fun i _ => ?_)
  simp [spanNd, partN, partKids, partPivs]
theorem spans_between (d : Nd) (hc : ¬ countN d.kids.length < 2) : ((spansN d.kids.length).drop 1).map (fun x => d.pivs.getD (x.1.toNat - 1) []) = betweenN d := by
  unfold betweenN spansN
  rw [if_neg hc]
  refine List.ext_getElem (by simp) (fun i h1 h2 => ?_)
  simp [Nat.add_comm]
theorem partsNd_nil (w : World) : Calls Tryz.prog 30 #[.pointer none] w fun e w' => e = .returned (.tuple #[.slice none 0 0, .slice none 0 0]) ∧ w = w' := by
  go_enter Tryz.func30, Tryz.ntmps30
  go_wp2
  go_ret2
  exact ⟨rfl, rfl⟩
set_option maxHeartbeats 2000000 in
theorem partsNd_any (p : Nat) (d : Nd) (hd : NdOk d) (w : World) (h : InnerAt w p d) :
    Calls Tryz.prog 30 #[.pointer (some ⟨p, 0, none⟩)] w fun e w' => ∃ v1 v2, e = .returned (.tuple #[v1, v2]) ∧ Hid (NdsV w' (countN d.kids.length) (partsN d) v1) ∧ Hid (TxV w' (countN d.kids.length - 1) (betweenN d) v2) ∧ Hid (Step noF w w') := by
  have cL := lenN_any p d w h
  have hlen := hd.len
  have hk0 : 0 < d.kids.length := by omega
  have hk1 := hd.2.2.2.1
  have hcdef : countN d.kids.length = (d.kids.length + 5) / 6 := rfl
  have HI := hid h
  have HD := hid hd
  by_cases h6 : d.kids.length ≤ 6
  · have hc1 : countN d.kids.length = 1 := by omega
    have HP : Hid (partsN d = [d]) := by show _ = _; unfold partsN; rw [if_pos (by omega)]
    have HB : Hid (betweenN d = []) := by show _ = _; unfold betweenN; rw [if_pos (by omega)]
    rw [hc1]
    have hz : (d.kids.length : Int) ≤ 6 := by omega
    have hrow : ∀ w' : World, RowAt (w'.alloc (.cells #[.pointer (some ⟨p, 0, none⟩)] 45)) noF (some ⟨w'.heap.size, 0, none⟩) ([p].map fun q => Value.pointer (some ⟨q, 0, none⟩)) := fun w' => by
      refine .inr ⟨w'.heap.size, 0, rfl, fun h => h, fun j hj => ?_⟩
      obtain rfl : j = 0 := by simp at hj; omega
      rw [cell_of_block (block_alloc_new w' _)]
      rfl
    have HR := hid hrow
    obtain ⟨n, hn⟩ : ∃ n, d.kids.length = n := ⟨_, rfl⟩
    rw [hn] at cL hz
    clear h hd hlen hk0 hk1 hcdef h6 hc1 hrow hn
    go_enter Tryz.func30, Tryz.ntmps30
    go_wp2_with fail
    refine cL.mono ?_
    rintro e w1 ⟨rfl, rfl⟩
    go_wp2_with fail
    go_ret2
    refine ⟨_, _, rfl, ⟨w.heap.size, [p], rfl, rfl, HR.out w, fun t h1 h2 => ?_⟩, ⟨none, 0, rfl, .inl (by rw [HB.out]; rfl)⟩, (Step.refl noF w).alloc _⟩
    obtain rfl : t = 0 := by simp at h1; omega
    have : (partsN d)[0] = d := by simp [HP.out]
    rw [this]
    exact HI.out.step ((Step.refl noF w).alloc _)
  · have hc2 : ¬ countN d.kids.length < 2 := by omega
    have hz : ¬ (d.kids.length : Int) ≤ 6 := by omega
    have cS := fun w' => share_any d.kids.length hk0 hk1 w'
    have hP := spans_parts d hc2
    have hB := spans_between d hc2
    have hSl := spansN_len d.kids.length
    have hSat : ∀ j (hj : j < (spansN d.kids.length).length), (spansN d.kids.length)[j] = ((cutAt d.kids.length (countN d.kids.length) j : Int), (cutAt d.kids.length (countN d.kids.length) (j + 1) : Int)) := fun j hj => by simp [spansN]
    have hcp : 0 < countN d.kids.length := by omega
    have hcn : countN d.kids.length ≤ d.kids.length := by omega
    have hq2 : 2 ≤ d.kids.length / countN d.kids.length := (Nat.le_div_iff_mul_le hcp).2 (by omega)
    have c18 : ∀ w' g, Step noF w w' → SpansAt w' (some ⟨g, 0, none⟩) (spansN d.kids.length) → Calls Tryz.prog 74 #[.slice (some ⟨g, 0, none⟩) (countN d.kids.length) (countN d.kids.length), .func (.func 75) #[.pointer (some ⟨p, 0, none⟩)] #[]] w' fun e w'' => ∃ v, e = .returned v ∧ Step noF w' w'' ∧ NdsV w'' (countN d.kids.length) (partsN d) v := fun w' g hs hsp => by
      refine (eachSN_any p (spanNd d) (countN d.kids.length) (spansN d.kids.length) hSl (by omega) (some ⟨g, 0, none⟩) (countN d.kids.length) w' hsp (fun j hj w'' hs2 => ?_)).mono ?_
      · rw [hSat j hj]
        have hj2 : j < countN d.kids.length := by rw [hSl] at hj; exact hj
        have a1 := cutAt_succ d.kids.length (countN d.kids.length) j
        have a2 := cutAt_le d.kids.length (countN d.kids.length) hcp (show j + 1 ≤ countN d.kids.length from hj2)
        refine (part_any p d.kids d.pivs d.ms HD.out (cutAt d.kids.length (countN d.kids.length) j) (cutAt d.kids.length (countN d.kids.length) (j + 1)) (by omega) a2 w'' (HI.out.step (hs.trans hs2))).mono ?_
        rintro e w3 ⟨q, rfl, hi, s⟩
        exact ⟨q, rfl, hi, s⟩
      · rintro e w'' ⟨g1, ys, rfl, hyl, hy, ho, hs2⟩
        obtain ⟨a', c', e1, _, _, hrow⟩ := owns_row1 ho.out
        injection e1 with e1 _ _
        subst e1
        refine ⟨_, rfl, hs2.out, g1, ys, rfl, hyl, hrow, fun t h1 h2 => ?_⟩
        have h3 : t < (spansN d.kids.length).length := by rw [hSl, ← hyl]; exact h1
        have e2 : (partsN d)[t] = spanNd d (spansN d.kids.length)[t] := by simp [← hP]
        rw [e2]
        exact hy.out t h3 h1
    have c23 : ∀ w' g, Step noF w w' → SpansAt w' (some ⟨g, 2, none⟩) ((spansN d.kids.length).drop 1) → Calls Tryz.prog 76 #[.slice (some ⟨g, 2, none⟩) (countN d.kids.length - 1) (countN d.kids.length - 1), .func (.func 77) #[.pointer (some ⟨p, 0, none⟩)] #[]] w' fun e w'' => ∃ v, e = .returned v ∧ Step noF w' w'' ∧ TxV w'' (countN d.kids.length - 1) (betweenN d) v := fun w' g hs hsp => by
      have hl1 : ((spansN d.kids.length).drop 1).length = countN d.kids.length - 1 := by rw [List.length_drop, hSl]
      refine (eachST_any p (fun x => d.pivs.getD (x.1.toNat - 1) []) (countN d.kids.length - 1) ((spansN d.kids.length).drop 1) hl1 (by omega) (some ⟨g, 2, none⟩) (countN d.kids.length - 1) w' hsp (fun j hj w'' hs2 => ?_)).mono ?_
      · have hj2 : j + 1 < countN d.kids.length := by rw [hl1] at hj; omega
        have e1 : ((spansN d.kids.length).drop 1)[j] = ((cutAt d.kids.length (countN d.kids.length) (j + 1) : Int), (cutAt d.kids.length (countN d.kids.length) (j + 1 + 1) : Int)) := by
          rw [List.getElem_drop]
          rw [hSat _ (by rw [hSl]; omega)]
          rw [Nat.add_comm 1 j]
        rw [e1]
        have a0 := cutAt_lt d.kids.length (countN d.kids.length) hcp hcn j
        have a1 := cutAt_lt d.kids.length (countN d.kids.length) hcp hcn (j + 1)
        have a2 := cutAt_le d.kids.length (countN d.kids.length) hcp (show j + 1 + 1 ≤ countN d.kids.length from hj2)
        refine (pivotAhead_any p d (by omega) (cutAt d.kids.length (countN d.kids.length) (j + 1)) _ (by omega) (by omega) w'' (HI.out.step (hs.trans hs2))).mono ?_
        rintro e w3 ⟨rfl, s⟩
        exact ⟨_, rfl, (by show _ = _; simp only [Int.toNat_natCast]), s⟩
      · rintro e w'' ⟨g1, ys, rfl, hyl, hy, ho, hs2⟩
        obtain ⟨a', c', e1, _, _, hrow⟩ := owns_row1 ho.out
        injection e1 with e1 _ _
        subst e1
        refine ⟨_, rfl, hs2.out, some ⟨g1, 0, none⟩, _, rfl, ?_⟩
        have : ys = betweenN d := by
          rw [← hB]
          refine List.ext_getElem (by rw [hyl, List.length_map, hl1]) (fun t h1 h2 => ?_)
          rw [List.getElem_map]
          exact hy.out t (by rw [List.length_map] at h2; exact h2) h1
        rw [← this]
        exact hrow
    obtain ⟨c, hc⟩ : ∃ c, countN d.kids.length = c := ⟨_, rfl⟩
    rw [hc] at cS c18 c23 ⊢
    have nc : ¬ c = 1 := by omega
    have hc1 : (1 : Int) ≤ (c : Int) := by omega
    have ec : (c : Int) - 1 = ((c - 1 : Nat) : Int) := by omega
    obtain ⟨PD, hPD⟩ : ∃ P, partsN d = P := ⟨_, rfl⟩
    rw [hPD] at c18 hP ⊢
    have HSP := hid hP
    obtain ⟨n, hn⟩ : ∃ n, d.kids.length = n := ⟨_, rfl⟩
    rw [hn] at cL hz cS c18 c23 HSP
    clear h hd hlen hk0 hk1 hcdef h6 hc2 hP hB hSl hSat hcp hcn hq2 hc hPD hn
    go_enter Tryz.func30, Tryz.ntmps30
    go_wp2_with fail
    refine cL.mono ?_
    rintro e w1 ⟨rfl, rfl⟩
    go_wp2_with fail
    refine cL.mono ?_
    rintro e w1 ⟨rfl, rfl⟩
    go_wp2_with fail
    refine (cS _).mono ?_
    rintro e w2 ⟨g, rfl, HS, S2⟩
    have c18' := fun w' hs => c18 w' g (S2.out.trans hs) (TwosAt.step HS.out hs)
    have c23' := fun w' hs => c23 w' g (S2.out.trans hs) (by
      have := (TwosAt.step HS.out hs).drop 1
      exact this)
    rw [← HSP.out] at c18'
    clear cS c18 c23
    go_upto_region 6 with fail
    change Code.wp _ (Code.region 6 ((Tryz.f30.body.bind (regionOps 6)).getD #[]) true) _ _ _
    refine ips_go p g c d (spansN n) [] (spanNd d) (betweenN d) w2 nc hc1 ec c18' c23' _ rfl rfl rfl ?_
    intro ff w3 s3 e2 e3
    have e2' : NdsV w3 c ((spansN n).map (spanNd d)) (ff 2) := e2
    have e3' : TxV w3 (c - 1) (betweenN d) (ff 3) := e3
    rw [HSP.out] at e2'
    have E2 := hid e2'
    have E3 := hid e3'
    have S3 := hid (S2.out.trans s3)
    clear e2 e3 e2' e3' s3 c18' c23' nc hc1 ec hz cL
    obtain ⟨V1, hV1⟩ : ∃ V, ff 2 = V := ⟨_, rfl⟩
    obtain ⟨V2, hV2⟩ : ∃ V, ff 3 = V := ⟨_, rfl⟩
    rw [ips_lit, hV1, hV2]
    rw [hV1] at E2
    rw [hV2] at E3
    clear hV1 hV2
    go_wp2_with fail
    go_ret2
    exact ⟨V1, V2, rfl, E2, E3, S3⟩
end Go.Proofs.YtoobelcphcndoaaGreat
