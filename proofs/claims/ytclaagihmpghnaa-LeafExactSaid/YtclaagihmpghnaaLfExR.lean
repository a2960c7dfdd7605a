/-
  The region that draws in grangerlaw09.LeafExact (number 14), operation by operation. Written by draw4.py.
-/
import Derived.Test.YtclaagihmpghnaaPart
import Derived.Test.YtclaagihmpghnaaKeyRow
import Derived.Test.YtclaagihmpghnaaKeyA
namespace Go.Proofs.Ytclaagihmpghnaa
open Go.RowKit
set_option linter.unusedVariables false
set_option linter.unusedSimpArgs false

/-- A slice of items. -/
def isRgE (xs : List Rg) : SP noF := ⟨fun w v => ∃ a c, v = .slice a xs.length c ∧ RgsAt w a xs, fun _ _ _ hs ⟨a, c, h1, h2⟩ => ⟨a, c, h1, h2.step hs⟩⟩

def lexrDl : List (Option Nat) := [some 92, some 93, some 94, some 95, some 96, some 97, some 98, some 99, some 100, some 101, some 102, some 103, some 104, some 105, some 106]
theorem lexr_dl : ((Try.f3.body.bind (regionOps 14)).getD #[]).toList.map (·.dst) = lexrDl := by kernel_rfl
theorem lexr_back : backB ((Try.f3.body.bind (regionOps 14)).getD #[]) = true := by kernel_rfl
theorem lexr_size : ((Try.f3.body.bind (regionOps 14)).getD #[]).size = 15 := by kernel_rfl
theorem lexr_nd : lexrDl.Pairwise (fun x y => x = none ∨ x ≠ y) := by decide
theorem lexr_lt (d : Nat) (h : some d ∈ lexrDl) : d < 208 := by
  have hh : lexrDl.all (fun o => o.all (fun d => decide (d < 208))) = true := by decide
  simpa using List.all_eq_true.1 hh _ h
def lexrSp (q bb sl uc : Nat) (ua : Option Addr) (lo hh : List UInt8) (X : List Rg) : List (SP noF) := [(is (.pointer (some ⟨q, 0, none⟩))), (is (.bool false)), (is (.bool false)), (is (.pointer (some ⟨q, 0, none⟩))), (isRgE X), (is (.slice ua sl uc)), (is (.pointer (some ⟨bb, 0, none⟩))), (is (.string (str lo))), (is (.pointer (some ⟨bb, 1, none⟩))), (is (.string (str hh))), (is (.agg #[.string (str lo), .string (str hh)])), (isRgE X), (is (.bool true)), (is (.bool false)), (is (.bool false))]
theorem lexrOp0 : opIs ((Try.f3.body.bind (regionOps 14)).getD #[]) 0 (some 92) (Op.move (Operand.tmp 13)) (none) := opIs_of (by kernel_rfl)
theorem lexrOp1 : opIs ((Try.f3.body.bind (regionOps 14)).getD #[]) 1 (some 93) (Op.binOp BinOp.eql 29 (Operand.tmp 92) (Operand.const (Value.pointer none)) 29) (none) := opIs_of (by kernel_rfl)
theorem lexrOp2 : opIs ((Try.f3.body.bind (regionOps 14)).getD #[]) 2 (some 94) (Op.move (Operand.tmp 93)) (none) := opIs_of (by kernel_rfl)
theorem lexrOp3 : opIs ((Try.f3.body.bind (regionOps 14)).getD #[]) 3 (some 95) (Op.move (Operand.tmp 13)) (some (2, false)) := opIs_of (by kernel_rfl)
theorem lexrOp4 : opIs ((Try.f3.body.bind (regionOps 14)).getD #[]) 4 (some 96) (Op.call { callee := Callee.value (Operand.func 14), args := #[Operand.tmp 95], argTypes := #[29] }) (some (2, false)) := opIs_of (by kernel_rfl)
theorem lexrOp5 : opIs ((Try.f3.body.bind (regionOps 14)).getD #[]) 5 (some 97) (Op.move (Operand.tmp 11)) (some (2, false)) := opIs_of (by kernel_rfl)
theorem lexrOp6 : opIs ((Try.f3.body.bind (regionOps 14)).getD #[]) 6 (some 98) (Op.fieldAddr 25 (Operand.tmp 7) 0) (some (2, false)) := opIs_of (by kernel_rfl)
theorem lexrOp7 : opIs ((Try.f3.body.bind (regionOps 14)).getD #[]) 7 (some 99) (Op.load 9 (Operand.tmp 98)) (some (2, false)) := opIs_of (by kernel_rfl)
theorem lexrOp8 : opIs ((Try.f3.body.bind (regionOps 14)).getD #[]) 8 (some 100) (Op.fieldAddr 25 (Operand.tmp 7) 1) (some (2, false)) := opIs_of (by kernel_rfl)
theorem lexrOp9 : opIs ((Try.f3.body.bind (regionOps 14)).getD #[]) 9 (some 101) (Op.load 9 (Operand.tmp 100)) (some (2, false)) := opIs_of (by kernel_rfl)
theorem lexrOp10 : opIs ((Try.f3.body.bind (regionOps 14)).getD #[]) 10 (some 102) (Op.build 41 #[(0, Operand.tmp 99), (1, Operand.tmp 101)]) (some (2, false)) := opIs_of (by kernel_rfl)
theorem lexrOp11 : opIs ((Try.f3.body.bind (regionOps 14)).getD #[]) 11 (some 103) (Op.call { callee := Callee.value (Operand.func 19), args := #[Operand.tmp 97, Operand.tmp 102], argTypes := #[22, 41] }) (some (2, false)) := opIs_of (by kernel_rfl)
theorem lexrOp12 : opIs ((Try.f3.body.bind (regionOps 14)).getD #[]) 12 (some 104) (Op.call { callee := Callee.value (Operand.func 13), args := #[Operand.tmp 96, Operand.tmp 103], argTypes := #[22, 22] }) (some (2, false)) := opIs_of (by kernel_rfl)
theorem lexrOp13 : opIs ((Try.f3.body.bind (regionOps 14)).getD #[]) 13 (some 105) (Op.unOp UnOp.not 4 (Operand.tmp 104)) (some (2, false)) := opIs_of (by kernel_rfl)
theorem lexrOp14 : opIs ((Try.f3.body.bind (regionOps 14)).getD #[]) 14 (some 106) (Op.pick (Operand.tmp 94) (Operand.const (Value.bool true)) (Operand.tmp 105)) (none) := opIs_of (by kernel_rfl)

theorem lexrStep0 (q bb sl uc : Nat) (ua : Option Addr) (lo hh : List UInt8) (X : List Rg)  {Q : Exit → Act → World → Prop} (a : Act) (w : World) (v0 : w.cell? ⟨bb, 0, none⟩ = some (.string (str lo))) (v1 : w.cell? ⟨bb, 1, none⟩ = some (.string (str hh))) (k0 : Calls Try.prog 14 #[.pointer (some ⟨q, 0, none⟩)] w fun e w' => ∃ v, e = .returned v ∧ Step noF w w' ∧ (isRgE X).1 w' v) (k1 : Calls Try.prog 19 #[.slice ua sl uc, .agg #[.string (str lo), .string (str hh)]] w fun e w' => ∃ v, e = .returned v ∧ Step noF w w' ∧ (isRgE X).1 w' v) (k2 : ∀ a c b d, RgsAt w a X → RgsAt w b X → Calls Try.prog 13 #[.slice a X.length c, .slice b X.length d] w fun e w' => e = .returned (.bool true) ∧ Step noF w w') (h7 : a.tmps.getD 7 undef = .pointer (some ⟨bb, 0, none⟩)) (h11 : a.tmps.getD 11 undef = .slice ua sl uc) (h13 : a.tmps.getD 13 undef = .pointer (some ⟨q, 0, none⟩)) (hat : ∀ jj ∈ deps ((Try.f3.body.bind (regionOps 14)).getD #[]) 0, At (lexrSp q bb sl uc ua lo hh X) lexrDl a w jj) :
    wpOp Try.prog ((Try.f3.body.bind (regionOps 14)).getD #[]) Q 0 (fun a' w' => ∃ o v, lexrDl[0]? = some o ∧ a' = a.put o v ∧ Step noF w w' ∧ ∀ pp, (lexrSp q bb sl uc ua lo hh X)[0]? = some pp → pp.1 w' (o.elim undef fun _ => v)) a w := by
  exact slot_runs (is (.pointer (some ⟨q, 0, none⟩))) lexrOp0 rfl rfl (wants_none a) (runs_move (show a.eval _ = _ from h13)) (Step.refl _ _) rfl

theorem lexrStep1 (q bb sl uc : Nat) (ua : Option Addr) (lo hh : List UInt8) (X : List Rg)  {Q : Exit → Act → World → Prop} (a : Act) (w : World) (v0 : w.cell? ⟨bb, 0, none⟩ = some (.string (str lo))) (v1 : w.cell? ⟨bb, 1, none⟩ = some (.string (str hh))) (k0 : Calls Try.prog 14 #[.pointer (some ⟨q, 0, none⟩)] w fun e w' => ∃ v, e = .returned v ∧ Step noF w w' ∧ (isRgE X).1 w' v) (k1 : Calls Try.prog 19 #[.slice ua sl uc, .agg #[.string (str lo), .string (str hh)]] w fun e w' => ∃ v, e = .returned v ∧ Step noF w w' ∧ (isRgE X).1 w' v) (k2 : ∀ a c b d, RgsAt w a X → RgsAt w b X → Calls Try.prog 13 #[.slice a X.length c, .slice b X.length d] w fun e w' => e = .returned (.bool true) ∧ Step noF w w') (h7 : a.tmps.getD 7 undef = .pointer (some ⟨bb, 0, none⟩)) (h11 : a.tmps.getD 11 undef = .slice ua sl uc) (h13 : a.tmps.getD 13 undef = .pointer (some ⟨q, 0, none⟩)) (hat : ∀ jj ∈ deps ((Try.f3.body.bind (regionOps 14)).getD #[]) 1, At (lexrSp q bb sl uc ua lo hh X) lexrDl a w jj) :
    wpOp Try.prog ((Try.f3.body.bind (regionOps 14)).getD #[]) Q 1 (fun a' w' => ∃ o v, lexrDl[1]? = some o ∧ a' = a.put o v ∧ Step noF w w' ∧ ∀ pp, (lexrSp q bb sl uc ua lo hh X)[1]? = some pp → pp.1 w' (o.elim undef fun _ => v)) a w := by
  have h92 : a.tmps.getD 92 undef = .pointer (some ⟨q, 0, none⟩) := dep hat 0 (by kernel_rfl) (is (.pointer (some ⟨q, 0, none⟩))) 92 rfl rfl
  refine slot_runs (is (.bool false)) lexrOp1 rfl rfl (wants_none a) (v := .bool false) (w' := w) ?_ (Step.refl _ _) rfl
  intro oo hoo
  simp only [execOp, hoo, Act.eval, Option.map_some, Option.map_none, h92]
  go_simp

theorem lexrStep2 (q bb sl uc : Nat) (ua : Option Addr) (lo hh : List UInt8) (X : List Rg)  {Q : Exit → Act → World → Prop} (a : Act) (w : World) (v0 : w.cell? ⟨bb, 0, none⟩ = some (.string (str lo))) (v1 : w.cell? ⟨bb, 1, none⟩ = some (.string (str hh))) (k0 : Calls Try.prog 14 #[.pointer (some ⟨q, 0, none⟩)] w fun e w' => ∃ v, e = .returned v ∧ Step noF w w' ∧ (isRgE X).1 w' v) (k1 : Calls Try.prog 19 #[.slice ua sl uc, .agg #[.string (str lo), .string (str hh)]] w fun e w' => ∃ v, e = .returned v ∧ Step noF w w' ∧ (isRgE X).1 w' v) (k2 : ∀ a c b d, RgsAt w a X → RgsAt w b X → Calls Try.prog 13 #[.slice a X.length c, .slice b X.length d] w fun e w' => e = .returned (.bool true) ∧ Step noF w w') (h7 : a.tmps.getD 7 undef = .pointer (some ⟨bb, 0, none⟩)) (h11 : a.tmps.getD 11 undef = .slice ua sl uc) (h13 : a.tmps.getD 13 undef = .pointer (some ⟨q, 0, none⟩)) (hat : ∀ jj ∈ deps ((Try.f3.body.bind (regionOps 14)).getD #[]) 2, At (lexrSp q bb sl uc ua lo hh X) lexrDl a w jj) :
    wpOp Try.prog ((Try.f3.body.bind (regionOps 14)).getD #[]) Q 2 (fun a' w' => ∃ o v, lexrDl[2]? = some o ∧ a' = a.put o v ∧ Step noF w w' ∧ ∀ pp, (lexrSp q bb sl uc ua lo hh X)[2]? = some pp → pp.1 w' (o.elim undef fun _ => v)) a w := by
  have h93 : a.tmps.getD 93 undef = .bool false := dep hat 1 (by kernel_rfl) (is (.bool false)) 93 rfl rfl
  exact slot_runs (is (.bool false)) lexrOp2 rfl rfl (wants_none a) (runs_move (show a.eval _ = _ from h93)) (Step.refl _ _) rfl

theorem lexrStep3 (q bb sl uc : Nat) (ua : Option Addr) (lo hh : List UInt8) (X : List Rg)  {Q : Exit → Act → World → Prop} (a : Act) (w : World) (v0 : w.cell? ⟨bb, 0, none⟩ = some (.string (str lo))) (v1 : w.cell? ⟨bb, 1, none⟩ = some (.string (str hh))) (k0 : Calls Try.prog 14 #[.pointer (some ⟨q, 0, none⟩)] w fun e w' => ∃ v, e = .returned v ∧ Step noF w w' ∧ (isRgE X).1 w' v) (k1 : Calls Try.prog 19 #[.slice ua sl uc, .agg #[.string (str lo), .string (str hh)]] w fun e w' => ∃ v, e = .returned v ∧ Step noF w w' ∧ (isRgE X).1 w' v) (k2 : ∀ a c b d, RgsAt w a X → RgsAt w b X → Calls Try.prog 13 #[.slice a X.length c, .slice b X.length d] w fun e w' => e = .returned (.bool true) ∧ Step noF w w') (h7 : a.tmps.getD 7 undef = .pointer (some ⟨bb, 0, none⟩)) (h11 : a.tmps.getD 11 undef = .slice ua sl uc) (h13 : a.tmps.getD 13 undef = .pointer (some ⟨q, 0, none⟩)) (hat : ∀ jj ∈ deps ((Try.f3.body.bind (regionOps 14)).getD #[]) 3, At (lexrSp q bb sl uc ua lo hh X) lexrDl a w jj) :
    wpOp Try.prog ((Try.f3.body.bind (regionOps 14)).getD #[]) Q 3 (fun a' w' => ∃ o v, lexrDl[3]? = some o ∧ a' = a.put o v ∧ Step noF w w' ∧ ∀ pp, (lexrSp q bb sl uc ua lo hh X)[3]? = some pp → pp.1 w' (o.elim undef fun _ => v)) a w := by
  have h94 : a.tmps.getD 94 undef = .bool false := dep hat 2 (by kernel_rfl) (is (.bool false)) 94 rfl rfl
  exact slot_runs (is (.pointer (some ⟨q, 0, none⟩))) lexrOp3 rfl rfl ((wants_some (d := 94) (b := false) (by kernel_rfl) h94)) (runs_move (show a.eval _ = _ from h13)) (Step.refl _ _) rfl

theorem lexrStep4 (q bb sl uc : Nat) (ua : Option Addr) (lo hh : List UInt8) (X : List Rg)  {Q : Exit → Act → World → Prop} (a : Act) (w : World) (v0 : w.cell? ⟨bb, 0, none⟩ = some (.string (str lo))) (v1 : w.cell? ⟨bb, 1, none⟩ = some (.string (str hh))) (k0 : Calls Try.prog 14 #[.pointer (some ⟨q, 0, none⟩)] w fun e w' => ∃ v, e = .returned v ∧ Step noF w w' ∧ (isRgE X).1 w' v) (k1 : Calls Try.prog 19 #[.slice ua sl uc, .agg #[.string (str lo), .string (str hh)]] w fun e w' => ∃ v, e = .returned v ∧ Step noF w w' ∧ (isRgE X).1 w' v) (k2 : ∀ a c b d, RgsAt w a X → RgsAt w b X → Calls Try.prog 13 #[.slice a X.length c, .slice b X.length d] w fun e w' => e = .returned (.bool true) ∧ Step noF w w') (h7 : a.tmps.getD 7 undef = .pointer (some ⟨bb, 0, none⟩)) (h11 : a.tmps.getD 11 undef = .slice ua sl uc) (h13 : a.tmps.getD 13 undef = .pointer (some ⟨q, 0, none⟩)) (hat : ∀ jj ∈ deps ((Try.f3.body.bind (regionOps 14)).getD #[]) 4, At (lexrSp q bb sl uc ua lo hh X) lexrDl a w jj) :
    wpOp Try.prog ((Try.f3.body.bind (regionOps 14)).getD #[]) Q 4 (fun a' w' => ∃ o v, lexrDl[4]? = some o ∧ a' = a.put o v ∧ Step noF w w' ∧ ∀ pp, (lexrSp q bb sl uc ua lo hh X)[4]? = some pp → pp.1 w' (o.elim undef fun _ => v)) a w := by
  have h94 : a.tmps.getD 94 undef = .bool false := dep hat 2 (by kernel_rfl) (is (.bool false)) 94 rfl rfl
  have h95 : a.tmps.getD 95 undef = .pointer (some ⟨q, 0, none⟩) := dep hat 3 (by kernel_rfl) (is (.pointer (some ⟨q, 0, none⟩))) 95 rfl rfl
  refine slot_calls (isRgE X) lexrOp4 rfl rfl ((wants_some (d := 94) (b := false) (by kernel_rfl) h94)) Try.func14 (by kernel_rfl) (by kernel_rfl) (by simp only [List.map_toArray, List.map_cons, List.map_nil, Act.eval, h95]; rfl) ?_
  exact k0

theorem lexrStep5 (q bb sl uc : Nat) (ua : Option Addr) (lo hh : List UInt8) (X : List Rg)  {Q : Exit → Act → World → Prop} (a : Act) (w : World) (v0 : w.cell? ⟨bb, 0, none⟩ = some (.string (str lo))) (v1 : w.cell? ⟨bb, 1, none⟩ = some (.string (str hh))) (k0 : Calls Try.prog 14 #[.pointer (some ⟨q, 0, none⟩)] w fun e w' => ∃ v, e = .returned v ∧ Step noF w w' ∧ (isRgE X).1 w' v) (k1 : Calls Try.prog 19 #[.slice ua sl uc, .agg #[.string (str lo), .string (str hh)]] w fun e w' => ∃ v, e = .returned v ∧ Step noF w w' ∧ (isRgE X).1 w' v) (k2 : ∀ a c b d, RgsAt w a X → RgsAt w b X → Calls Try.prog 13 #[.slice a X.length c, .slice b X.length d] w fun e w' => e = .returned (.bool true) ∧ Step noF w w') (h7 : a.tmps.getD 7 undef = .pointer (some ⟨bb, 0, none⟩)) (h11 : a.tmps.getD 11 undef = .slice ua sl uc) (h13 : a.tmps.getD 13 undef = .pointer (some ⟨q, 0, none⟩)) (hat : ∀ jj ∈ deps ((Try.f3.body.bind (regionOps 14)).getD #[]) 5, At (lexrSp q bb sl uc ua lo hh X) lexrDl a w jj) :
    wpOp Try.prog ((Try.f3.body.bind (regionOps 14)).getD #[]) Q 5 (fun a' w' => ∃ o v, lexrDl[5]? = some o ∧ a' = a.put o v ∧ Step noF w w' ∧ ∀ pp, (lexrSp q bb sl uc ua lo hh X)[5]? = some pp → pp.1 w' (o.elim undef fun _ => v)) a w := by
  have h94 : a.tmps.getD 94 undef = .bool false := dep hat 2 (by kernel_rfl) (is (.bool false)) 94 rfl rfl
  exact slot_runs (is (.slice ua sl uc)) lexrOp5 rfl rfl ((wants_some (d := 94) (b := false) (by kernel_rfl) h94)) (runs_move (show a.eval _ = _ from h11)) (Step.refl _ _) rfl

theorem lexrStep6 (q bb sl uc : Nat) (ua : Option Addr) (lo hh : List UInt8) (X : List Rg)  {Q : Exit → Act → World → Prop} (a : Act) (w : World) (v0 : w.cell? ⟨bb, 0, none⟩ = some (.string (str lo))) (v1 : w.cell? ⟨bb, 1, none⟩ = some (.string (str hh))) (k0 : Calls Try.prog 14 #[.pointer (some ⟨q, 0, none⟩)] w fun e w' => ∃ v, e = .returned v ∧ Step noF w w' ∧ (isRgE X).1 w' v) (k1 : Calls Try.prog 19 #[.slice ua sl uc, .agg #[.string (str lo), .string (str hh)]] w fun e w' => ∃ v, e = .returned v ∧ Step noF w w' ∧ (isRgE X).1 w' v) (k2 : ∀ a c b d, RgsAt w a X → RgsAt w b X → Calls Try.prog 13 #[.slice a X.length c, .slice b X.length d] w fun e w' => e = .returned (.bool true) ∧ Step noF w w') (h7 : a.tmps.getD 7 undef = .pointer (some ⟨bb, 0, none⟩)) (h11 : a.tmps.getD 11 undef = .slice ua sl uc) (h13 : a.tmps.getD 13 undef = .pointer (some ⟨q, 0, none⟩)) (hat : ∀ jj ∈ deps ((Try.f3.body.bind (regionOps 14)).getD #[]) 6, At (lexrSp q bb sl uc ua lo hh X) lexrDl a w jj) :
    wpOp Try.prog ((Try.f3.body.bind (regionOps 14)).getD #[]) Q 6 (fun a' w' => ∃ o v, lexrDl[6]? = some o ∧ a' = a.put o v ∧ Step noF w w' ∧ ∀ pp, (lexrSp q bb sl uc ua lo hh X)[6]? = some pp → pp.1 w' (o.elim undef fun _ => v)) a w := by
  have h94 : a.tmps.getD 94 undef = .bool false := dep hat 2 (by kernel_rfl) (is (.bool false)) 94 rfl rfl
  refine slot_runs (is (.pointer (some ⟨bb, 0, none⟩))) lexrOp6 rfl rfl ((wants_some (d := 94) (b := false) (by kernel_rfl) h94)) (v := .pointer (some ⟨bb, 0, none⟩)) (w' := w) ?_ (Step.refl _ _) rfl
  intro oo hoo
  simp only [execOp, hoo, Act.eval, Option.map_some, Option.map_none, h7]
  go_simp

theorem lexrStep7 (q bb sl uc : Nat) (ua : Option Addr) (lo hh : List UInt8) (X : List Rg)  {Q : Exit → Act → World → Prop} (a : Act) (w : World) (v0 : w.cell? ⟨bb, 0, none⟩ = some (.string (str lo))) (v1 : w.cell? ⟨bb, 1, none⟩ = some (.string (str hh))) (k0 : Calls Try.prog 14 #[.pointer (some ⟨q, 0, none⟩)] w fun e w' => ∃ v, e = .returned v ∧ Step noF w w' ∧ (isRgE X).1 w' v) (k1 : Calls Try.prog 19 #[.slice ua sl uc, .agg #[.string (str lo), .string (str hh)]] w fun e w' => ∃ v, e = .returned v ∧ Step noF w w' ∧ (isRgE X).1 w' v) (k2 : ∀ a c b d, RgsAt w a X → RgsAt w b X → Calls Try.prog 13 #[.slice a X.length c, .slice b X.length d] w fun e w' => e = .returned (.bool true) ∧ Step noF w w') (h7 : a.tmps.getD 7 undef = .pointer (some ⟨bb, 0, none⟩)) (h11 : a.tmps.getD 11 undef = .slice ua sl uc) (h13 : a.tmps.getD 13 undef = .pointer (some ⟨q, 0, none⟩)) (hat : ∀ jj ∈ deps ((Try.f3.body.bind (regionOps 14)).getD #[]) 7, At (lexrSp q bb sl uc ua lo hh X) lexrDl a w jj) :
    wpOp Try.prog ((Try.f3.body.bind (regionOps 14)).getD #[]) Q 7 (fun a' w' => ∃ o v, lexrDl[7]? = some o ∧ a' = a.put o v ∧ Step noF w w' ∧ ∀ pp, (lexrSp q bb sl uc ua lo hh X)[7]? = some pp → pp.1 w' (o.elim undef fun _ => v)) a w := by
  have h94 : a.tmps.getD 94 undef = .bool false := dep hat 2 (by kernel_rfl) (is (.bool false)) 94 rfl rfl
  have h98 : a.tmps.getD 98 undef = .pointer (some ⟨bb, 0, none⟩) := dep hat 6 (by kernel_rfl) (is (.pointer (some ⟨bb, 0, none⟩))) 98 rfl rfl
  refine slot_runs (is (.string (str lo))) lexrOp7 rfl rfl ((wants_some (d := 94) (b := false) (by kernel_rfl) h94)) (v := .string (str lo)) (w' := w) ?_ (Step.refl _ _) rfl
  intro oo hoo
  simp only [execOp, hoo, Act.eval, Option.map_some, Option.map_none, h98]
  go_simp

theorem lexrStep8 (q bb sl uc : Nat) (ua : Option Addr) (lo hh : List UInt8) (X : List Rg)  {Q : Exit → Act → World → Prop} (a : Act) (w : World) (v0 : w.cell? ⟨bb, 0, none⟩ = some (.string (str lo))) (v1 : w.cell? ⟨bb, 1, none⟩ = some (.string (str hh))) (k0 : Calls Try.prog 14 #[.pointer (some ⟨q, 0, none⟩)] w fun e w' => ∃ v, e = .returned v ∧ Step noF w w' ∧ (isRgE X).1 w' v) (k1 : Calls Try.prog 19 #[.slice ua sl uc, .agg #[.string (str lo), .string (str hh)]] w fun e w' => ∃ v, e = .returned v ∧ Step noF w w' ∧ (isRgE X).1 w' v) (k2 : ∀ a c b d, RgsAt w a X → RgsAt w b X → Calls Try.prog 13 #[.slice a X.length c, .slice b X.length d] w fun e w' => e = .returned (.bool true) ∧ Step noF w w') (h7 : a.tmps.getD 7 undef = .pointer (some ⟨bb, 0, none⟩)) (h11 : a.tmps.getD 11 undef = .slice ua sl uc) (h13 : a.tmps.getD 13 undef = .pointer (some ⟨q, 0, none⟩)) (hat : ∀ jj ∈ deps ((Try.f3.body.bind (regionOps 14)).getD #[]) 8, At (lexrSp q bb sl uc ua lo hh X) lexrDl a w jj) :
    wpOp Try.prog ((Try.f3.body.bind (regionOps 14)).getD #[]) Q 8 (fun a' w' => ∃ o v, lexrDl[8]? = some o ∧ a' = a.put o v ∧ Step noF w w' ∧ ∀ pp, (lexrSp q bb sl uc ua lo hh X)[8]? = some pp → pp.1 w' (o.elim undef fun _ => v)) a w := by
  have h94 : a.tmps.getD 94 undef = .bool false := dep hat 2 (by kernel_rfl) (is (.bool false)) 94 rfl rfl
  refine slot_runs (is (.pointer (some ⟨bb, 1, none⟩))) lexrOp8 rfl rfl ((wants_some (d := 94) (b := false) (by kernel_rfl) h94)) (v := .pointer (some ⟨bb, 1, none⟩)) (w' := w) ?_ (Step.refl _ _) rfl
  intro oo hoo
  simp only [execOp, hoo, Act.eval, Option.map_some, Option.map_none, h7]
  go_simp

theorem lexrStep9 (q bb sl uc : Nat) (ua : Option Addr) (lo hh : List UInt8) (X : List Rg)  {Q : Exit → Act → World → Prop} (a : Act) (w : World) (v0 : w.cell? ⟨bb, 0, none⟩ = some (.string (str lo))) (v1 : w.cell? ⟨bb, 1, none⟩ = some (.string (str hh))) (k0 : Calls Try.prog 14 #[.pointer (some ⟨q, 0, none⟩)] w fun e w' => ∃ v, e = .returned v ∧ Step noF w w' ∧ (isRgE X).1 w' v) (k1 : Calls Try.prog 19 #[.slice ua sl uc, .agg #[.string (str lo), .string (str hh)]] w fun e w' => ∃ v, e = .returned v ∧ Step noF w w' ∧ (isRgE X).1 w' v) (k2 : ∀ a c b d, RgsAt w a X → RgsAt w b X → Calls Try.prog 13 #[.slice a X.length c, .slice b X.length d] w fun e w' => e = .returned (.bool true) ∧ Step noF w w') (h7 : a.tmps.getD 7 undef = .pointer (some ⟨bb, 0, none⟩)) (h11 : a.tmps.getD 11 undef = .slice ua sl uc) (h13 : a.tmps.getD 13 undef = .pointer (some ⟨q, 0, none⟩)) (hat : ∀ jj ∈ deps ((Try.f3.body.bind (regionOps 14)).getD #[]) 9, At (lexrSp q bb sl uc ua lo hh X) lexrDl a w jj) :
    wpOp Try.prog ((Try.f3.body.bind (regionOps 14)).getD #[]) Q 9 (fun a' w' => ∃ o v, lexrDl[9]? = some o ∧ a' = a.put o v ∧ Step noF w w' ∧ ∀ pp, (lexrSp q bb sl uc ua lo hh X)[9]? = some pp → pp.1 w' (o.elim undef fun _ => v)) a w := by
  have h94 : a.tmps.getD 94 undef = .bool false := dep hat 2 (by kernel_rfl) (is (.bool false)) 94 rfl rfl
  have h100 : a.tmps.getD 100 undef = .pointer (some ⟨bb, 1, none⟩) := dep hat 8 (by kernel_rfl) (is (.pointer (some ⟨bb, 1, none⟩))) 100 rfl rfl
  refine slot_runs (is (.string (str hh))) lexrOp9 rfl rfl ((wants_some (d := 94) (b := false) (by kernel_rfl) h94)) (v := .string (str hh)) (w' := w) ?_ (Step.refl _ _) rfl
  intro oo hoo
  simp only [execOp, hoo, Act.eval, Option.map_some, Option.map_none, h100]
  go_simp

theorem lexrStep10 (q bb sl uc : Nat) (ua : Option Addr) (lo hh : List UInt8) (X : List Rg)  {Q : Exit → Act → World → Prop} (a : Act) (w : World) (v0 : w.cell? ⟨bb, 0, none⟩ = some (.string (str lo))) (v1 : w.cell? ⟨bb, 1, none⟩ = some (.string (str hh))) (k0 : Calls Try.prog 14 #[.pointer (some ⟨q, 0, none⟩)] w fun e w' => ∃ v, e = .returned v ∧ Step noF w w' ∧ (isRgE X).1 w' v) (k1 : Calls Try.prog 19 #[.slice ua sl uc, .agg #[.string (str lo), .string (str hh)]] w fun e w' => ∃ v, e = .returned v ∧ Step noF w w' ∧ (isRgE X).1 w' v) (k2 : ∀ a c b d, RgsAt w a X → RgsAt w b X → Calls Try.prog 13 #[.slice a X.length c, .slice b X.length d] w fun e w' => e = .returned (.bool true) ∧ Step noF w w') (h7 : a.tmps.getD 7 undef = .pointer (some ⟨bb, 0, none⟩)) (h11 : a.tmps.getD 11 undef = .slice ua sl uc) (h13 : a.tmps.getD 13 undef = .pointer (some ⟨q, 0, none⟩)) (hat : ∀ jj ∈ deps ((Try.f3.body.bind (regionOps 14)).getD #[]) 10, At (lexrSp q bb sl uc ua lo hh X) lexrDl a w jj) :
    wpOp Try.prog ((Try.f3.body.bind (regionOps 14)).getD #[]) Q 10 (fun a' w' => ∃ o v, lexrDl[10]? = some o ∧ a' = a.put o v ∧ Step noF w w' ∧ ∀ pp, (lexrSp q bb sl uc ua lo hh X)[10]? = some pp → pp.1 w' (o.elim undef fun _ => v)) a w := by
  have h94 : a.tmps.getD 94 undef = .bool false := dep hat 2 (by kernel_rfl) (is (.bool false)) 94 rfl rfl
  have h99 : a.tmps.getD 99 undef = .string (str lo) := dep hat 7 (by kernel_rfl) (is (.string (str lo))) 99 rfl rfl
  have h101 : a.tmps.getD 101 undef = .string (str hh) := dep hat 9 (by kernel_rfl) (is (.string (str hh))) 101 rfl rfl
  refine slot_runs (is (.agg #[.string (str lo), .string (str hh)])) lexrOp10 rfl rfl ((wants_some (d := 94) (b := false) (by kernel_rfl) h94)) (v := .agg #[.string (str lo), .string (str hh)]) (w' := w) ?_ (Step.refl _ _) rfl
  intro oo hoo
  simp only [execOp, hoo, Act.eval, Option.map_some, Option.map_none, h99, h101]
  (rw [Array.getD_eq_getD_getElem?] at h99 h101; go_simp)

theorem lexrStep11 (q bb sl uc : Nat) (ua : Option Addr) (lo hh : List UInt8) (X : List Rg)  {Q : Exit → Act → World → Prop} (a : Act) (w : World) (v0 : w.cell? ⟨bb, 0, none⟩ = some (.string (str lo))) (v1 : w.cell? ⟨bb, 1, none⟩ = some (.string (str hh))) (k0 : Calls Try.prog 14 #[.pointer (some ⟨q, 0, none⟩)] w fun e w' => ∃ v, e = .returned v ∧ Step noF w w' ∧ (isRgE X).1 w' v) (k1 : Calls Try.prog 19 #[.slice ua sl uc, .agg #[.string (str lo), .string (str hh)]] w fun e w' => ∃ v, e = .returned v ∧ Step noF w w' ∧ (isRgE X).1 w' v) (k2 : ∀ a c b d, RgsAt w a X → RgsAt w b X → Calls Try.prog 13 #[.slice a X.length c, .slice b X.length d] w fun e w' => e = .returned (.bool true) ∧ Step noF w w') (h7 : a.tmps.getD 7 undef = .pointer (some ⟨bb, 0, none⟩)) (h11 : a.tmps.getD 11 undef = .slice ua sl uc) (h13 : a.tmps.getD 13 undef = .pointer (some ⟨q, 0, none⟩)) (hat : ∀ jj ∈ deps ((Try.f3.body.bind (regionOps 14)).getD #[]) 11, At (lexrSp q bb sl uc ua lo hh X) lexrDl a w jj) :
    wpOp Try.prog ((Try.f3.body.bind (regionOps 14)).getD #[]) Q 11 (fun a' w' => ∃ o v, lexrDl[11]? = some o ∧ a' = a.put o v ∧ Step noF w w' ∧ ∀ pp, (lexrSp q bb sl uc ua lo hh X)[11]? = some pp → pp.1 w' (o.elim undef fun _ => v)) a w := by
  have h94 : a.tmps.getD 94 undef = .bool false := dep hat 2 (by kernel_rfl) (is (.bool false)) 94 rfl rfl
  have h97 : a.tmps.getD 97 undef = .slice ua sl uc := dep hat 5 (by kernel_rfl) (is (.slice ua sl uc)) 97 rfl rfl
  have h102 : a.tmps.getD 102 undef = .agg #[.string (str lo), .string (str hh)] := dep hat 10 (by kernel_rfl) (is (.agg #[.string (str lo), .string (str hh)])) 102 rfl rfl
  refine slot_calls (isRgE X) lexrOp11 rfl rfl ((wants_some (d := 94) (b := false) (by kernel_rfl) h94)) Try.func19 (by kernel_rfl) (by kernel_rfl) (by simp only [List.map_toArray, List.map_cons, List.map_nil, Act.eval, h97, h102]; rfl) ?_
  exact k1

theorem lexrStep12 (q bb sl uc : Nat) (ua : Option Addr) (lo hh : List UInt8) (X : List Rg)  {Q : Exit → Act → World → Prop} (a : Act) (w : World) (v0 : w.cell? ⟨bb, 0, none⟩ = some (.string (str lo))) (v1 : w.cell? ⟨bb, 1, none⟩ = some (.string (str hh))) (k0 : Calls Try.prog 14 #[.pointer (some ⟨q, 0, none⟩)] w fun e w' => ∃ v, e = .returned v ∧ Step noF w w' ∧ (isRgE X).1 w' v) (k1 : Calls Try.prog 19 #[.slice ua sl uc, .agg #[.string (str lo), .string (str hh)]] w fun e w' => ∃ v, e = .returned v ∧ Step noF w w' ∧ (isRgE X).1 w' v) (k2 : ∀ a c b d, RgsAt w a X → RgsAt w b X → Calls Try.prog 13 #[.slice a X.length c, .slice b X.length d] w fun e w' => e = .returned (.bool true) ∧ Step noF w w') (h7 : a.tmps.getD 7 undef = .pointer (some ⟨bb, 0, none⟩)) (h11 : a.tmps.getD 11 undef = .slice ua sl uc) (h13 : a.tmps.getD 13 undef = .pointer (some ⟨q, 0, none⟩)) (hat : ∀ jj ∈ deps ((Try.f3.body.bind (regionOps 14)).getD #[]) 12, At (lexrSp q bb sl uc ua lo hh X) lexrDl a w jj) :
    wpOp Try.prog ((Try.f3.body.bind (regionOps 14)).getD #[]) Q 12 (fun a' w' => ∃ o v, lexrDl[12]? = some o ∧ a' = a.put o v ∧ Step noF w w' ∧ ∀ pp, (lexrSp q bb sl uc ua lo hh X)[12]? = some pp → pp.1 w' (o.elim undef fun _ => v)) a w := by
  have h94 : a.tmps.getD 94 undef = .bool false := dep hat 2 (by kernel_rfl) (is (.bool false)) 94 rfl rfl
  obtain ⟨xa, xc, h96, hx96⟩ := dep hat 4 (by kernel_rfl) (isRgE X) 96 rfl rfl
  obtain ⟨ya, yc, h103, hx103⟩ := dep hat 11 (by kernel_rfl) (isRgE X) 103 rfl rfl
  refine slot_calls (is (.bool true)) lexrOp12 rfl rfl ((wants_some (d := 94) (b := false) (by kernel_rfl) h94)) Try.func13 (by kernel_rfl) (by kernel_rfl) (by simp only [List.map_toArray, List.map_cons, List.map_nil, Act.eval, h96, h103]; rfl) ?_
  exact Calls.mono (k2 xa xc ya yc hx96 hx103) (fun e w' hh => ⟨_, hh.1, hh.2, rfl⟩)

theorem lexrStep13 (q bb sl uc : Nat) (ua : Option Addr) (lo hh : List UInt8) (X : List Rg)  {Q : Exit → Act → World → Prop} (a : Act) (w : World) (v0 : w.cell? ⟨bb, 0, none⟩ = some (.string (str lo))) (v1 : w.cell? ⟨bb, 1, none⟩ = some (.string (str hh))) (k0 : Calls Try.prog 14 #[.pointer (some ⟨q, 0, none⟩)] w fun e w' => ∃ v, e = .returned v ∧ Step noF w w' ∧ (isRgE X).1 w' v) (k1 : Calls Try.prog 19 #[.slice ua sl uc, .agg #[.string (str lo), .string (str hh)]] w fun e w' => ∃ v, e = .returned v ∧ Step noF w w' ∧ (isRgE X).1 w' v) (k2 : ∀ a c b d, RgsAt w a X → RgsAt w b X → Calls Try.prog 13 #[.slice a X.length c, .slice b X.length d] w fun e w' => e = .returned (.bool true) ∧ Step noF w w') (h7 : a.tmps.getD 7 undef = .pointer (some ⟨bb, 0, none⟩)) (h11 : a.tmps.getD 11 undef = .slice ua sl uc) (h13 : a.tmps.getD 13 undef = .pointer (some ⟨q, 0, none⟩)) (hat : ∀ jj ∈ deps ((Try.f3.body.bind (regionOps 14)).getD #[]) 13, At (lexrSp q bb sl uc ua lo hh X) lexrDl a w jj) :
    wpOp Try.prog ((Try.f3.body.bind (regionOps 14)).getD #[]) Q 13 (fun a' w' => ∃ o v, lexrDl[13]? = some o ∧ a' = a.put o v ∧ Step noF w w' ∧ ∀ pp, (lexrSp q bb sl uc ua lo hh X)[13]? = some pp → pp.1 w' (o.elim undef fun _ => v)) a w := by
  have h94 : a.tmps.getD 94 undef = .bool false := dep hat 2 (by kernel_rfl) (is (.bool false)) 94 rfl rfl
  have h104 : a.tmps.getD 104 undef = .bool true := dep hat 12 (by kernel_rfl) (is (.bool true)) 104 rfl rfl
  refine slot_runs (is (.bool false)) lexrOp13 rfl rfl ((wants_some (d := 94) (b := false) (by kernel_rfl) h94)) (v := .bool false) (w' := w) ?_ (Step.refl _ _) rfl
  intro oo hoo
  simp only [execOp, hoo, Act.eval, Option.map_some, Option.map_none, h104]
  go_simp

theorem lexrStep14 (q bb sl uc : Nat) (ua : Option Addr) (lo hh : List UInt8) (X : List Rg)  {Q : Exit → Act → World → Prop} (a : Act) (w : World) (v0 : w.cell? ⟨bb, 0, none⟩ = some (.string (str lo))) (v1 : w.cell? ⟨bb, 1, none⟩ = some (.string (str hh))) (k0 : Calls Try.prog 14 #[.pointer (some ⟨q, 0, none⟩)] w fun e w' => ∃ v, e = .returned v ∧ Step noF w w' ∧ (isRgE X).1 w' v) (k1 : Calls Try.prog 19 #[.slice ua sl uc, .agg #[.string (str lo), .string (str hh)]] w fun e w' => ∃ v, e = .returned v ∧ Step noF w w' ∧ (isRgE X).1 w' v) (k2 : ∀ a c b d, RgsAt w a X → RgsAt w b X → Calls Try.prog 13 #[.slice a X.length c, .slice b X.length d] w fun e w' => e = .returned (.bool true) ∧ Step noF w w') (h7 : a.tmps.getD 7 undef = .pointer (some ⟨bb, 0, none⟩)) (h11 : a.tmps.getD 11 undef = .slice ua sl uc) (h13 : a.tmps.getD 13 undef = .pointer (some ⟨q, 0, none⟩)) (hat : ∀ jj ∈ deps ((Try.f3.body.bind (regionOps 14)).getD #[]) 14, At (lexrSp q bb sl uc ua lo hh X) lexrDl a w jj) :
    wpOp Try.prog ((Try.f3.body.bind (regionOps 14)).getD #[]) Q 14 (fun a' w' => ∃ o v, lexrDl[14]? = some o ∧ a' = a.put o v ∧ Step noF w w' ∧ ∀ pp, (lexrSp q bb sl uc ua lo hh X)[14]? = some pp → pp.1 w' (o.elim undef fun _ => v)) a w := by
  have h94 : a.tmps.getD 94 undef = .bool false := dep hat 2 (by kernel_rfl) (is (.bool false)) 94 rfl rfl
  have h105 : a.tmps.getD 105 undef = .bool false := dep hat 13 (by kernel_rfl) (is (.bool false)) 105 rfl rfl
  refine slot_runs (is (.bool false)) lexrOp14 rfl rfl (wants_none a) (v := .bool false) (w' := w) ?_ (Step.refl _ _) rfl
  intro oo hoo
  simp only [execOp, hoo, Act.eval, Option.map_some, Option.map_none, h94, h105]
  go_simp

theorem lexr_go (q bb sl uc : Nat) (ua : Option Addr) (lo hh : List UInt8) (X : List Rg)  {Q : Exit → Act → World → Prop} (a0 : Act) (w0 : World) (hsz : a0.tmps.size = 208) (h7 : a0.tmps.getD 7 undef = .pointer (some ⟨bb, 0, none⟩)) (h11 : a0.tmps.getD 11 undef = .slice ua sl uc) (h13 : a0.tmps.getD 13 undef = .pointer (some ⟨q, 0, none⟩))
    (hw : ∀ w, Step noF w0 w → (w.cell? ⟨bb, 0, none⟩ = some (.string (str lo))) ∧ (w.cell? ⟨bb, 1, none⟩ = some (.string (str hh))) ∧ (Calls Try.prog 14 #[.pointer (some ⟨q, 0, none⟩)] w fun e w' => ∃ v, e = .returned v ∧ Step noF w w' ∧ (isRgE X).1 w' v) ∧ (Calls Try.prog 19 #[.slice ua sl uc, .agg #[.string (str lo), .string (str hh)]] w fun e w' => ∃ v, e = .returned v ∧ Step noF w w' ∧ (isRgE X).1 w' v) ∧ (∀ a c b d, RgsAt w a X → RgsAt w b X → Calls Try.prog 13 #[.slice a X.length c, .slice b X.length d] w fun e w' => e = .returned (.bool true) ∧ Step noF w w'))
    (hK : ∀ (a : Act) (w : World), Step noF w0 w → a.defers = a0.defers → a.tmps.size = a0.tmps.size → (∀ k, some k ∉ lexrDl → a.tmps.getD k undef = a0.tmps.getD k undef) → a.tmps.getD 106 undef = .bool false → Q .normal a w) : (Code.region 14 ((Try.f3.body.bind (regionOps 14)).getD #[]) true).wp Try.prog Q a0 w0 := by
  refine wp_region_slots2 noF (lexrSp q bb sl uc ua lo hh X) lexrDl (by kernel_rfl) lexr_back lexr_dl lexr_nd (fun d h => by rw [hsz]; exact lexr_lt d h) ?_ ?_
  · intro ix hix a w hs hfr hat
    rw [lexr_size] at hix
    obtain ⟨v0, v1, k0, k1, k2⟩ := hw w hs
    have h7 := (hfr 7 (by decide)).trans h7
    have h11 := (hfr 11 (by decide)).trans h11
    have h13 := (hfr 13 (by decide)).trans h13
    match ix, hix with
    | 0, _ => exact lexrStep0 q bb sl uc ua lo hh X  a w v0 v1 k0 k1 k2 h7 h11 h13 hat
    | 1, _ => exact lexrStep1 q bb sl uc ua lo hh X  a w v0 v1 k0 k1 k2 h7 h11 h13 hat
    | 2, _ => exact lexrStep2 q bb sl uc ua lo hh X  a w v0 v1 k0 k1 k2 h7 h11 h13 hat
    | 3, _ => exact lexrStep3 q bb sl uc ua lo hh X  a w v0 v1 k0 k1 k2 h7 h11 h13 hat
    | 4, _ => exact lexrStep4 q bb sl uc ua lo hh X  a w v0 v1 k0 k1 k2 h7 h11 h13 hat
    | 5, _ => exact lexrStep5 q bb sl uc ua lo hh X  a w v0 v1 k0 k1 k2 h7 h11 h13 hat
    | 6, _ => exact lexrStep6 q bb sl uc ua lo hh X  a w v0 v1 k0 k1 k2 h7 h11 h13 hat
    | 7, _ => exact lexrStep7 q bb sl uc ua lo hh X  a w v0 v1 k0 k1 k2 h7 h11 h13 hat
    | 8, _ => exact lexrStep8 q bb sl uc ua lo hh X  a w v0 v1 k0 k1 k2 h7 h11 h13 hat
    | 9, _ => exact lexrStep9 q bb sl uc ua lo hh X  a w v0 v1 k0 k1 k2 h7 h11 h13 hat
    | 10, _ => exact lexrStep10 q bb sl uc ua lo hh X  a w v0 v1 k0 k1 k2 h7 h11 h13 hat
    | 11, _ => exact lexrStep11 q bb sl uc ua lo hh X  a w v0 v1 k0 k1 k2 h7 h11 h13 hat
    | 12, _ => exact lexrStep12 q bb sl uc ua lo hh X  a w v0 v1 k0 k1 k2 h7 h11 h13 hat
    | 13, _ => exact lexrStep13 q bb sl uc ua lo hh X  a w v0 v1 k0 k1 k2 h7 h11 h13 hat
    | 14, _ => exact lexrStep14 q bb sl uc ua lo hh X  a w v0 v1 k0 k1 k2 h7 h11 h13 hat
    | k + 15, h => exact absurd h (by omega)
  · intro a w hs hd hz hfr hat
    exact hK a w hs hd hz hfr (hat 14 (by rw [lexr_size]; decide) (is (.bool false)) (some 106) rfl rfl)
end Go.Proofs.Ytclaagihmpghnaa
