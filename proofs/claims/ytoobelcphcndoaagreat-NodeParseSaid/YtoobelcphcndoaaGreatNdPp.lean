/-
  A region that draws its order, with one store somewhere in it, into a block that no other operation of it looks at. Nothing of the program is named here.
  The region that draws in grangerref12.Parse (number 18), operation by operation. Written by draw6.py.
  The region that draws in grangerref12.Parse (number 18), operation by operation. Written by draw6.py.
  The region that draws in grangerref12.Parse (number 18), operation by operation. Written by draw6.py.
  The region that draws in grangerref12.Parse (number 35), operation by operation. Written by draw6.py.
  The region that draws in grangerref12.Parse (number 35), operation by operation. Written by draw6.py.
  The region that draws in grangerref12.Parse (number 35), operation by operation. Written by draw6.py.
  The region that draws in grangerref12.Parse (number 35), operation by operation. Written by draw6.py.
-/
import Derived.Test.YtoobelcphcndoaaGreatDraw
import Derived.Test.YtoobelcphcndoaaGreatNdRC
namespace Go.Proofs.YtoobelcphcndoaaGreat
open Go.RowKit
set_option linter.unusedVariables false

theorem keepC {w0 w : World} {rb g j : Nat} {u : Value} (hs : Step (oneF rb) w0 w) (hg : g ≠ rb) (h : w0.cell? ⟨g, j, none⟩ = some u) : w.cell? ⟨g, j, none⟩ = some u :=
  (hs.cell (p := ⟨g, j, none⟩) (fun e => hg e) (World.block_lt_of_cell? w0 _ h)).trans h
section
variable {P : Program} {ops : Array Oper} {Q : Exit → Act → World → Prop}
theorem wp_region_box {id : Nat} {a0 : Act} {w0 : World} (G : Nat → Prop) (st : Nat) (B0 B1 : World → Prop) (Sp : Nat → World → Value → Prop) (mono : ∀ i w w' v, Step G w w' → Sp i w v → Sp i w' v)
    (kd : ∀ w, B0 w → B0 w.drew) (k0 : ∀ w w', Step noF w w' → B0 w → B0 w') (k1 : ∀ w w', Step noF w w' → B1 w → B1 w') (dl : List (Option Nat)) (hm : P.follows .mixedOrders = true) (hb : backB ops = true)
    (hdl : ops.toList.map (·.dst) = dl) (hnd : dl.Pairwise (fun x y => x = none ∨ x ≠ y)) (hlt : ∀ d, some d ∈ dl → d < a0.tmps.size) (hst : st < ops.size) (hds : dl[st]? = some none) (h0 : B0 w0)
    (hstep : ∀ (i : Nat), i < ops.size → i ≠ st → ∀ (a : Act) (w : World), Step G w0 w → (∀ k, some k ∉ dl → a.tmps.getD k undef = a0.tmps.getD k undef) → (∀ j ∈ deps ops i, ∀ d, dl[j]? = some (some d) → Sp j w (a.tmps.getD d undef)) →
      wpOp P ops Q i (fun a' w' => ∃ d v, dl[i]? = some (some d) ∧ a' = a.put (some d) v ∧ Step noF w w' ∧ Sp i w' v) a w)
    (hstore : ∀ (a : Act) (w : World), Step G w0 w → (∀ k, some k ∉ dl → a.tmps.getD k undef = a0.tmps.getD k undef) → (∀ j ∈ deps ops st, ∀ d, dl[j]? = some (some d) → Sp j w (a.tmps.getD d undef)) → B0 w →
      wpOp P ops Q st (fun a' w' => a' = a ∧ Step G w w' ∧ B1 w') a w)
    (hend : ∀ (a : Act) (w : World), Step G w0 w → a.defers = a0.defers → a.tmps.size = a0.tmps.size → (∀ k, some k ∉ dl → a.tmps.getD k undef = a0.tmps.getD k undef) → (∀ j, j < ops.size → ∀ d, dl[j]? = some (some d) → Sp j w (a.tmps.getD d undef)) → B1 w → Q .normal a w) :
    (Code.region id ops true).wp P Q a0 w0 := by
  have hlen : dl.length = ops.size := by rw [← hdl]; simp
  refine wp_region_inv (fun listed a w => a.defers = a0.defers ∧ a.tmps.size = a0.tmps.size ∧ (∀ k, some k ∉ dl → a.tmps.getD k undef = a0.tmps.getD k undef) ∧ Step G w0 w ∧ (∀ j d, listed.getD j false = true → dl[j]? = some (some d) → Sp j w (a.tmps.getD d undef)) ∧ (listed.getD st false = true → B1 w) ∧ (listed.getD st false = false → B0 w)) hm hb
    ?_ ?_ (fun listed a w hall h => hend a w h.2.2.2.1 h.1 h.2.1 h.2.2.1 (fun j hj d hd => h.2.2.2.2.1 j d (hall j hj) hd) (h.2.2.2.2.2.1 (hall st hst)))
  · have hrep : ∀ j, (Array.replicate ops.size false).getD j false = false := fun j => by
      rw [Array.getD_eq_getD_getElem?, Array.getElem?_replicate]
      split <;> rfl
    refine ⟨rfl, rfl, fun _ _ => rfl, (Step.refl G w0).drew, fun j d h => ?_, fun h => ?_, fun _ => kd _ h0⟩
    · rw [hrep] at h; cases h
    · rw [hrep] at h; cases h
  · rintro listed a w i hs hi hil hdep ⟨s1, s2, s3, s4, s5, s6, s7⟩
    by_cases his : i = st
    · subst his
      have hno : listed.getD i false = false := by
        rw [Array.getD_eq_getD_getElem?, Array.getElem?_eq_getElem (by omega)] at hi ⊢
        exact hi
      refine wpOp_mono ?_ (hstore a w s4 s3 (fun j hj d hd => s5 j d (hdep j hj) hd) (s7 hno))
      rintro a' w' ⟨rfl, h1, h2⟩
      refine ⟨s1, s2, s3, s4.trans h1, fun j d hl hd => ?_, fun _ => h2, fun h => ?_⟩
      · by_cases hji : j = i
        · subst hji
          rw [hds] at hd
          cases hd
        · rw [getD_set_ne false (Ne.symm hji)] at hl
          exact mono _ _ _ _ h1 (s5 j d hl hd)
      · rw [Array.getD_eq_getD_getElem?, Array.getElem?_setIfInBounds_self_of_lt (by omega)] at h
        simp at h
    · refine wpOp_mono ?_ (hstep i hil his a w s4 s3 (fun j hj d hd => s5 j d (hdep j hj) hd))
      rintro a' w' ⟨d, v, ho, rfl, hs', hv⟩
      have hsG : Step G w w' := hs'.mono (fun _ h => h.elim)
      refine ⟨s1, by simpa [Act.put] using s2, fun k hk => ?_, s4.trans hsG, fun j d' hl hd' => ?_, fun h => ?_, fun h => ?_⟩
      · rw [put_getD_ne]
        · exact s3 k hk
        · intro e; injection e with e; subst e; exact hk (List.mem_of_getElem? ho)
      · by_cases hji : j = i
        · subst hji
          rw [ho] at hd'
          injection hd' with hd'
          injection hd' with hd'
          subst hd'
          rw [put_getD_self _ _ _ (by rw [s2]; exact hlt _ (List.mem_of_getElem? ho))]
          exact hv
        · rw [getD_set_ne false (Ne.symm hji)] at hl
          rw [put_getD_ne]
          · exact mono _ _ _ _ hsG (s5 j d' hl hd')
          · intro e
            injection e with e
            subst e
            obtain ⟨hi1, f1⟩ := List.getElem?_eq_some_iff.1 ho
            obtain ⟨hj1, f2⟩ := List.getElem?_eq_some_iff.1 hd'
            rw [List.pairwise_iff_getElem] at hnd
            rcases Nat.lt_or_gt_of_ne hji with h | h
            · rcases hnd j i hj1 hi1 h with x | x
              · rw [f2] at x; cases x
              · exact x (f2.trans f1.symm)
            · rcases hnd i j hi1 hj1 h with x | x
              · rw [f1] at x; cases x
              · exact x (f1.trans f2.symm)
      · rw [getD_set_ne false his] at h
        exact k1 _ _ hs' (s6 h)
      · rw [getD_set_ne false his] at h
        exact k0 _ _ hs' (s7 h)
end
end Go.Proofs.YtoobelcphcndoaaGreat
namespace Go.Proofs.YtoobelcphcndoaaGreat
open Go.RowKit
set_option linter.unusedVariables false
set_option linter.unusedSimpArgs false


def npp18bDs : List Nat := [79, 80, 81, 82, 83, 84, 85, 86, 87, 88, 89, 90, 91, 92, 93, 94, 95, 3]
def npp18bDl : List (Option Nat) := [some 79, some 80, some 81, some 82, some 83, some 84, some 85, some 86, some 87, some 88, some 89, some 90, some 91, some 92, some 93, some 94, some 95, none, some 3]
theorem npp18b_dl : ((Tryz.f23.body.bind (regionOps 18)).getD #[]).toList.map (·.dst) = npp18bDl := by kernel_rfl
theorem npp18b_back : backB ((Tryz.f23.body.bind (regionOps 18)).getD #[]) = true := by kernel_rfl
theorem npp18b_size : ((Tryz.f23.body.bind (regionOps 18)).getD #[]).size = 19 := by kernel_rfl
theorem npp18b_nd : npp18bDl.Pairwise (fun x y => x = none ∨ x ≠ y) := by decide
theorem npp18b_lt (d : Nat) (h : some d ∈ npp18bDl) : d < 190 := by
  have hh : npp18bDl.all (fun o => o.all (fun d => decide (d < 190))) = true := by decide
  simpa using List.all_eq_true.1 hh _ h
theorem npp18bOp0 : opIs ((Tryz.f23.body.bind (regionOps 18)).getD #[]) 0 (some 79) (Op.load 29 (Operand.tmp 5)) (none) := opIs_of (by kernel_rfl)
theorem npp18bOp1 : opIs ((Tryz.f23.body.bind (regionOps 18)).getD #[]) 1 (some 80) (Op.move (Operand.tmp 4)) (none) := opIs_of (by kernel_rfl)
theorem npp18bOp2 : opIs ((Tryz.f23.body.bind (regionOps 18)).getD #[]) 2 (some 81) (Op.nilCheck (Operand.tmp 80)) (none) := opIs_of (by kernel_rfl)
theorem npp18bOp3 : opIs ((Tryz.f23.body.bind (regionOps 18)).getD #[]) 3 (some 82) (Op.fieldAddr 106 (Operand.tmp 81) 1) (none) := opIs_of (by kernel_rfl)
theorem npp18bOp4 : opIs ((Tryz.f23.body.bind (regionOps 18)).getD #[]) 4 (some 83) (Op.load 4 (Operand.tmp 82)) (none) := opIs_of (by kernel_rfl)
theorem npp18bOp5 : opIs ((Tryz.f23.body.bind (regionOps 18)).getD #[]) 5 (some 84) (Op.unOp UnOp.not 4 (Operand.tmp 83)) (none) := opIs_of (by kernel_rfl)
theorem npp18bOp6 : opIs ((Tryz.f23.body.bind (regionOps 18)).getD #[]) 6 (some 85) (Op.move (Operand.tmp 84)) (none) := opIs_of (by kernel_rfl)
theorem npp18bOp7 : opIs ((Tryz.f23.body.bind (regionOps 18)).getD #[]) 7 (some 86) (Op.move (Operand.tmp 4)) (some (6, true)) := opIs_of (by kernel_rfl)
theorem npp18bOp8 : opIs ((Tryz.f23.body.bind (regionOps 18)).getD #[]) 8 (some 87) (Op.nilCheck (Operand.tmp 86)) (some (6, true)) := opIs_of (by kernel_rfl)
theorem npp18bOp9 : opIs ((Tryz.f23.body.bind (regionOps 18)).getD #[]) 9 (some 88) (Op.fieldAddr 106 (Operand.tmp 87) 0) (some (6, true)) := opIs_of (by kernel_rfl)
theorem npp18bOp10 : opIs ((Tryz.f23.body.bind (regionOps 18)).getD #[]) 10 (some 89) (Op.load 9 (Operand.tmp 88)) (some (6, true)) := opIs_of (by kernel_rfl)
theorem npp18bOp11 : opIs ((Tryz.f23.body.bind (regionOps 18)).getD #[]) 11 (some 90) (Op.binOp BinOp.eql 9 (Operand.tmp 89) (Operand.const (Value.string { data := #[] })) 9) (some (6, true)) := opIs_of (by kernel_rfl)
theorem npp18bOp12 : opIs ((Tryz.f23.body.bind (regionOps 18)).getD #[]) 12 (some 91) (Op.pick (Operand.tmp 85) (Operand.tmp 90) (Operand.const (Value.bool false))) (none) := opIs_of (by kernel_rfl)
theorem npp18bOp13 : opIs ((Tryz.f23.body.bind (regionOps 18)).getD #[]) 13 (some 92) (Op.move (Operand.tmp 91)) (none) := opIs_of (by kernel_rfl)
theorem npp18bOp14 : opIs ((Tryz.f23.body.bind (regionOps 18)).getD #[]) 14 (some 93) (Op.load 29 (Operand.tmp 5)) (some (13, true)) := opIs_of (by kernel_rfl)
theorem npp18bOp15 : opIs ((Tryz.f23.body.bind (regionOps 18)).getD #[]) 15 (some 94) (Op.call { callee := Callee.value (Operand.func 13), args := #[Operand.tmp 93], argTypes := #[29] }) (some (13, true)) := opIs_of (by kernel_rfl)
theorem npp18bOp16 : opIs ((Tryz.f23.body.bind (regionOps 18)).getD #[]) 16 (some 95) (Op.pick (Operand.tmp 92) (Operand.tmp 94) (Operand.const (Value.bool false))) (none) := opIs_of (by kernel_rfl)
theorem npp18bOp17 : opIs ((Tryz.f23.body.bind (regionOps 18)).getD #[]) 17 (none) (Op.store 29 (Operand.tmp 2) (Operand.tmp 79)) (none) := opIs_of (by kernel_rfl)
theorem npp18bOp18 : opIs ((Tryz.f23.body.bind (regionOps 18)).getD #[]) 18 (some 3) (Op.assign (Operand.tmp 95)) (none) := opIs_of (by kernel_rfl)
/-- What is said of each slot. -/
def npp18bSp (p nb rb : Nat) (va : Option Addr) (n vc : Nat) (S : ByteArray) (F : Bool) (i : Nat) (w : World) (v : Value) : Prop := match i with
  | 0 => v = .agg #[.bool true, .slice va n vc, .slice none 0 0, .slice none 0 0, .slice none 0 0]
  | 1 => v = .pointer (some ⟨p, 0, none⟩)
  | 2 => v = .pointer (some ⟨p, 0, none⟩)
  | 3 => v = .pointer (some ⟨p, 1, none⟩)
  | 4 => v = .bool true
  | 5 => v = .bool false
  | 6 => v = .bool false
  | 7 => v = undef
  | 8 => v = undef
  | 9 => v = undef
  | 10 => v = undef
  | 11 => v = undef
  | 12 => v = .bool false
  | 13 => v = .bool false
  | 14 => v = undef
  | 15 => v = undef
  | 16 => v = .bool false
  | 17 => True
  | 18 => v = .bool false
  | _ => True
theorem npp18bSp_mono (p nb rb : Nat) (va : Option Addr) (n vc : Nat) (S : ByteArray) (F : Bool) : ∀ i w w' v, Step (oneF rb) w w' → npp18bSp p nb rb va n vc S F i w v → npp18bSp p nb rb va n vc S F i w' v := by
  intro i w w' v hs h
  match i with
  | 0 => exact h
  | 1 => exact h
  | 2 => exact h
  | 3 => exact h
  | 4 => exact h
  | 5 => exact h
  | 6 => exact h
  | 7 => exact h
  | 8 => exact h
  | 9 => exact h
  | 10 => exact h
  | 11 => exact h
  | 12 => exact h
  | 13 => exact h
  | 14 => exact h
  | 15 => exact h
  | 16 => exact h
  | 17 => exact h
  | 18 => exact h
  | k + 19 => exact h

set_option maxHeartbeats 4000000 in
set_option maxRecDepth 100000 in
theorem npp18b_go (p nb rb : Nat) (va : Option Addr) (n vc : Nat) (S : ByteArray) (F : Bool) (w0 : World) (hpr0 : p ≠ rb) (hnr0 : nb ≠ rb) (k10 : w0.cell? ⟨p, 1, none⟩ = some (.bool true)) (c00 : w0.cell? ⟨nb, 0, none⟩ = some (.bool true)) (c10 : w0.cell? ⟨nb, 1, none⟩ = some (.slice va n vc)) (c20 : w0.cell? ⟨nb, 2, none⟩ = some (.slice none 0 0)) (c30 : w0.cell? ⟨nb, 3, none⟩ = some (.slice none 0 0)) (c40 : w0.cell? ⟨nb, 4, none⟩ = some (.slice none 0 0))
    {Q : Exit → Act → World → Prop} (a0 : Act) (hsz : a0.tmps.size = 190) (h2 : a0.tmps.getD 2 undef = .pointer (some ⟨rb, 0, none⟩)) (h4 : a0.tmps.getD 4 undef = .pointer (some ⟨p, 0, none⟩)) (h5 : a0.tmps.getD 5 undef = .pointer (some ⟨nb, 0, none⟩))
    (hbox : NdBox w0 rb (.bool false) (.slice none 0 0) (.slice none 0 0) (.slice none 0 0) (.slice none 0 0)) (hend : ∀ (f : Nat → Value) (w : World), Step (oneF rb) w0 w → NdBox w rb (.bool true) (.slice va n vc) (.slice none 0 0) (.slice none 0 0) (.slice none 0 0) → npp18bSp p nb rb va n vc S F 18 w (f 3) → Q .normal (putAll a0 (npp18bDs.map some) (npp18bDs.map f)) w) :
    (Code.region 18 ((Tryz.f23.body.bind (regionOps 18)).getD #[]) true).wp Tryz.prog Q a0 w0 := by
  refine wp_region_box (oneF rb) 17 (fun w => NdBox w rb (.bool false) (.slice none 0 0) (.slice none 0 0) (.slice none 0 0) (.slice none 0 0)) (fun w => NdBox w rb (.bool true) (.slice va n vc) (.slice none 0 0) (.slice none 0 0) (.slice none 0 0)) (npp18bSp p nb rb va n vc S F) (npp18bSp_mono p nb rb va n vc S F) (fun _ h => h) (fun _ _ hs h => h.step hs) (fun _ _ hs h => h.step hs) npp18bDl (by kernel_rfl) npp18b_back npp18b_dl npp18b_nd (fun d h => by rw [hsz]; exact npp18b_lt d h) (by rw [npp18b_size]; decide) rfl hbox ?_ ?_ ?_
  · intro i hi hne a w hs hfr hat
    rw [npp18b_size] at hi
    have n2 := (hfr 2 (by decide)).trans h2
    have n4 := (hfr 4 (by decide)).trans h4
    have n5 := (hfr 5 (by decide)).trans h5
    have hpr : p ≠ rb := hpr0
    have hnr : nb ≠ rb := hnr0
    have k1 : w.cell? ⟨p, 1, none⟩ = some (.bool true) := keepC hs hpr0 k10
    have c0 : w.cell? ⟨nb, 0, none⟩ = some (.bool true) := keepC hs hnr0 c00
    have c1 : w.cell? ⟨nb, 1, none⟩ = some (.slice va n vc) := keepC hs hnr0 c10
    have c2 : w.cell? ⟨nb, 2, none⟩ = some (.slice none 0 0) := keepC hs hnr0 c20
    have c3 : w.cell? ⟨nb, 3, none⟩ = some (.slice none 0 0) := keepC hs hnr0 c30
    have c4 : w.cell? ⟨nb, 4, none⟩ = some (.slice none 0 0) := keepC hs hnr0 c40
    match i, hi with
    | 0, _ =>
      refine op_runs (d := some 79) npp18bOp0 (wants_none a) (v := .agg #[.bool true, .slice va n vc, .slice none 0 0, .slice none 0 0, .slice none 0 0]) (w' := w) ?_ ⟨79, _, rfl, rfl, Step.refl _ _, rfl⟩
      intro oo hoo
      simp only [execOp, hoo, Act.eval, n5]
      go_simp
    | 1, _ =>
      refine op_runs (d := some 80) npp18bOp1 (wants_none a) (v := .pointer (some ⟨p, 0, none⟩)) (w' := w) ?_ ⟨80, _, rfl, rfl, Step.refl _ _, rfl⟩
      intro oo hoo
      simp only [execOp, hoo, Act.eval, n4]
      go_simp
    | 2, _ =>
      have n80 : a.tmps.getD 80 undef = _ := hat 1 (lc (by kernel_rfl)) 80 rfl
      refine op_runs (d := some 81) npp18bOp2 (wants_none a) (v := .pointer (some ⟨p, 0, none⟩)) (w' := w) ?_ ⟨81, _, rfl, rfl, Step.refl _ _, rfl⟩
      intro oo hoo
      simp only [execOp, hoo, Act.eval, n80]
      go_simp
    | 3, _ =>
      have n81 : a.tmps.getD 81 undef = _ := hat 2 (lc (by kernel_rfl)) 81 rfl
      refine op_runs (d := some 82) npp18bOp3 (wants_none a) (v := .pointer (some ⟨p, 1, none⟩)) (w' := w) ?_ ⟨82, _, rfl, rfl, Step.refl _ _, rfl⟩
      intro oo hoo
      simp only [execOp, hoo, Act.eval, n81]
      go_simp
    | 4, _ =>
      have n82 : a.tmps.getD 82 undef = _ := hat 3 (lc (by kernel_rfl)) 82 rfl
      refine op_runs (d := some 83) npp18bOp4 (wants_none a) (v := .bool true) (w' := w) ?_ ⟨83, _, rfl, rfl, Step.refl _ _, rfl⟩
      intro oo hoo
      simp only [execOp, hoo, Act.eval, n82]
      go_simp
    | 5, _ =>
      have n83 : a.tmps.getD 83 undef = _ := hat 4 (lc (by kernel_rfl)) 83 rfl
      refine op_runs (d := some 84) npp18bOp5 (wants_none a) (v := .bool false) (w' := w) ?_ ⟨84, _, rfl, rfl, Step.refl _ _, rfl⟩
      intro oo hoo
      simp only [execOp, hoo, Act.eval, n83]
      go_simp
    | 6, _ =>
      have n84 : a.tmps.getD 84 undef = _ := hat 5 (lc (by kernel_rfl)) 84 rfl
      refine op_runs (d := some 85) npp18bOp6 (wants_none a) (v := .bool false) (w' := w) ?_ ⟨85, _, rfl, rfl, Step.refl _ _, rfl⟩
      intro oo hoo
      simp only [execOp, hoo, Act.eval, n84]
      go_simp
    | 7, _ =>
      have n85 : a.tmps.getD 85 undef = _ := hat 6 (lc (by kernel_rfl)) 85 rfl
      exact op_skip npp18bOp7 (dj := 85) (by kernel_rfl) n85 (by decide) ⟨86, undef, rfl, rfl, Step.refl _ _, rfl⟩
    | 8, _ =>
      have n85 : a.tmps.getD 85 undef = _ := hat 6 (lc (by kernel_rfl)) 85 rfl
      exact op_skip npp18bOp8 (dj := 85) (by kernel_rfl) n85 (by decide) ⟨87, undef, rfl, rfl, Step.refl _ _, rfl⟩
    | 9, _ =>
      have n85 : a.tmps.getD 85 undef = _ := hat 6 (lc (by kernel_rfl)) 85 rfl
      exact op_skip npp18bOp9 (dj := 85) (by kernel_rfl) n85 (by decide) ⟨88, undef, rfl, rfl, Step.refl _ _, rfl⟩
    | 10, _ =>
      have n85 : a.tmps.getD 85 undef = _ := hat 6 (lc (by kernel_rfl)) 85 rfl
      exact op_skip npp18bOp10 (dj := 85) (by kernel_rfl) n85 (by decide) ⟨89, undef, rfl, rfl, Step.refl _ _, rfl⟩
    | 11, _ =>
      have n85 : a.tmps.getD 85 undef = _ := hat 6 (lc (by kernel_rfl)) 85 rfl
      exact op_skip npp18bOp11 (dj := 85) (by kernel_rfl) n85 (by decide) ⟨90, undef, rfl, rfl, Step.refl _ _, rfl⟩
    | 12, _ =>
      have n85 : a.tmps.getD 85 undef = _ := hat 6 (lc (by kernel_rfl)) 85 rfl
      have n90 : a.tmps.getD 90 undef = _ := hat 11 (lc (by kernel_rfl)) 90 rfl
      refine op_runs (d := some 91) npp18bOp12 (wants_none a) (v := .bool false) (w' := w) ?_ ⟨91, _, rfl, rfl, Step.refl _ _, rfl⟩
      intro oo hoo
      simp only [execOp, hoo, Act.eval, n85, n90]
      go_simp
    | 13, _ =>
      have n91 : a.tmps.getD 91 undef = _ := hat 12 (lc (by kernel_rfl)) 91 rfl
      refine op_runs (d := some 92) npp18bOp13 (wants_none a) (v := .bool false) (w' := w) ?_ ⟨92, _, rfl, rfl, Step.refl _ _, rfl⟩
      intro oo hoo
      simp only [execOp, hoo, Act.eval, n91]
      go_simp
    | 14, _ =>
      have n92 : a.tmps.getD 92 undef = _ := hat 13 (lc (by kernel_rfl)) 92 rfl
      exact op_skip npp18bOp14 (dj := 92) (by kernel_rfl) n92 (by decide) ⟨93, undef, rfl, rfl, Step.refl _ _, rfl⟩
    | 15, _ =>
      have n92 : a.tmps.getD 92 undef = _ := hat 13 (lc (by kernel_rfl)) 92 rfl
      exact op_skip npp18bOp15 (dj := 92) (by kernel_rfl) n92 (by decide) ⟨94, undef, rfl, rfl, Step.refl _ _, rfl⟩
    | 16, _ =>
      have n92 : a.tmps.getD 92 undef = _ := hat 13 (lc (by kernel_rfl)) 92 rfl
      have n94 : a.tmps.getD 94 undef = _ := hat 15 (lc (by kernel_rfl)) 94 rfl
      refine op_runs (d := some 95) npp18bOp16 (wants_none a) (v := .bool false) (w' := w) ?_ ⟨95, _, rfl, rfl, Step.refl _ _, rfl⟩
      intro oo hoo
      simp only [execOp, hoo, Act.eval, n92, n94]
      go_simp
    | 17, _ =>
      exact absurd rfl hne
    | 18, _ =>
      have n95 : a.tmps.getD 95 undef = _ := hat 16 (lc (by kernel_rfl)) 95 rfl
      refine op_runs (d := some 3) npp18bOp18 (wants_none a) (v := .bool false) (w' := w) ?_ ⟨3, _, rfl, rfl, Step.refl _ _, rfl⟩
      intro oo hoo
      simp only [execOp, hoo, Act.eval, n95]
      go_simp
    | k + 19, h => exact absurd h (by omega)
  · intro a w hs hfr hat hbx
    have hx : a.tmps.getD 2 undef = _ := (hfr 2 (by decide)).trans h2
    have hy : a.tmps.getD 79 undef = _ := hat 0 (lc (by kernel_rfl)) 79 rfl
    obtain ⟨d0, d1, d2, d3, d4⟩ := hbx.all
    have f0 := hbx.fr 0
    have f1 := hbx.fr 1
    have f2 := hbx.fr 2
    have f3 := hbx.fr 3
    have f4 := hbx.fr 4
    have hr : Skips Tryz.prog a (Op.store 29 (Operand.tmp 2) (Operand.tmp 79)) w (put5 w rb (.bool true) (.slice va n vc) (.slice none 0 0) (.slice none 0 0) (.slice none 0 0)) := by
      intro oo hoo
      simp only [execOp, hoo, Act.eval, hx, hy]
      unfold put5
      go_simp
    exact op_skips npp18bOp17 hr ⟨rfl, step_one5 rb (Step.refl _ _) _ _ _ _ _, hbx.put _ _ _ _ _⟩
  · intro a w hs hdf hs2 hfr hat hbx
    rw [npp18b_size] at hat
    have e := act_vals (a := a) (a0 := a0) npp18bDs (by decide) (fun d hd => by rw [hsz]; exact npp18b_lt d (by revert hd; revert d; decide)) hdf hs2 (fun k hk => hfr k (fun hk2 => hk (by revert hk2; simp [npp18bDl, npp18bDs])))
    rw [e]
    exact hend (fun d => a.tmps.getD d undef) w hs hbx (hat 18 (by omega) 3 rfl)
set_option maxRecDepth 100000 in
theorem npp18b_lit (f : Nat → Value) (D : List Deferred) (x0 x1 x2 x3 x4 x5 x6 x7 x8 x9 x10 x11 x12 x13 x14 x15 x16 x17 x18 x19 x20 x21 x22 x23 x24 x25 x26 x27 x28 x29 x30 x31 x32 x33 x34 x35 x36 x37 x38 x39 x40 x41 x42 x43 x44 x45 x46 x47 x48 x49 x50 x51 x52 x53 x54 x55 x56 x57 x58 x59 x60 x61 x62 x63 x64 x65 x66 x67 x68 x69 x70 x71 x72 x73 x74 x75 x76 x77 x78 x79 x80 x81 x82 x83 x84 x85 x86 x87 x88 x89 x90 x91 x92 x93 x94 x95 x96 x97 x98 x99 x100 x101 x102 x103 x104 x105 x106 x107 x108 x109 x110 x111 x112 x113 x114 x115 x116 x117 x118 x119 x120 x121 x122 x123 x124 x125 x126 x127 x128 x129 x130 x131 x132 x133 x134 x135 x136 x137 x138 x139 x140 x141 x142 x143 x144 x145 x146 x147 x148 x149 x150 x151 x152 x153 x154 x155 x156 x157 x158 x159 x160 x161 x162 x163 x164 x165 x166 x167 x168 x169 x170 x171 x172 x173 x174 x175 x176 x177 x178 x179 x180 x181 x182 x183 x184 x185 x186 x187 x188 x189 : Value) : putAll { tmps := #[x0, x1, x2, x3, x4, x5, x6, x7, x8, x9, x10, x11, x12, x13, x14, x15, x16, x17, x18, x19, x20, x21, x22, x23, x24, x25, x26, x27, x28, x29, x30, x31, x32, x33, x34, x35, x36, x37, x38, x39, x40, x41, x42, x43, x44, x45, x46, x47, x48, x49, x50, x51, x52, x53, x54, x55, x56, x57, x58, x59, x60, x61, x62, x63, x64, x65, x66, x67, x68, x69, x70, x71, x72, x73, x74, x75, x76, x77, x78, x79, x80, x81, x82, x83, x84, x85, x86, x87, x88, x89, x90, x91, x92, x93, x94, x95, x96, x97, x98, x99, x100, x101, x102, x103, x104, x105, x106, x107, x108, x109, x110, x111, x112, x113, x114, x115, x116, x117, x118, x119, x120, x121, x122, x123, x124, x125, x126, x127, x128, x129, x130, x131, x132, x133, x134, x135, x136, x137, x138, x139, x140, x141, x142, x143, x144, x145, x146, x147, x148, x149, x150, x151, x152, x153, x154, x155, x156, x157, x158, x159, x160, x161, x162, x163, x164, x165, x166, x167, x168, x169, x170, x171, x172, x173, x174, x175, x176, x177, x178, x179, x180, x181, x182, x183, x184, x185, x186, x187, x188, x189], defers := D } (npp18bDs.map some) (npp18bDs.map f) = { tmps := #[x0, x1, x2, f 3, x4, x5, x6, x7, x8, x9, x10, x11, x12, x13, x14, x15, x16, x17, x18, x19, x20, x21, x22, x23, x24, x25, x26, x27, x28, x29, x30, x31, x32, x33, x34, x35, x36, x37, x38, x39, x40, x41, x42, x43, x44, x45, x46, x47, x48, x49, x50, x51, x52, x53, x54, x55, x56, x57, x58, x59, x60, x61, x62, x63, x64, x65, x66, x67, x68, x69, x70, x71, x72, x73, x74, x75, x76, x77, x78, f 79, f 80, f 81, f 82, f 83, f 84, f 85, f 86, f 87, f 88, f 89, f 90, f 91, f 92, f 93, f 94, f 95, x96, x97, x98, x99, x100, x101, x102, x103, x104, x105, x106, x107, x108, x109, x110, x111, x112, x113, x114, x115, x116, x117, x118, x119, x120, x121, x122, x123, x124, x125, x126, x127, x128, x129, x130, x131, x132, x133, x134, x135, x136, x137, x138, x139, x140, x141, x142, x143, x144, x145, x146, x147, x148, x149, x150, x151, x152, x153, x154, x155, x156, x157, x158, x159, x160, x161, x162, x163, x164, x165, x166, x167, x168, x169, x170, x171, x172, x173, x174, x175, x176, x177, x178, x179, x180, x181, x182, x183, x184, x185, x186, x187, x188, x189], defers := D } := by kernel_rfl
end Go.Proofs.YtoobelcphcndoaaGreat
namespace Go.Proofs.YtoobelcphcndoaaGreat
open Go.RowKit
set_option linter.unusedVariables false
set_option linter.unusedSimpArgs false


/-- What is said of each slot. -/
def npp18sSp (p nb rb : Nat) (va : Option Addr) (n vc : Nat) (S : ByteArray) (F : Bool) (i : Nat) (w : World) (v : Value) : Prop := match i with
  | 0 => v = .agg #[.bool true, .slice va n vc, .slice none 0 0, .slice none 0 0, .slice none 0 0]
  | 1 => v = .pointer (some ⟨p, 0, none⟩)
  | 2 => v = .pointer (some ⟨p, 0, none⟩)
  | 3 => v = .pointer (some ⟨p, 1, none⟩)
  | 4 => v = .bool false
  | 5 => v = .bool true
  | 6 => v = .bool true
  | 7 => v = .pointer (some ⟨p, 0, none⟩)
  | 8 => v = .pointer (some ⟨p, 0, none⟩)
  | 9 => v = .pointer (some ⟨p, 0, none⟩)
  | 10 => v = .string S
  | 11 => v = .bool false
  | 12 => v = .bool false
  | 13 => v = .bool false
  | 14 => v = undef
  | 15 => v = undef
  | 16 => v = .bool false
  | 17 => True
  | 18 => v = .bool false
  | _ => True
theorem npp18sSp_mono (p nb rb : Nat) (va : Option Addr) (n vc : Nat) (S : ByteArray) (F : Bool) : ∀ i w w' v, Step (oneF rb) w w' → npp18sSp p nb rb va n vc S F i w v → npp18sSp p nb rb va n vc S F i w' v := by
  intro i w w' v hs h
  match i with
  | 0 => exact h
  | 1 => exact h
  | 2 => exact h
  | 3 => exact h
  | 4 => exact h
  | 5 => exact h
  | 6 => exact h
  | 7 => exact h
  | 8 => exact h
  | 9 => exact h
  | 10 => exact h
  | 11 => exact h
  | 12 => exact h
  | 13 => exact h
  | 14 => exact h
  | 15 => exact h
  | 16 => exact h
  | 17 => exact h
  | 18 => exact h
  | k + 19 => exact h

set_option maxHeartbeats 4000000 in
set_option maxRecDepth 100000 in
theorem npp18s_go (p nb rb : Nat) (va : Option Addr) (n vc : Nat) (S : ByteArray) (F : Bool) (w0 : World) (hpr0 : p ≠ rb) (hnr0 : nb ≠ rb) (k10 : w0.cell? ⟨p, 1, none⟩ = some (.bool false)) (c00 : w0.cell? ⟨nb, 0, none⟩ = some (.bool true)) (c10 : w0.cell? ⟨nb, 1, none⟩ = some (.slice va n vc)) (c20 : w0.cell? ⟨nb, 2, none⟩ = some (.slice none 0 0)) (c30 : w0.cell? ⟨nb, 3, none⟩ = some (.slice none 0 0)) (c40 : w0.cell? ⟨nb, 4, none⟩ = some (.slice none 0 0)) (k00 : w0.cell? ⟨p, 0, none⟩ = some (.string S)) (hS0 : ¬ S.toList = [])
    {Q : Exit → Act → World → Prop} (a0 : Act) (hsz : a0.tmps.size = 190) (h2 : a0.tmps.getD 2 undef = .pointer (some ⟨rb, 0, none⟩)) (h4 : a0.tmps.getD 4 undef = .pointer (some ⟨p, 0, none⟩)) (h5 : a0.tmps.getD 5 undef = .pointer (some ⟨nb, 0, none⟩))
    (hbox : NdBox w0 rb (.bool false) (.slice none 0 0) (.slice none 0 0) (.slice none 0 0) (.slice none 0 0)) (hend : ∀ (f : Nat → Value) (w : World), Step (oneF rb) w0 w → NdBox w rb (.bool true) (.slice va n vc) (.slice none 0 0) (.slice none 0 0) (.slice none 0 0) → npp18sSp p nb rb va n vc S F 18 w (f 3) → Q .normal (putAll a0 (npp18bDs.map some) (npp18bDs.map f)) w) :
    (Code.region 18 ((Tryz.f23.body.bind (regionOps 18)).getD #[]) true).wp Tryz.prog Q a0 w0 := by
  refine wp_region_box (oneF rb) 17 (fun w => NdBox w rb (.bool false) (.slice none 0 0) (.slice none 0 0) (.slice none 0 0) (.slice none 0 0)) (fun w => NdBox w rb (.bool true) (.slice va n vc) (.slice none 0 0) (.slice none 0 0) (.slice none 0 0)) (npp18sSp p nb rb va n vc S F) (npp18sSp_mono p nb rb va n vc S F) (fun _ h => h) (fun _ _ hs h => h.step hs) (fun _ _ hs h => h.step hs) npp18bDl (by kernel_rfl) npp18b_back npp18b_dl npp18b_nd (fun d h => by rw [hsz]; exact npp18b_lt d h) (by rw [npp18b_size]; decide) rfl hbox ?_ ?_ ?_
  · intro i hi hne a w hs hfr hat
    rw [npp18b_size] at hi
    have n2 := (hfr 2 (by decide)).trans h2
    have n4 := (hfr 4 (by decide)).trans h4
    have n5 := (hfr 5 (by decide)).trans h5
    have hpr : p ≠ rb := hpr0
    have hnr : nb ≠ rb := hnr0
    have k1 : w.cell? ⟨p, 1, none⟩ = some (.bool false) := keepC hs hpr0 k10
    have c0 : w.cell? ⟨nb, 0, none⟩ = some (.bool true) := keepC hs hnr0 c00
    have c1 : w.cell? ⟨nb, 1, none⟩ = some (.slice va n vc) := keepC hs hnr0 c10
    have c2 : w.cell? ⟨nb, 2, none⟩ = some (.slice none 0 0) := keepC hs hnr0 c20
    have c3 : w.cell? ⟨nb, 3, none⟩ = some (.slice none 0 0) := keepC hs hnr0 c30
    have c4 : w.cell? ⟨nb, 4, none⟩ = some (.slice none 0 0) := keepC hs hnr0 c40
    have k0 : w.cell? ⟨p, 0, none⟩ = some (.string S) := keepC hs hpr0 k00
    have hS : ¬ S.toList = [] := hS0
    match i, hi with
    | 0, _ =>
      refine op_runs (d := some 79) npp18bOp0 (wants_none a) (v := .agg #[.bool true, .slice va n vc, .slice none 0 0, .slice none 0 0, .slice none 0 0]) (w' := w) ?_ ⟨79, _, rfl, rfl, Step.refl _ _, rfl⟩
      intro oo hoo
      simp only [execOp, hoo, Act.eval, n5]
      go_simp
    | 1, _ =>
      refine op_runs (d := some 80) npp18bOp1 (wants_none a) (v := .pointer (some ⟨p, 0, none⟩)) (w' := w) ?_ ⟨80, _, rfl, rfl, Step.refl _ _, rfl⟩
      intro oo hoo
      simp only [execOp, hoo, Act.eval, n4]
      go_simp
    | 2, _ =>
      have n80 : a.tmps.getD 80 undef = _ := hat 1 (lc (by kernel_rfl)) 80 rfl
      refine op_runs (d := some 81) npp18bOp2 (wants_none a) (v := .pointer (some ⟨p, 0, none⟩)) (w' := w) ?_ ⟨81, _, rfl, rfl, Step.refl _ _, rfl⟩
      intro oo hoo
      simp only [execOp, hoo, Act.eval, n80]
      go_simp
    | 3, _ =>
      have n81 : a.tmps.getD 81 undef = _ := hat 2 (lc (by kernel_rfl)) 81 rfl
      refine op_runs (d := some 82) npp18bOp3 (wants_none a) (v := .pointer (some ⟨p, 1, none⟩)) (w' := w) ?_ ⟨82, _, rfl, rfl, Step.refl _ _, rfl⟩
      intro oo hoo
      simp only [execOp, hoo, Act.eval, n81]
      go_simp
    | 4, _ =>
      have n82 : a.tmps.getD 82 undef = _ := hat 3 (lc (by kernel_rfl)) 82 rfl
      refine op_runs (d := some 83) npp18bOp4 (wants_none a) (v := .bool false) (w' := w) ?_ ⟨83, _, rfl, rfl, Step.refl _ _, rfl⟩
      intro oo hoo
      simp only [execOp, hoo, Act.eval, n82]
      go_simp
    | 5, _ =>
      have n83 : a.tmps.getD 83 undef = _ := hat 4 (lc (by kernel_rfl)) 83 rfl
      refine op_runs (d := some 84) npp18bOp5 (wants_none a) (v := .bool true) (w' := w) ?_ ⟨84, _, rfl, rfl, Step.refl _ _, rfl⟩
      intro oo hoo
      simp only [execOp, hoo, Act.eval, n83]
      go_simp
    | 6, _ =>
      have n84 : a.tmps.getD 84 undef = _ := hat 5 (lc (by kernel_rfl)) 84 rfl
      refine op_runs (d := some 85) npp18bOp6 (wants_none a) (v := .bool true) (w' := w) ?_ ⟨85, _, rfl, rfl, Step.refl _ _, rfl⟩
      intro oo hoo
      simp only [execOp, hoo, Act.eval, n84]
      go_simp
    | 7, _ =>
      have n85 : a.tmps.getD 85 undef = _ := hat 6 (lc (by kernel_rfl)) 85 rfl
      refine op_runs (d := some 86) npp18bOp7 (wants_some (d := 85) (b := true) (by kernel_rfl) n85) (v := .pointer (some ⟨p, 0, none⟩)) (w' := w) ?_ ⟨86, _, rfl, rfl, Step.refl _ _, rfl⟩
      intro oo hoo
      simp only [execOp, hoo, Act.eval, n4]
      go_simp
    | 8, _ =>
      have n86 : a.tmps.getD 86 undef = _ := hat 7 (lc (by kernel_rfl)) 86 rfl
      have n85 : a.tmps.getD 85 undef = _ := hat 6 (lc (by kernel_rfl)) 85 rfl
      refine op_runs (d := some 87) npp18bOp8 (wants_some (d := 85) (b := true) (by kernel_rfl) n85) (v := .pointer (some ⟨p, 0, none⟩)) (w' := w) ?_ ⟨87, _, rfl, rfl, Step.refl _ _, rfl⟩
      intro oo hoo
      simp only [execOp, hoo, Act.eval, n86]
      go_simp
    | 9, _ =>
      have n87 : a.tmps.getD 87 undef = _ := hat 8 (lc (by kernel_rfl)) 87 rfl
      have n85 : a.tmps.getD 85 undef = _ := hat 6 (lc (by kernel_rfl)) 85 rfl
      refine op_runs (d := some 88) npp18bOp9 (wants_some (d := 85) (b := true) (by kernel_rfl) n85) (v := .pointer (some ⟨p, 0, none⟩)) (w' := w) ?_ ⟨88, _, rfl, rfl, Step.refl _ _, rfl⟩
      intro oo hoo
      simp only [execOp, hoo, Act.eval, n87]
      go_simp
    | 10, _ =>
      have n88 : a.tmps.getD 88 undef = _ := hat 9 (lc (by kernel_rfl)) 88 rfl
      have n85 : a.tmps.getD 85 undef = _ := hat 6 (lc (by kernel_rfl)) 85 rfl
      refine op_runs (d := some 89) npp18bOp10 (wants_some (d := 85) (b := true) (by kernel_rfl) n85) (v := .string S) (w' := w) ?_ ⟨89, _, rfl, rfl, Step.refl _ _, rfl⟩
      intro oo hoo
      simp only [execOp, hoo, Act.eval, n88]
      go_simp
    | 11, _ =>
      have n89 : a.tmps.getD 89 undef = _ := hat 10 (lc (by kernel_rfl)) 89 rfl
      have n85 : a.tmps.getD 85 undef = _ := hat 6 (lc (by kernel_rfl)) 85 rfl
      refine op_runs (d := some 90) npp18bOp11 (wants_some (d := 85) (b := true) (by kernel_rfl) n85) (v := .bool false) (w' := w) ?_ ⟨90, _, rfl, rfl, Step.refl _ _, rfl⟩
      intro oo hoo
      simp only [execOp, hoo, Act.eval, n89]
      go_simp
    | 12, _ =>
      have n85 : a.tmps.getD 85 undef = _ := hat 6 (lc (by kernel_rfl)) 85 rfl
      have n90 : a.tmps.getD 90 undef = _ := hat 11 (lc (by kernel_rfl)) 90 rfl
      refine op_runs (d := some 91) npp18bOp12 (wants_none a) (v := .bool false) (w' := w) ?_ ⟨91, _, rfl, rfl, Step.refl _ _, rfl⟩
      intro oo hoo
      simp only [execOp, hoo, Act.eval, n85, n90]
      go_simp
    | 13, _ =>
      have n91 : a.tmps.getD 91 undef = _ := hat 12 (lc (by kernel_rfl)) 91 rfl
      refine op_runs (d := some 92) npp18bOp13 (wants_none a) (v := .bool false) (w' := w) ?_ ⟨92, _, rfl, rfl, Step.refl _ _, rfl⟩
      intro oo hoo
      simp only [execOp, hoo, Act.eval, n91]
      go_simp
    | 14, _ =>
      have n92 : a.tmps.getD 92 undef = _ := hat 13 (lc (by kernel_rfl)) 92 rfl
      exact op_skip npp18bOp14 (dj := 92) (by kernel_rfl) n92 (by decide) ⟨93, undef, rfl, rfl, Step.refl _ _, rfl⟩
    | 15, _ =>
      have n92 : a.tmps.getD 92 undef = _ := hat 13 (lc (by kernel_rfl)) 92 rfl
      exact op_skip npp18bOp15 (dj := 92) (by kernel_rfl) n92 (by decide) ⟨94, undef, rfl, rfl, Step.refl _ _, rfl⟩
    | 16, _ =>
      have n92 : a.tmps.getD 92 undef = _ := hat 13 (lc (by kernel_rfl)) 92 rfl
      have n94 : a.tmps.getD 94 undef = _ := hat 15 (lc (by kernel_rfl)) 94 rfl
      refine op_runs (d := some 95) npp18bOp16 (wants_none a) (v := .bool false) (w' := w) ?_ ⟨95, _, rfl, rfl, Step.refl _ _, rfl⟩
      intro oo hoo
      simp only [execOp, hoo, Act.eval, n92, n94]
      go_simp
    | 17, _ =>
      exact absurd rfl hne
    | 18, _ =>
      have n95 : a.tmps.getD 95 undef = _ := hat 16 (lc (by kernel_rfl)) 95 rfl
      refine op_runs (d := some 3) npp18bOp18 (wants_none a) (v := .bool false) (w' := w) ?_ ⟨3, _, rfl, rfl, Step.refl _ _, rfl⟩
      intro oo hoo
      simp only [execOp, hoo, Act.eval, n95]
      go_simp
    | k + 19, h => exact absurd h (by omega)
  · intro a w hs hfr hat hbx
    have hx : a.tmps.getD 2 undef = _ := (hfr 2 (by decide)).trans h2
    have hy : a.tmps.getD 79 undef = _ := hat 0 (lc (by kernel_rfl)) 79 rfl
    obtain ⟨d0, d1, d2, d3, d4⟩ := hbx.all
    have f0 := hbx.fr 0
    have f1 := hbx.fr 1
    have f2 := hbx.fr 2
    have f3 := hbx.fr 3
    have f4 := hbx.fr 4
    have hr : Skips Tryz.prog a (Op.store 29 (Operand.tmp 2) (Operand.tmp 79)) w (put5 w rb (.bool true) (.slice va n vc) (.slice none 0 0) (.slice none 0 0) (.slice none 0 0)) := by
      intro oo hoo
      simp only [execOp, hoo, Act.eval, hx, hy]
      unfold put5
      go_simp
    exact op_skips npp18bOp17 hr ⟨rfl, step_one5 rb (Step.refl _ _) _ _ _ _ _, hbx.put _ _ _ _ _⟩
  · intro a w hs hdf hs2 hfr hat hbx
    rw [npp18b_size] at hat
    have e := act_vals (a := a) (a0 := a0) npp18bDs (by decide) (fun d hd => by rw [hsz]; exact npp18b_lt d (by revert hd; revert d; decide)) hdf hs2 (fun k hk => hfr k (fun hk2 => hk (by revert hk2; simp [npp18bDl, npp18bDs])))
    rw [e]
    exact hend (fun d => a.tmps.getD d undef) w hs hbx (hat 18 (by omega) 3 rfl)
end Go.Proofs.YtoobelcphcndoaaGreat
namespace Go.Proofs.YtoobelcphcndoaaGreat
open Go.RowKit
set_option linter.unusedVariables false
set_option linter.unusedSimpArgs false


/-- What is said of each slot. -/
def npp18fSp (p nb rb : Nat) (va : Option Addr) (n vc : Nat) (S : ByteArray) (F : Bool) (i : Nat) (w : World) (v : Value) : Prop := match i with
  | 0 => v = .agg #[.bool true, .slice va n vc, .slice none 0 0, .slice none 0 0, .slice none 0 0]
  | 1 => v = .pointer (some ⟨p, 0, none⟩)
  | 2 => v = .pointer (some ⟨p, 0, none⟩)
  | 3 => v = .pointer (some ⟨p, 1, none⟩)
  | 4 => v = .bool false
  | 5 => v = .bool true
  | 6 => v = .bool true
  | 7 => v = .pointer (some ⟨p, 0, none⟩)
  | 8 => v = .pointer (some ⟨p, 0, none⟩)
  | 9 => v = .pointer (some ⟨p, 0, none⟩)
  | 10 => v = .string S
  | 11 => v = .bool true
  | 12 => v = .bool true
  | 13 => v = .bool true
  | 14 => v = .agg #[.bool true, .slice va n vc, .slice none 0 0, .slice none 0 0, .slice none 0 0]
  | 15 => v = .bool F
  | 16 => v = .bool F
  | 17 => True
  | 18 => v = .bool F
  | _ => True
theorem npp18fSp_mono (p nb rb : Nat) (va : Option Addr) (n vc : Nat) (S : ByteArray) (F : Bool) : ∀ i w w' v, Step (oneF rb) w w' → npp18fSp p nb rb va n vc S F i w v → npp18fSp p nb rb va n vc S F i w' v := by
  intro i w w' v hs h
  match i with
  | 0 => exact h
  | 1 => exact h
  | 2 => exact h
  | 3 => exact h
  | 4 => exact h
  | 5 => exact h
  | 6 => exact h
  | 7 => exact h
  | 8 => exact h
  | 9 => exact h
  | 10 => exact h
  | 11 => exact h
  | 12 => exact h
  | 13 => exact h
  | 14 => exact h
  | 15 => exact h
  | 16 => exact h
  | 17 => exact h
  | 18 => exact h
  | k + 19 => exact h

set_option maxHeartbeats 4000000 in
set_option maxRecDepth 100000 in
theorem npp18f_go (p nb rb : Nat) (va : Option Addr) (n vc : Nat) (S : ByteArray) (F : Bool) (w0 : World) (hpr0 : p ≠ rb) (hnr0 : nb ≠ rb) (k10 : w0.cell? ⟨p, 1, none⟩ = some (.bool false)) (c00 : w0.cell? ⟨nb, 0, none⟩ = some (.bool true)) (c10 : w0.cell? ⟨nb, 1, none⟩ = some (.slice va n vc)) (c20 : w0.cell? ⟨nb, 2, none⟩ = some (.slice none 0 0)) (c30 : w0.cell? ⟨nb, 3, none⟩ = some (.slice none 0 0)) (c40 : w0.cell? ⟨nb, 4, none⟩ = some (.slice none 0 0)) (k00 : w0.cell? ⟨p, 0, none⟩ = some (.string S)) (hS0 : S.toList = []) (c940 : ∀ w0', Step (oneF rb) w0 w0' → Calls Tryz.prog 13 #[.agg #[.bool true, .slice va n vc, .slice none 0 0, .slice none 0 0, .slice none 0 0]] w0' fun e w0'' => e = .returned (.bool F) ∧ Step noF w0' w0'')
    {Q : Exit → Act → World → Prop} (a0 : Act) (hsz : a0.tmps.size = 190) (h2 : a0.tmps.getD 2 undef = .pointer (some ⟨rb, 0, none⟩)) (h4 : a0.tmps.getD 4 undef = .pointer (some ⟨p, 0, none⟩)) (h5 : a0.tmps.getD 5 undef = .pointer (some ⟨nb, 0, none⟩))
    (hbox : NdBox w0 rb (.bool false) (.slice none 0 0) (.slice none 0 0) (.slice none 0 0) (.slice none 0 0)) (hend : ∀ (f : Nat → Value) (w : World), Step (oneF rb) w0 w → NdBox w rb (.bool true) (.slice va n vc) (.slice none 0 0) (.slice none 0 0) (.slice none 0 0) → npp18fSp p nb rb va n vc S F 18 w (f 3) → Q .normal (putAll a0 (npp18bDs.map some) (npp18bDs.map f)) w) :
    (Code.region 18 ((Tryz.f23.body.bind (regionOps 18)).getD #[]) true).wp Tryz.prog Q a0 w0 := by
  refine wp_region_box (oneF rb) 17 (fun w => NdBox w rb (.bool false) (.slice none 0 0) (.slice none 0 0) (.slice none 0 0) (.slice none 0 0)) (fun w => NdBox w rb (.bool true) (.slice va n vc) (.slice none 0 0) (.slice none 0 0) (.slice none 0 0)) (npp18fSp p nb rb va n vc S F) (npp18fSp_mono p nb rb va n vc S F) (fun _ h => h) (fun _ _ hs h => h.step hs) (fun _ _ hs h => h.step hs) npp18bDl (by kernel_rfl) npp18b_back npp18b_dl npp18b_nd (fun d h => by rw [hsz]; exact npp18b_lt d h) (by rw [npp18b_size]; decide) rfl hbox ?_ ?_ ?_
  · intro i hi hne a w hs hfr hat
    rw [npp18b_size] at hi
    have n2 := (hfr 2 (by decide)).trans h2
    have n4 := (hfr 4 (by decide)).trans h4
    have n5 := (hfr 5 (by decide)).trans h5
    have hpr : p ≠ rb := hpr0
    have hnr : nb ≠ rb := hnr0
    have k1 : w.cell? ⟨p, 1, none⟩ = some (.bool false) := keepC hs hpr0 k10
    have c0 : w.cell? ⟨nb, 0, none⟩ = some (.bool true) := keepC hs hnr0 c00
    have c1 : w.cell? ⟨nb, 1, none⟩ = some (.slice va n vc) := keepC hs hnr0 c10
    have c2 : w.cell? ⟨nb, 2, none⟩ = some (.slice none 0 0) := keepC hs hnr0 c20
    have c3 : w.cell? ⟨nb, 3, none⟩ = some (.slice none 0 0) := keepC hs hnr0 c30
    have c4 : w.cell? ⟨nb, 4, none⟩ = some (.slice none 0 0) := keepC hs hnr0 c40
    have k0 : w.cell? ⟨p, 0, none⟩ = some (.string S) := keepC hs hpr0 k00
    have hS : S.toList = [] := hS0
    have c94 : ∀ w', Step (oneF rb) w w' → Calls Tryz.prog 13 #[.agg #[.bool true, .slice va n vc, .slice none 0 0, .slice none 0 0, .slice none 0 0]] w' fun e w'' => e = .returned (.bool F) ∧ Step noF w' w'' := fun w' s' => c940 w' (hs.trans s')
    match i, hi with
    | 0, _ =>
      refine op_runs (d := some 79) npp18bOp0 (wants_none a) (v := .agg #[.bool true, .slice va n vc, .slice none 0 0, .slice none 0 0, .slice none 0 0]) (w' := w) ?_ ⟨79, _, rfl, rfl, Step.refl _ _, rfl⟩
      intro oo hoo
      simp only [execOp, hoo, Act.eval, n5]
      go_simp
    | 1, _ =>
      refine op_runs (d := some 80) npp18bOp1 (wants_none a) (v := .pointer (some ⟨p, 0, none⟩)) (w' := w) ?_ ⟨80, _, rfl, rfl, Step.refl _ _, rfl⟩
      intro oo hoo
      simp only [execOp, hoo, Act.eval, n4]
      go_simp
    | 2, _ =>
      have n80 : a.tmps.getD 80 undef = _ := hat 1 (lc (by kernel_rfl)) 80 rfl
      refine op_runs (d := some 81) npp18bOp2 (wants_none a) (v := .pointer (some ⟨p, 0, none⟩)) (w' := w) ?_ ⟨81, _, rfl, rfl, Step.refl _ _, rfl⟩
      intro oo hoo
      simp only [execOp, hoo, Act.eval, n80]
      go_simp
    | 3, _ =>
      have n81 : a.tmps.getD 81 undef = _ := hat 2 (lc (by kernel_rfl)) 81 rfl
      refine op_runs (d := some 82) npp18bOp3 (wants_none a) (v := .pointer (some ⟨p, 1, none⟩)) (w' := w) ?_ ⟨82, _, rfl, rfl, Step.refl _ _, rfl⟩
      intro oo hoo
      simp only [execOp, hoo, Act.eval, n81]
      go_simp
    | 4, _ =>
      have n82 : a.tmps.getD 82 undef = _ := hat 3 (lc (by kernel_rfl)) 82 rfl
      refine op_runs (d := some 83) npp18bOp4 (wants_none a) (v := .bool false) (w' := w) ?_ ⟨83, _, rfl, rfl, Step.refl _ _, rfl⟩
      intro oo hoo
      simp only [execOp, hoo, Act.eval, n82]
      go_simp
    | 5, _ =>
      have n83 : a.tmps.getD 83 undef = _ := hat 4 (lc (by kernel_rfl)) 83 rfl
      refine op_runs (d := some 84) npp18bOp5 (wants_none a) (v := .bool true) (w' := w) ?_ ⟨84, _, rfl, rfl, Step.refl _ _, rfl⟩
      intro oo hoo
      simp only [execOp, hoo, Act.eval, n83]
      go_simp
    | 6, _ =>
      have n84 : a.tmps.getD 84 undef = _ := hat 5 (lc (by kernel_rfl)) 84 rfl
      refine op_runs (d := some 85) npp18bOp6 (wants_none a) (v := .bool true) (w' := w) ?_ ⟨85, _, rfl, rfl, Step.refl _ _, rfl⟩
      intro oo hoo
      simp only [execOp, hoo, Act.eval, n84]
      go_simp
    | 7, _ =>
      have n85 : a.tmps.getD 85 undef = _ := hat 6 (lc (by kernel_rfl)) 85 rfl
      refine op_runs (d := some 86) npp18bOp7 (wants_some (d := 85) (b := true) (by kernel_rfl) n85) (v := .pointer (some ⟨p, 0, none⟩)) (w' := w) ?_ ⟨86, _, rfl, rfl, Step.refl _ _, rfl⟩
      intro oo hoo
      simp only [execOp, hoo, Act.eval, n4]
      go_simp
    | 8, _ =>
      have n86 : a.tmps.getD 86 undef = _ := hat 7 (lc (by kernel_rfl)) 86 rfl
      have n85 : a.tmps.getD 85 undef = _ := hat 6 (lc (by kernel_rfl)) 85 rfl
      refine op_runs (d := some 87) npp18bOp8 (wants_some (d := 85) (b := true) (by kernel_rfl) n85) (v := .pointer (some ⟨p, 0, none⟩)) (w' := w) ?_ ⟨87, _, rfl, rfl, Step.refl _ _, rfl⟩
      intro oo hoo
      simp only [execOp, hoo, Act.eval, n86]
      go_simp
    | 9, _ =>
      have n87 : a.tmps.getD 87 undef = _ := hat 8 (lc (by kernel_rfl)) 87 rfl
      have n85 : a.tmps.getD 85 undef = _ := hat 6 (lc (by kernel_rfl)) 85 rfl
      refine op_runs (d := some 88) npp18bOp9 (wants_some (d := 85) (b := true) (by kernel_rfl) n85) (v := .pointer (some ⟨p, 0, none⟩)) (w' := w) ?_ ⟨88, _, rfl, rfl, Step.refl _ _, rfl⟩
      intro oo hoo
      simp only [execOp, hoo, Act.eval, n87]
      go_simp
    | 10, _ =>
      have n88 : a.tmps.getD 88 undef = _ := hat 9 (lc (by kernel_rfl)) 88 rfl
      have n85 : a.tmps.getD 85 undef = _ := hat 6 (lc (by kernel_rfl)) 85 rfl
      refine op_runs (d := some 89) npp18bOp10 (wants_some (d := 85) (b := true) (by kernel_rfl) n85) (v := .string S) (w' := w) ?_ ⟨89, _, rfl, rfl, Step.refl _ _, rfl⟩
      intro oo hoo
      simp only [execOp, hoo, Act.eval, n88]
      go_simp
    | 11, _ =>
      have n89 : a.tmps.getD 89 undef = _ := hat 10 (lc (by kernel_rfl)) 89 rfl
      have n85 : a.tmps.getD 85 undef = _ := hat 6 (lc (by kernel_rfl)) 85 rfl
      refine op_runs (d := some 90) npp18bOp11 (wants_some (d := 85) (b := true) (by kernel_rfl) n85) (v := .bool true) (w' := w) ?_ ⟨90, _, rfl, rfl, Step.refl _ _, rfl⟩
      intro oo hoo
      simp only [execOp, hoo, Act.eval, n89]
      go_simp
    | 12, _ =>
      have n85 : a.tmps.getD 85 undef = _ := hat 6 (lc (by kernel_rfl)) 85 rfl
      have n90 : a.tmps.getD 90 undef = _ := hat 11 (lc (by kernel_rfl)) 90 rfl
      refine op_runs (d := some 91) npp18bOp12 (wants_none a) (v := .bool true) (w' := w) ?_ ⟨91, _, rfl, rfl, Step.refl _ _, rfl⟩
      intro oo hoo
      simp only [execOp, hoo, Act.eval, n85, n90]
      go_simp
    | 13, _ =>
      have n91 : a.tmps.getD 91 undef = _ := hat 12 (lc (by kernel_rfl)) 91 rfl
      refine op_runs (d := some 92) npp18bOp13 (wants_none a) (v := .bool true) (w' := w) ?_ ⟨92, _, rfl, rfl, Step.refl _ _, rfl⟩
      intro oo hoo
      simp only [execOp, hoo, Act.eval, n91]
      go_simp
    | 14, _ =>
      have n92 : a.tmps.getD 92 undef = _ := hat 13 (lc (by kernel_rfl)) 92 rfl
      refine op_runs (d := some 93) npp18bOp14 (wants_some (d := 92) (b := true) (by kernel_rfl) n92) (v := .agg #[.bool true, .slice va n vc, .slice none 0 0, .slice none 0 0, .slice none 0 0]) (w' := w) ?_ ⟨93, _, rfl, rfl, Step.refl _ _, rfl⟩
      intro oo hoo
      simp only [execOp, hoo, Act.eval, n5]
      go_simp
    | 15, _ =>
      have n93 : a.tmps.getD 93 undef = _ := hat 14 (lc (by kernel_rfl)) 93 rfl
      have n92 : a.tmps.getD 92 undef = _ := hat 13 (lc (by kernel_rfl)) 92 rfl
      refine op_calls npp18bOp15 (wants_some (d := 92) (b := true) (by kernel_rfl) n92) Tryz.func13 (by kernel_rfl) (by kernel_rfl) (args := #[.agg #[.bool true, .slice va n vc, .slice none 0 0, .slice none 0 0, .slice none 0 0]]) (by simp [Act.eval, n93]) ((c94 w (Step.refl _ _)).mono ?_)
      rintro e w' ⟨rfl, s'⟩
      exact ⟨_, rfl, 94, _, rfl, rfl, s', rfl⟩
    | 16, _ =>
      have n92 : a.tmps.getD 92 undef = _ := hat 13 (lc (by kernel_rfl)) 92 rfl
      have n94 : a.tmps.getD 94 undef = _ := hat 15 (lc (by kernel_rfl)) 94 rfl
      refine op_runs (d := some 95) npp18bOp16 (wants_none a) (v := .bool F) (w' := w) ?_ ⟨95, _, rfl, rfl, Step.refl _ _, rfl⟩
      intro oo hoo
      simp only [execOp, hoo, Act.eval, n92, n94]
      go_simp
    | 17, _ =>
      exact absurd rfl hne
    | 18, _ =>
      have n95 : a.tmps.getD 95 undef = _ := hat 16 (lc (by kernel_rfl)) 95 rfl
      refine op_runs (d := some 3) npp18bOp18 (wants_none a) (v := .bool F) (w' := w) ?_ ⟨3, _, rfl, rfl, Step.refl _ _, rfl⟩
      intro oo hoo
      simp only [execOp, hoo, Act.eval, n95]
      go_simp
    | k + 19, h => exact absurd h (by omega)
  · intro a w hs hfr hat hbx
    have hx : a.tmps.getD 2 undef = _ := (hfr 2 (by decide)).trans h2
    have hy : a.tmps.getD 79 undef = _ := hat 0 (lc (by kernel_rfl)) 79 rfl
    obtain ⟨d0, d1, d2, d3, d4⟩ := hbx.all
    have f0 := hbx.fr 0
    have f1 := hbx.fr 1
    have f2 := hbx.fr 2
    have f3 := hbx.fr 3
    have f4 := hbx.fr 4
    have hr : Skips Tryz.prog a (Op.store 29 (Operand.tmp 2) (Operand.tmp 79)) w (put5 w rb (.bool true) (.slice va n vc) (.slice none 0 0) (.slice none 0 0) (.slice none 0 0)) := by
      intro oo hoo
      simp only [execOp, hoo, Act.eval, hx, hy]
      unfold put5
      go_simp
    exact op_skips npp18bOp17 hr ⟨rfl, step_one5 rb (Step.refl _ _) _ _ _ _ _, hbx.put _ _ _ _ _⟩
  · intro a w hs hdf hs2 hfr hat hbx
    rw [npp18b_size] at hat
    have e := act_vals (a := a) (a0 := a0) npp18bDs (by decide) (fun d hd => by rw [hsz]; exact npp18b_lt d (by revert hd; revert d; decide)) hdf hs2 (fun k hk => hfr k (fun hk2 => hk (by revert hk2; simp [npp18bDl, npp18bDs])))
    rw [e]
    exact hend (fun d => a.tmps.getD d undef) w hs hbx (hat 18 (by omega) 3 rfl)
end Go.Proofs.YtoobelcphcndoaaGreat
namespace Go.Proofs.YtoobelcphcndoaaGreat
open Go.RowKit
set_option linter.unusedVariables false
set_option linter.unusedSimpArgs false


def npp35bDs : List Nat := [164, 165, 166, 167, 168, 169, 170, 171, 172, 173, 174, 175, 176, 177, 178, 179, 180, 181, 182, 183, 184, 185, 186, 187, 188, 189, 3]
def npp35bDl : List (Option Nat) := [some 164, some 165, some 166, some 167, some 168, some 169, some 170, some 171, some 172, some 173, some 174, some 175, some 176, some 177, some 178, some 179, some 180, some 181, some 182, some 183, some 184, some 185, some 186, some 187, some 188, some 189, none, some 3]
theorem npp35b_dl : ((Tryz.f23.body.bind (regionOps 35)).getD #[]).toList.map (·.dst) = npp35bDl := by kernel_rfl
theorem npp35b_back : backB ((Tryz.f23.body.bind (regionOps 35)).getD #[]) = true := by kernel_rfl
theorem npp35b_size : ((Tryz.f23.body.bind (regionOps 35)).getD #[]).size = 28 := by kernel_rfl
theorem npp35b_nd : npp35bDl.Pairwise (fun x y => x = none ∨ x ≠ y) := by decide
theorem npp35b_lt (d : Nat) (h : some d ∈ npp35bDl) : d < 190 := by
  have hh : npp35bDl.all (fun o => o.all (fun d => decide (d < 190))) = true := by decide
  simpa using List.all_eq_true.1 hh _ h
theorem npp35bOp0 : opIs ((Tryz.f23.body.bind (regionOps 35)).getD #[]) 0 (some 164) (Op.load 29 (Operand.tmp 5)) (none) := opIs_of (by kernel_rfl)
theorem npp35bOp1 : opIs ((Tryz.f23.body.bind (regionOps 35)).getD #[]) 1 (some 165) (Op.move (Operand.tmp 4)) (none) := opIs_of (by kernel_rfl)
theorem npp35bOp2 : opIs ((Tryz.f23.body.bind (regionOps 35)).getD #[]) 2 (some 166) (Op.nilCheck (Operand.tmp 165)) (none) := opIs_of (by kernel_rfl)
theorem npp35bOp3 : opIs ((Tryz.f23.body.bind (regionOps 35)).getD #[]) 3 (some 167) (Op.fieldAddr 106 (Operand.tmp 166) 1) (none) := opIs_of (by kernel_rfl)
theorem npp35bOp4 : opIs ((Tryz.f23.body.bind (regionOps 35)).getD #[]) 4 (some 168) (Op.load 4 (Operand.tmp 167)) (none) := opIs_of (by kernel_rfl)
theorem npp35bOp5 : opIs ((Tryz.f23.body.bind (regionOps 35)).getD #[]) 5 (some 169) (Op.unOp UnOp.not 4 (Operand.tmp 168)) (none) := opIs_of (by kernel_rfl)
theorem npp35bOp6 : opIs ((Tryz.f23.body.bind (regionOps 35)).getD #[]) 6 (some 170) (Op.move (Operand.tmp 169)) (none) := opIs_of (by kernel_rfl)
theorem npp35bOp7 : opIs ((Tryz.f23.body.bind (regionOps 35)).getD #[]) 7 (some 171) (Op.move (Operand.tmp 4)) (some (6, true)) := opIs_of (by kernel_rfl)
theorem npp35bOp8 : opIs ((Tryz.f23.body.bind (regionOps 35)).getD #[]) 8 (some 172) (Op.nilCheck (Operand.tmp 171)) (some (6, true)) := opIs_of (by kernel_rfl)
theorem npp35bOp9 : opIs ((Tryz.f23.body.bind (regionOps 35)).getD #[]) 9 (some 173) (Op.fieldAddr 106 (Operand.tmp 172) 0) (some (6, true)) := opIs_of (by kernel_rfl)
theorem npp35bOp10 : opIs ((Tryz.f23.body.bind (regionOps 35)).getD #[]) 10 (some 174) (Op.load 9 (Operand.tmp 173)) (some (6, true)) := opIs_of (by kernel_rfl)
theorem npp35bOp11 : opIs ((Tryz.f23.body.bind (regionOps 35)).getD #[]) 11 (some 175) (Op.binOp BinOp.eql 9 (Operand.tmp 174) (Operand.const (Value.string { data := #[] })) 9) (some (6, true)) := opIs_of (by kernel_rfl)
theorem npp35bOp12 : opIs ((Tryz.f23.body.bind (regionOps 35)).getD #[]) 12 (some 176) (Op.pick (Operand.tmp 170) (Operand.tmp 175) (Operand.const (Value.bool false))) (none) := opIs_of (by kernel_rfl)
theorem npp35bOp13 : opIs ((Tryz.f23.body.bind (regionOps 35)).getD #[]) 13 (some 177) (Op.move (Operand.tmp 176)) (none) := opIs_of (by kernel_rfl)
theorem npp35bOp14 : opIs ((Tryz.f23.body.bind (regionOps 35)).getD #[]) 14 (some 178) (Op.fieldAddr 29 (Operand.tmp 5) 2) (some (13, true)) := opIs_of (by kernel_rfl)
theorem npp35bOp15 : opIs ((Tryz.f23.body.bind (regionOps 35)).getD #[]) 15 (some 179) (Op.fieldAddr 27 (Operand.tmp 178) 0) (some (13, true)) := opIs_of (by kernel_rfl)
theorem npp35bOp16 : opIs ((Tryz.f23.body.bind (regionOps 35)).getD #[]) 16 (some 180) (Op.load 23 (Operand.tmp 179)) (some (13, true)) := opIs_of (by kernel_rfl)
theorem npp35bOp17 : opIs ((Tryz.f23.body.bind (regionOps 35)).getD #[]) 17 (some 181) (Op.fieldAddr 29 (Operand.tmp 5) 2) (some (13, true)) := opIs_of (by kernel_rfl)
theorem npp35bOp18 : opIs ((Tryz.f23.body.bind (regionOps 35)).getD #[]) 18 (some 182) (Op.fieldAddr 27 (Operand.tmp 181) 1) (some (13, true)) := opIs_of (by kernel_rfl)
theorem npp35bOp19 : opIs ((Tryz.f23.body.bind (regionOps 35)).getD #[]) 19 (some 183) (Op.load 24 (Operand.tmp 182)) (some (13, true)) := opIs_of (by kernel_rfl)
theorem npp35bOp20 : opIs ((Tryz.f23.body.bind (regionOps 35)).getD #[]) 20 (some 184) (Op.call { callee := Callee.value (Operand.func 59), args := #[Operand.tmp 180, Operand.tmp 183], argTypes := #[23, 24] }) (some (13, true)) := opIs_of (by kernel_rfl)
theorem npp35bOp21 : opIs ((Tryz.f23.body.bind (regionOps 35)).getD #[]) 21 (some 185) (Op.pick (Operand.tmp 177) (Operand.tmp 184) (Operand.const (Value.bool false))) (none) := opIs_of (by kernel_rfl)
theorem npp35bOp22 : opIs ((Tryz.f23.body.bind (regionOps 35)).getD #[]) 22 (some 186) (Op.move (Operand.tmp 185)) (none) := opIs_of (by kernel_rfl)
theorem npp35bOp23 : opIs ((Tryz.f23.body.bind (regionOps 35)).getD #[]) 23 (some 187) (Op.load 29 (Operand.tmp 5)) (some (22, true)) := opIs_of (by kernel_rfl)
theorem npp35bOp24 : opIs ((Tryz.f23.body.bind (regionOps 35)).getD #[]) 24 (some 188) (Op.call { callee := Callee.value (Operand.func 13), args := #[Operand.tmp 187], argTypes := #[29] }) (some (22, true)) := opIs_of (by kernel_rfl)
theorem npp35bOp25 : opIs ((Tryz.f23.body.bind (regionOps 35)).getD #[]) 25 (some 189) (Op.pick (Operand.tmp 186) (Operand.tmp 188) (Operand.const (Value.bool false))) (none) := opIs_of (by kernel_rfl)
theorem npp35bOp26 : opIs ((Tryz.f23.body.bind (regionOps 35)).getD #[]) 26 (none) (Op.store 29 (Operand.tmp 2) (Operand.tmp 164)) (none) := opIs_of (by kernel_rfl)
theorem npp35bOp27 : opIs ((Tryz.f23.body.bind (regionOps 35)).getD #[]) 27 (some 3) (Op.assign (Operand.tmp 189)) (none) := opIs_of (by kernel_rfl)
/-- What is said of each slot. -/
def npp35bSp (p nb rb : Nat) (ka pa ma : Option Addr) (nk kc np pc nm mc : Nat) (S : ByteArray) (F : Bool) (i : Nat) (w : World) (v : Value) : Prop := match i with
  | 0 => v = .agg #[.bool false, .slice none 0 0, .slice ka nk kc, .slice pa np pc, .slice ma nm mc]
  | 1 => v = .pointer (some ⟨p, 0, none⟩)
  | 2 => v = .pointer (some ⟨p, 0, none⟩)
  | 3 => v = .pointer (some ⟨p, 1, none⟩)
  | 4 => v = .bool true
  | 5 => v = .bool false
  | 6 => v = .bool false
  | 7 => v = undef
  | 8 => v = undef
  | 9 => v = undef
  | 10 => v = undef
  | 11 => v = undef
  | 12 => v = .bool false
  | 13 => v = .bool false
  | 14 => v = undef
  | 15 => v = undef
  | 16 => v = undef
  | 17 => v = undef
  | 18 => v = undef
  | 19 => v = undef
  | 20 => v = undef
  | 21 => v = .bool false
  | 22 => v = .bool false
  | 23 => v = undef
  | 24 => v = undef
  | 25 => v = .bool false
  | 26 => True
  | 27 => v = .bool false
  | _ => True
theorem npp35bSp_mono (p nb rb : Nat) (ka pa ma : Option Addr) (nk kc np pc nm mc : Nat) (S : ByteArray) (F : Bool) : ∀ i w w' v, Step (oneF rb) w w' → npp35bSp p nb rb ka pa ma nk kc np pc nm mc S F i w v → npp35bSp p nb rb ka pa ma nk kc np pc nm mc S F i w' v := by
  intro i w w' v hs h
  match i with
  | 0 => exact h
  | 1 => exact h
  | 2 => exact h
  | 3 => exact h
  | 4 => exact h
  | 5 => exact h
  | 6 => exact h
  | 7 => exact h
  | 8 => exact h
  | 9 => exact h
  | 10 => exact h
  | 11 => exact h
  | 12 => exact h
  | 13 => exact h
  | 14 => exact h
  | 15 => exact h
  | 16 => exact h
  | 17 => exact h
  | 18 => exact h
  | 19 => exact h
  | 20 => exact h
  | 21 => exact h
  | 22 => exact h
  | 23 => exact h
  | 24 => exact h
  | 25 => exact h
  | 26 => exact h
  | 27 => exact h
  | k + 28 => exact h

set_option maxHeartbeats 4000000 in
set_option maxRecDepth 100000 in
theorem npp35b_go (p nb rb : Nat) (ka pa ma : Option Addr) (nk kc np pc nm mc : Nat) (S : ByteArray) (F : Bool) (w0 : World) (hpr0 : p ≠ rb) (hnr0 : nb ≠ rb) (k10 : w0.cell? ⟨p, 1, none⟩ = some (.bool true)) (c00 : w0.cell? ⟨nb, 0, none⟩ = some (.bool false)) (c10 : w0.cell? ⟨nb, 1, none⟩ = some (.slice none 0 0)) (c20 : w0.cell? ⟨nb, 2, none⟩ = some (.slice ka nk kc)) (c30 : w0.cell? ⟨nb, 3, none⟩ = some (.slice pa np pc)) (c40 : w0.cell? ⟨nb, 4, none⟩ = some (.slice ma nm mc))
    {Q : Exit → Act → World → Prop} (a0 : Act) (hsz : a0.tmps.size = 190) (h2 : a0.tmps.getD 2 undef = .pointer (some ⟨rb, 0, none⟩)) (h4 : a0.tmps.getD 4 undef = .pointer (some ⟨p, 0, none⟩)) (h5 : a0.tmps.getD 5 undef = .pointer (some ⟨nb, 0, none⟩))
    (hbox : NdBox w0 rb (.bool false) (.slice none 0 0) (.slice none 0 0) (.slice none 0 0) (.slice none 0 0)) (hend : ∀ (f : Nat → Value) (w : World), Step (oneF rb) w0 w → NdBox w rb (.bool false) (.slice none 0 0) (.slice ka nk kc) (.slice pa np pc) (.slice ma nm mc) → npp35bSp p nb rb ka pa ma nk kc np pc nm mc S F 27 w (f 3) → Q .normal (putAll a0 (npp35bDs.map some) (npp35bDs.map f)) w) :
    (Code.region 35 ((Tryz.f23.body.bind (regionOps 35)).getD #[]) true).wp Tryz.prog Q a0 w0 := by
  refine wp_region_box (oneF rb) 26 (fun w => NdBox w rb (.bool false) (.slice none 0 0) (.slice none 0 0) (.slice none 0 0) (.slice none 0 0)) (fun w => NdBox w rb (.bool false) (.slice none 0 0) (.slice ka nk kc) (.slice pa np pc) (.slice ma nm mc)) (npp35bSp p nb rb ka pa ma nk kc np pc nm mc S F) (npp35bSp_mono p nb rb ka pa ma nk kc np pc nm mc S F) (fun _ h => h) (fun _ _ hs h => h.step hs) (fun _ _ hs h => h.step hs) npp35bDl (by kernel_rfl) npp35b_back npp35b_dl npp35b_nd (fun d h => by rw [hsz]; exact npp35b_lt d h) (by rw [npp35b_size]; decide) rfl hbox ?_ ?_ ?_
  · intro i hi hne a w hs hfr hat
    rw [npp35b_size] at hi
    have n2 := (hfr 2 (by decide)).trans h2
    have n4 := (hfr 4 (by decide)).trans h4
    have n5 := (hfr 5 (by decide)).trans h5
    have hpr : p ≠ rb := hpr0
    have hnr : nb ≠ rb := hnr0
    have k1 : w.cell? ⟨p, 1, none⟩ = some (.bool true) := keepC hs hpr0 k10
    have c0 : w.cell? ⟨nb, 0, none⟩ = some (.bool false) := keepC hs hnr0 c00
    have c1 : w.cell? ⟨nb, 1, none⟩ = some (.slice none 0 0) := keepC hs hnr0 c10
    have c2 : w.cell? ⟨nb, 2, none⟩ = some (.slice ka nk kc) := keepC hs hnr0 c20
    have c3 : w.cell? ⟨nb, 3, none⟩ = some (.slice pa np pc) := keepC hs hnr0 c30
    have c4 : w.cell? ⟨nb, 4, none⟩ = some (.slice ma nm mc) := keepC hs hnr0 c40
    match i, hi with
    | 0, _ =>
      refine op_runs (d := some 164) npp35bOp0 (wants_none a) (v := .agg #[.bool false, .slice none 0 0, .slice ka nk kc, .slice pa np pc, .slice ma nm mc]) (w' := w) ?_ ⟨164, _, rfl, rfl, Step.refl _ _, rfl⟩
      intro oo hoo
      simp only [execOp, hoo, Act.eval, n5]
      go_simp
    | 1, _ =>
      refine op_runs (d := some 165) npp35bOp1 (wants_none a) (v := .pointer (some ⟨p, 0, none⟩)) (w' := w) ?_ ⟨165, _, rfl, rfl, Step.refl _ _, rfl⟩
      intro oo hoo
      simp only [execOp, hoo, Act.eval, n4]
      go_simp
    | 2, _ =>
      have n165 : a.tmps.getD 165 undef = _ := hat 1 (lc (by kernel_rfl)) 165 rfl
      refine op_runs (d := some 166) npp35bOp2 (wants_none a) (v := .pointer (some ⟨p, 0, none⟩)) (w' := w) ?_ ⟨166, _, rfl, rfl, Step.refl _ _, rfl⟩
      intro oo hoo
      simp only [execOp, hoo, Act.eval, n165]
      go_simp
    | 3, _ =>
      have n166 : a.tmps.getD 166 undef = _ := hat 2 (lc (by kernel_rfl)) 166 rfl
      refine op_runs (d := some 167) npp35bOp3 (wants_none a) (v := .pointer (some ⟨p, 1, none⟩)) (w' := w) ?_ ⟨167, _, rfl, rfl, Step.refl _ _, rfl⟩
      intro oo hoo
      simp only [execOp, hoo, Act.eval, n166]
      go_simp
    | 4, _ =>
      have n167 : a.tmps.getD 167 undef = _ := hat 3 (lc (by kernel_rfl)) 167 rfl
      refine op_runs (d := some 168) npp35bOp4 (wants_none a) (v := .bool true) (w' := w) ?_ ⟨168, _, rfl, rfl, Step.refl _ _, rfl⟩
      intro oo hoo
      simp only [execOp, hoo, Act.eval, n167]
      go_simp
    | 5, _ =>
      have n168 : a.tmps.getD 168 undef = _ := hat 4 (lc (by kernel_rfl)) 168 rfl
      refine op_runs (d := some 169) npp35bOp5 (wants_none a) (v := .bool false) (w' := w) ?_ ⟨169, _, rfl, rfl, Step.refl _ _, rfl⟩
      intro oo hoo
      simp only [execOp, hoo, Act.eval, n168]
      go_simp
    | 6, _ =>
      have n169 : a.tmps.getD 169 undef = _ := hat 5 (lc (by kernel_rfl)) 169 rfl
      refine op_runs (d := some 170) npp35bOp6 (wants_none a) (v := .bool false) (w' := w) ?_ ⟨170, _, rfl, rfl, Step.refl _ _, rfl⟩
      intro oo hoo
      simp only [execOp, hoo, Act.eval, n169]
      go_simp
    | 7, _ =>
      have n170 : a.tmps.getD 170 undef = _ := hat 6 (lc (by kernel_rfl)) 170 rfl
      exact op_skip npp35bOp7 (dj := 170) (by kernel_rfl) n170 (by decide) ⟨171, undef, rfl, rfl, Step.refl _ _, rfl⟩
    | 8, _ =>
      have n170 : a.tmps.getD 170 undef = _ := hat 6 (lc (by kernel_rfl)) 170 rfl
      exact op_skip npp35bOp8 (dj := 170) (by kernel_rfl) n170 (by decide) ⟨172, undef, rfl, rfl, Step.refl _ _, rfl⟩
    | 9, _ =>
      have n170 : a.tmps.getD 170 undef = _ := hat 6 (lc (by kernel_rfl)) 170 rfl
      exact op_skip npp35bOp9 (dj := 170) (by kernel_rfl) n170 (by decide) ⟨173, undef, rfl, rfl, Step.refl _ _, rfl⟩
    | 10, _ =>
      have n170 : a.tmps.getD 170 undef = _ := hat 6 (lc (by kernel_rfl)) 170 rfl
      exact op_skip npp35bOp10 (dj := 170) (by kernel_rfl) n170 (by decide) ⟨174, undef, rfl, rfl, Step.refl _ _, rfl⟩
    | 11, _ =>
      have n170 : a.tmps.getD 170 undef = _ := hat 6 (lc (by kernel_rfl)) 170 rfl
      exact op_skip npp35bOp11 (dj := 170) (by kernel_rfl) n170 (by decide) ⟨175, undef, rfl, rfl, Step.refl _ _, rfl⟩
    | 12, _ =>
      have n170 : a.tmps.getD 170 undef = _ := hat 6 (lc (by kernel_rfl)) 170 rfl
      have n175 : a.tmps.getD 175 undef = _ := hat 11 (lc (by kernel_rfl)) 175 rfl
      refine op_runs (d := some 176) npp35bOp12 (wants_none a) (v := .bool false) (w' := w) ?_ ⟨176, _, rfl, rfl, Step.refl _ _, rfl⟩
      intro oo hoo
      simp only [execOp, hoo, Act.eval, n170, n175]
      go_simp
    | 13, _ =>
      have n176 : a.tmps.getD 176 undef = _ := hat 12 (lc (by kernel_rfl)) 176 rfl
      refine op_runs (d := some 177) npp35bOp13 (wants_none a) (v := .bool false) (w' := w) ?_ ⟨177, _, rfl, rfl, Step.refl _ _, rfl⟩
      intro oo hoo
      simp only [execOp, hoo, Act.eval, n176]
      go_simp
    | 14, _ =>
      have n177 : a.tmps.getD 177 undef = _ := hat 13 (lc (by kernel_rfl)) 177 rfl
      exact op_skip npp35bOp14 (dj := 177) (by kernel_rfl) n177 (by decide) ⟨178, undef, rfl, rfl, Step.refl _ _, rfl⟩
    | 15, _ =>
      have n177 : a.tmps.getD 177 undef = _ := hat 13 (lc (by kernel_rfl)) 177 rfl
      exact op_skip npp35bOp15 (dj := 177) (by kernel_rfl) n177 (by decide) ⟨179, undef, rfl, rfl, Step.refl _ _, rfl⟩
    | 16, _ =>
      have n177 : a.tmps.getD 177 undef = _ := hat 13 (lc (by kernel_rfl)) 177 rfl
      exact op_skip npp35bOp16 (dj := 177) (by kernel_rfl) n177 (by decide) ⟨180, undef, rfl, rfl, Step.refl _ _, rfl⟩
    | 17, _ =>
      have n177 : a.tmps.getD 177 undef = _ := hat 13 (lc (by kernel_rfl)) 177 rfl
      exact op_skip npp35bOp17 (dj := 177) (by kernel_rfl) n177 (by decide) ⟨181, undef, rfl, rfl, Step.refl _ _, rfl⟩
    | 18, _ =>
      have n177 : a.tmps.getD 177 undef = _ := hat 13 (lc (by kernel_rfl)) 177 rfl
      exact op_skip npp35bOp18 (dj := 177) (by kernel_rfl) n177 (by decide) ⟨182, undef, rfl, rfl, Step.refl _ _, rfl⟩
    | 19, _ =>
      have n177 : a.tmps.getD 177 undef = _ := hat 13 (lc (by kernel_rfl)) 177 rfl
      exact op_skip npp35bOp19 (dj := 177) (by kernel_rfl) n177 (by decide) ⟨183, undef, rfl, rfl, Step.refl _ _, rfl⟩
    | 20, _ =>
      have n177 : a.tmps.getD 177 undef = _ := hat 13 (lc (by kernel_rfl)) 177 rfl
      exact op_skip npp35bOp20 (dj := 177) (by kernel_rfl) n177 (by decide) ⟨184, undef, rfl, rfl, Step.refl _ _, rfl⟩
    | 21, _ =>
      have n177 : a.tmps.getD 177 undef = _ := hat 13 (lc (by kernel_rfl)) 177 rfl
      have n184 : a.tmps.getD 184 undef = _ := hat 20 (lc (by kernel_rfl)) 184 rfl
      refine op_runs (d := some 185) npp35bOp21 (wants_none a) (v := .bool false) (w' := w) ?_ ⟨185, _, rfl, rfl, Step.refl _ _, rfl⟩
      intro oo hoo
      simp only [execOp, hoo, Act.eval, n177, n184]
      go_simp
    | 22, _ =>
      have n185 : a.tmps.getD 185 undef = _ := hat 21 (lc (by kernel_rfl)) 185 rfl
      refine op_runs (d := some 186) npp35bOp22 (wants_none a) (v := .bool false) (w' := w) ?_ ⟨186, _, rfl, rfl, Step.refl _ _, rfl⟩
      intro oo hoo
      simp only [execOp, hoo, Act.eval, n185]
      go_simp
    | 23, _ =>
      have n186 : a.tmps.getD 186 undef = _ := hat 22 (lc (by kernel_rfl)) 186 rfl
      exact op_skip npp35bOp23 (dj := 186) (by kernel_rfl) n186 (by decide) ⟨187, undef, rfl, rfl, Step.refl _ _, rfl⟩
    | 24, _ =>
      have n186 : a.tmps.getD 186 undef = _ := hat 22 (lc (by kernel_rfl)) 186 rfl
      exact op_skip npp35bOp24 (dj := 186) (by kernel_rfl) n186 (by decide) ⟨188, undef, rfl, rfl, Step.refl _ _, rfl⟩
    | 25, _ =>
      have n186 : a.tmps.getD 186 undef = _ := hat 22 (lc (by kernel_rfl)) 186 rfl
      have n188 : a.tmps.getD 188 undef = _ := hat 24 (lc (by kernel_rfl)) 188 rfl
      refine op_runs (d := some 189) npp35bOp25 (wants_none a) (v := .bool false) (w' := w) ?_ ⟨189, _, rfl, rfl, Step.refl _ _, rfl⟩
      intro oo hoo
      simp only [execOp, hoo, Act.eval, n186, n188]
      go_simp
    | 26, _ =>
      exact absurd rfl hne
    | 27, _ =>
      have n189 : a.tmps.getD 189 undef = _ := hat 25 (lc (by kernel_rfl)) 189 rfl
      refine op_runs (d := some 3) npp35bOp27 (wants_none a) (v := .bool false) (w' := w) ?_ ⟨3, _, rfl, rfl, Step.refl _ _, rfl⟩
      intro oo hoo
      simp only [execOp, hoo, Act.eval, n189]
      go_simp
    | k + 28, h => exact absurd h (by omega)
  · intro a w hs hfr hat hbx
    have hx : a.tmps.getD 2 undef = _ := (hfr 2 (by decide)).trans h2
    have hy : a.tmps.getD 164 undef = _ := hat 0 (lc (by kernel_rfl)) 164 rfl
    obtain ⟨d0, d1, d2, d3, d4⟩ := hbx.all
    have f0 := hbx.fr 0
    have f1 := hbx.fr 1
    have f2 := hbx.fr 2
    have f3 := hbx.fr 3
    have f4 := hbx.fr 4
    have hr : Skips Tryz.prog a (Op.store 29 (Operand.tmp 2) (Operand.tmp 164)) w (put5 w rb (.bool false) (.slice none 0 0) (.slice ka nk kc) (.slice pa np pc) (.slice ma nm mc)) := by
      intro oo hoo
      simp only [execOp, hoo, Act.eval, hx, hy]
      unfold put5
      go_simp
    exact op_skips npp35bOp26 hr ⟨rfl, step_one5 rb (Step.refl _ _) _ _ _ _ _, hbx.put _ _ _ _ _⟩
  · intro a w hs hdf hs2 hfr hat hbx
    rw [npp35b_size] at hat
    have e := act_vals (a := a) (a0 := a0) npp35bDs (by decide) (fun d hd => by rw [hsz]; exact npp35b_lt d (by revert hd; revert d; decide)) hdf hs2 (fun k hk => hfr k (fun hk2 => hk (by revert hk2; simp [npp35bDl, npp35bDs])))
    rw [e]
    exact hend (fun d => a.tmps.getD d undef) w hs hbx (hat 27 (by omega) 3 rfl)
set_option maxRecDepth 100000 in
theorem npp35b_lit (f : Nat → Value) (D : List Deferred) (x0 x1 x2 x3 x4 x5 x6 x7 x8 x9 x10 x11 x12 x13 x14 x15 x16 x17 x18 x19 x20 x21 x22 x23 x24 x25 x26 x27 x28 x29 x30 x31 x32 x33 x34 x35 x36 x37 x38 x39 x40 x41 x42 x43 x44 x45 x46 x47 x48 x49 x50 x51 x52 x53 x54 x55 x56 x57 x58 x59 x60 x61 x62 x63 x64 x65 x66 x67 x68 x69 x70 x71 x72 x73 x74 x75 x76 x77 x78 x79 x80 x81 x82 x83 x84 x85 x86 x87 x88 x89 x90 x91 x92 x93 x94 x95 x96 x97 x98 x99 x100 x101 x102 x103 x104 x105 x106 x107 x108 x109 x110 x111 x112 x113 x114 x115 x116 x117 x118 x119 x120 x121 x122 x123 x124 x125 x126 x127 x128 x129 x130 x131 x132 x133 x134 x135 x136 x137 x138 x139 x140 x141 x142 x143 x144 x145 x146 x147 x148 x149 x150 x151 x152 x153 x154 x155 x156 x157 x158 x159 x160 x161 x162 x163 x164 x165 x166 x167 x168 x169 x170 x171 x172 x173 x174 x175 x176 x177 x178 x179 x180 x181 x182 x183 x184 x185 x186 x187 x188 x189 : Value) : putAll { tmps := #[x0, x1, x2, x3, x4, x5, x6, x7, x8, x9, x10, x11, x12, x13, x14, x15, x16, x17, x18, x19, x20, x21, x22, x23, x24, x25, x26, x27, x28, x29, x30, x31, x32, x33, x34, x35, x36, x37, x38, x39, x40, x41, x42, x43, x44, x45, x46, x47, x48, x49, x50, x51, x52, x53, x54, x55, x56, x57, x58, x59, x60, x61, x62, x63, x64, x65, x66, x67, x68, x69, x70, x71, x72, x73, x74, x75, x76, x77, x78, x79, x80, x81, x82, x83, x84, x85, x86, x87, x88, x89, x90, x91, x92, x93, x94, x95, x96, x97, x98, x99, x100, x101, x102, x103, x104, x105, x106, x107, x108, x109, x110, x111, x112, x113, x114, x115, x116, x117, x118, x119, x120, x121, x122, x123, x124, x125, x126, x127, x128, x129, x130, x131, x132, x133, x134, x135, x136, x137, x138, x139, x140, x141, x142, x143, x144, x145, x146, x147, x148, x149, x150, x151, x152, x153, x154, x155, x156, x157, x158, x159, x160, x161, x162, x163, x164, x165, x166, x167, x168, x169, x170, x171, x172, x173, x174, x175, x176, x177, x178, x179, x180, x181, x182, x183, x184, x185, x186, x187, x188, x189], defers := D } (npp35bDs.map some) (npp35bDs.map f) = { tmps := #[x0, x1, x2, f 3, x4, x5, x6, x7, x8, x9, x10, x11, x12, x13, x14, x15, x16, x17, x18, x19, x20, x21, x22, x23, x24, x25, x26, x27, x28, x29, x30, x31, x32, x33, x34, x35, x36, x37, x38, x39, x40, x41, x42, x43, x44, x45, x46, x47, x48, x49, x50, x51, x52, x53, x54, x55, x56, x57, x58, x59, x60, x61, x62, x63, x64, x65, x66, x67, x68, x69, x70, x71, x72, x73, x74, x75, x76, x77, x78, x79, x80, x81, x82, x83, x84, x85, x86, x87, x88, x89, x90, x91, x92, x93, x94, x95, x96, x97, x98, x99, x100, x101, x102, x103, x104, x105, x106, x107, x108, x109, x110, x111, x112, x113, x114, x115, x116, x117, x118, x119, x120, x121, x122, x123, x124, x125, x126, x127, x128, x129, x130, x131, x132, x133, x134, x135, x136, x137, x138, x139, x140, x141, x142, x143, x144, x145, x146, x147, x148, x149, x150, x151, x152, x153, x154, x155, x156, x157, x158, x159, x160, x161, x162, x163, f 164, f 165, f 166, f 167, f 168, f 169, f 170, f 171, f 172, f 173, f 174, f 175, f 176, f 177, f 178, f 179, f 180, f 181, f 182, f 183, f 184, f 185, f 186, f 187, f 188, f 189], defers := D } := by kernel_rfl
end Go.Proofs.YtoobelcphcndoaaGreat
namespace Go.Proofs.YtoobelcphcndoaaGreat
open Go.RowKit
set_option linter.unusedVariables false
set_option linter.unusedSimpArgs false


/-- What is said of each slot. -/
def npp35sSp (p nb rb : Nat) (ka pa ma : Option Addr) (nk kc np pc nm mc : Nat) (S : ByteArray) (F : Bool) (i : Nat) (w : World) (v : Value) : Prop := match i with
  | 0 => v = .agg #[.bool false, .slice none 0 0, .slice ka nk kc, .slice pa np pc, .slice ma nm mc]
  | 1 => v = .pointer (some ⟨p, 0, none⟩)
  | 2 => v = .pointer (some ⟨p, 0, none⟩)
  | 3 => v = .pointer (some ⟨p, 1, none⟩)
  | 4 => v = .bool false
  | 5 => v = .bool true
  | 6 => v = .bool true
  | 7 => v = .pointer (some ⟨p, 0, none⟩)
  | 8 => v = .pointer (some ⟨p, 0, none⟩)
  | 9 => v = .pointer (some ⟨p, 0, none⟩)
  | 10 => v = .string S
  | 11 => v = .bool false
  | 12 => v = .bool false
  | 13 => v = .bool false
  | 14 => v = undef
  | 15 => v = undef
  | 16 => v = undef
  | 17 => v = undef
  | 18 => v = undef
  | 19 => v = undef
  | 20 => v = undef
  | 21 => v = .bool false
  | 22 => v = .bool false
  | 23 => v = undef
  | 24 => v = undef
  | 25 => v = .bool false
  | 26 => True
  | 27 => v = .bool false
  | _ => True
theorem npp35sSp_mono (p nb rb : Nat) (ka pa ma : Option Addr) (nk kc np pc nm mc : Nat) (S : ByteArray) (F : Bool) : ∀ i w w' v, Step (oneF rb) w w' → npp35sSp p nb rb ka pa ma nk kc np pc nm mc S F i w v → npp35sSp p nb rb ka pa ma nk kc np pc nm mc S F i w' v := by
  intro i w w' v hs h
  match i with
  | 0 => exact h
  | 1 => exact h
  | 2 => exact h
  | 3 => exact h
  | 4 => exact h
  | 5 => exact h
  | 6 => exact h
  | 7 => exact h
  | 8 => exact h
  | 9 => exact h
  | 10 => exact h
  | 11 => exact h
  | 12 => exact h
  | 13 => exact h
  | 14 => exact h
  | 15 => exact h
  | 16 => exact h
  | 17 => exact h
  | 18 => exact h
  | 19 => exact h
  | 20 => exact h
  | 21 => exact h
  | 22 => exact h
  | 23 => exact h
  | 24 => exact h
  | 25 => exact h
  | 26 => exact h
  | 27 => exact h
  | k + 28 => exact h

set_option maxHeartbeats 4000000 in
set_option maxRecDepth 100000 in
theorem npp35s_go (p nb rb : Nat) (ka pa ma : Option Addr) (nk kc np pc nm mc : Nat) (S : ByteArray) (F : Bool) (w0 : World) (hpr0 : p ≠ rb) (hnr0 : nb ≠ rb) (k10 : w0.cell? ⟨p, 1, none⟩ = some (.bool false)) (c00 : w0.cell? ⟨nb, 0, none⟩ = some (.bool false)) (c10 : w0.cell? ⟨nb, 1, none⟩ = some (.slice none 0 0)) (c20 : w0.cell? ⟨nb, 2, none⟩ = some (.slice ka nk kc)) (c30 : w0.cell? ⟨nb, 3, none⟩ = some (.slice pa np pc)) (c40 : w0.cell? ⟨nb, 4, none⟩ = some (.slice ma nm mc)) (k00 : w0.cell? ⟨p, 0, none⟩ = some (.string S)) (hS0 : ¬ S.toList = [])
    {Q : Exit → Act → World → Prop} (a0 : Act) (hsz : a0.tmps.size = 190) (h2 : a0.tmps.getD 2 undef = .pointer (some ⟨rb, 0, none⟩)) (h4 : a0.tmps.getD 4 undef = .pointer (some ⟨p, 0, none⟩)) (h5 : a0.tmps.getD 5 undef = .pointer (some ⟨nb, 0, none⟩))
    (hbox : NdBox w0 rb (.bool false) (.slice none 0 0) (.slice none 0 0) (.slice none 0 0) (.slice none 0 0)) (hend : ∀ (f : Nat → Value) (w : World), Step (oneF rb) w0 w → NdBox w rb (.bool false) (.slice none 0 0) (.slice ka nk kc) (.slice pa np pc) (.slice ma nm mc) → npp35sSp p nb rb ka pa ma nk kc np pc nm mc S F 27 w (f 3) → Q .normal (putAll a0 (npp35bDs.map some) (npp35bDs.map f)) w) :
    (Code.region 35 ((Tryz.f23.body.bind (regionOps 35)).getD #[]) true).wp Tryz.prog Q a0 w0 := by
  refine wp_region_box (oneF rb) 26 (fun w => NdBox w rb (.bool false) (.slice none 0 0) (.slice none 0 0) (.slice none 0 0) (.slice none 0 0)) (fun w => NdBox w rb (.bool false) (.slice none 0 0) (.slice ka nk kc) (.slice pa np pc) (.slice ma nm mc)) (npp35sSp p nb rb ka pa ma nk kc np pc nm mc S F) (npp35sSp_mono p nb rb ka pa ma nk kc np pc nm mc S F) (fun _ h => h) (fun _ _ hs h => h.step hs) (fun _ _ hs h => h.step hs) npp35bDl (by kernel_rfl) npp35b_back npp35b_dl npp35b_nd (fun d h => by rw [hsz]; exact npp35b_lt d h) (by rw [npp35b_size]; decide) rfl hbox ?_ ?_ ?_
  · intro i hi hne a w hs hfr hat
    rw [npp35b_size] at hi
    have n2 := (hfr 2 (by decide)).trans h2
    have n4 := (hfr 4 (by decide)).trans h4
    have n5 := (hfr 5 (by decide)).trans h5
    have hpr : p ≠ rb := hpr0
    have hnr : nb ≠ rb := hnr0
    have k1 : w.cell? ⟨p, 1, none⟩ = some (.bool false) := keepC hs hpr0 k10
    have c0 : w.cell? ⟨nb, 0, none⟩ = some (.bool false) := keepC hs hnr0 c00
    have c1 : w.cell? ⟨nb, 1, none⟩ = some (.slice none 0 0) := keepC hs hnr0 c10
    have c2 : w.cell? ⟨nb, 2, none⟩ = some (.slice ka nk kc) := keepC hs hnr0 c20
    have c3 : w.cell? ⟨nb, 3, none⟩ = some (.slice pa np pc) := keepC hs hnr0 c30
    have c4 : w.cell? ⟨nb, 4, none⟩ = some (.slice ma nm mc) := keepC hs hnr0 c40
    have k0 : w.cell? ⟨p, 0, none⟩ = some (.string S) := keepC hs hpr0 k00
    have hS : ¬ S.toList = [] := hS0
    match i, hi with
    | 0, _ =>
      refine op_runs (d := some 164) npp35bOp0 (wants_none a) (v := .agg #[.bool false, .slice none 0 0, .slice ka nk kc, .slice pa np pc, .slice ma nm mc]) (w' := w) ?_ ⟨164, _, rfl, rfl, Step.refl _ _, rfl⟩
      intro oo hoo
      simp only [execOp, hoo, Act.eval, n5]
      go_simp
    | 1, _ =>
      refine op_runs (d := some 165) npp35bOp1 (wants_none a) (v := .pointer (some ⟨p, 0, none⟩)) (w' := w) ?_ ⟨165, _, rfl, rfl, Step.refl _ _, rfl⟩
      intro oo hoo
      simp only [execOp, hoo, Act.eval, n4]
      go_simp
    | 2, _ =>
      have n165 : a.tmps.getD 165 undef = _ := hat 1 (lc (by kernel_rfl)) 165 rfl
      refine op_runs (d := some 166) npp35bOp2 (wants_none a) (v := .pointer (some ⟨p, 0, none⟩)) (w' := w) ?_ ⟨166, _, rfl, rfl, Step.refl _ _, rfl⟩
      intro oo hoo
      simp only [execOp, hoo, Act.eval, n165]
      go_simp
    | 3, _ =>
      have n166 : a.tmps.getD 166 undef = _ := hat 2 (lc (by kernel_rfl)) 166 rfl
      refine op_runs (d := some 167) npp35bOp3 (wants_none a) (v := .pointer (some ⟨p, 1, none⟩)) (w' := w) ?_ ⟨167, _, rfl, rfl, Step.refl _ _, rfl⟩
      intro oo hoo
      simp only [execOp, hoo, Act.eval, n166]
      go_simp
    | 4, _ =>
      have n167 : a.tmps.getD 167 undef = _ := hat 3 (lc (by kernel_rfl)) 167 rfl
      refine op_runs (d := some 168) npp35bOp4 (wants_none a) (v := .bool false) (w' := w) ?_ ⟨168, _, rfl, rfl, Step.refl _ _, rfl⟩
      intro oo hoo
      simp only [execOp, hoo, Act.eval, n167]
      go_simp
    | 5, _ =>
      have n168 : a.tmps.getD 168 undef = _ := hat 4 (lc (by kernel_rfl)) 168 rfl
      refine op_runs (d := some 169) npp35bOp5 (wants_none a) (v := .bool true) (w' := w) ?_ ⟨169, _, rfl, rfl, Step.refl _ _, rfl⟩
      intro oo hoo
      simp only [execOp, hoo, Act.eval, n168]
      go_simp
    | 6, _ =>
      have n169 : a.tmps.getD 169 undef = _ := hat 5 (lc (by kernel_rfl)) 169 rfl
      refine op_runs (d := some 170) npp35bOp6 (wants_none a) (v := .bool true) (w' := w) ?_ ⟨170, _, rfl, rfl, Step.refl _ _, rfl⟩
      intro oo hoo
      simp only [execOp, hoo, Act.eval, n169]
      go_simp
    | 7, _ =>
      have n170 : a.tmps.getD 170 undef = _ := hat 6 (lc (by kernel_rfl)) 170 rfl
      refine op_runs (d := some 171) npp35bOp7 (wants_some (d := 170) (b := true) (by kernel_rfl) n170) (v := .pointer (some ⟨p, 0, none⟩)) (w' := w) ?_ ⟨171, _, rfl, rfl, Step.refl _ _, rfl⟩
      intro oo hoo
      simp only [execOp, hoo, Act.eval, n4]
      go_simp
    | 8, _ =>
      have n171 : a.tmps.getD 171 undef = _ := hat 7 (lc (by kernel_rfl)) 171 rfl
      have n170 : a.tmps.getD 170 undef = _ := hat 6 (lc (by kernel_rfl)) 170 rfl
      refine op_runs (d := some 172) npp35bOp8 (wants_some (d := 170) (b := true) (by kernel_rfl) n170) (v := .pointer (some ⟨p, 0, none⟩)) (w' := w) ?_ ⟨172, _, rfl, rfl, Step.refl _ _, rfl⟩
      intro oo hoo
      simp only [execOp, hoo, Act.eval, n171]
      go_simp
    | 9, _ =>
      have n172 : a.tmps.getD 172 undef = _ := hat 8 (lc (by kernel_rfl)) 172 rfl
      have n170 : a.tmps.getD 170 undef = _ := hat 6 (lc (by kernel_rfl)) 170 rfl
      refine op_runs (d := some 173) npp35bOp9 (wants_some (d := 170) (b := true) (by kernel_rfl) n170) (v := .pointer (some ⟨p, 0, none⟩)) (w' := w) ?_ ⟨173, _, rfl, rfl, Step.refl _ _, rfl⟩
      intro oo hoo
      simp only [execOp, hoo, Act.eval, n172]
      go_simp
    | 10, _ =>
      have n173 : a.tmps.getD 173 undef = _ := hat 9 (lc (by kernel_rfl)) 173 rfl
      have n170 : a.tmps.getD 170 undef = _ := hat 6 (lc (by kernel_rfl)) 170 rfl
      refine op_runs (d := some 174) npp35bOp10 (wants_some (d := 170) (b := true) (by kernel_rfl) n170) (v := .string S) (w' := w) ?_ ⟨174, _, rfl, rfl, Step.refl _ _, rfl⟩
      intro oo hoo
      simp only [execOp, hoo, Act.eval, n173]
      go_simp
    | 11, _ =>
      have n174 : a.tmps.getD 174 undef = _ := hat 10 (lc (by kernel_rfl)) 174 rfl
      have n170 : a.tmps.getD 170 undef = _ := hat 6 (lc (by kernel_rfl)) 170 rfl
      refine op_runs (d := some 175) npp35bOp11 (wants_some (d := 170) (b := true) (by kernel_rfl) n170) (v := .bool false) (w' := w) ?_ ⟨175, _, rfl, rfl, Step.refl _ _, rfl⟩
      intro oo hoo
      simp only [execOp, hoo, Act.eval, n174]
      go_simp
    | 12, _ =>
      have n170 : a.tmps.getD 170 undef = _ := hat 6 (lc (by kernel_rfl)) 170 rfl
      have n175 : a.tmps.getD 175 undef = _ := hat 11 (lc (by kernel_rfl)) 175 rfl
      refine op_runs (d := some 176) npp35bOp12 (wants_none a) (v := .bool false) (w' := w) ?_ ⟨176, _, rfl, rfl, Step.refl _ _, rfl⟩
      intro oo hoo
      simp only [execOp, hoo, Act.eval, n170, n175]
      go_simp
    | 13, _ =>
      have n176 : a.tmps.getD 176 undef = _ := hat 12 (lc (by kernel_rfl)) 176 rfl
      refine op_runs (d := some 177) npp35bOp13 (wants_none a) (v := .bool false) (w' := w) ?_ ⟨177, _, rfl, rfl, Step.refl _ _, rfl⟩
      intro oo hoo
      simp only [execOp, hoo, Act.eval, n176]
      go_simp
    | 14, _ =>
      have n177 : a.tmps.getD 177 undef = _ := hat 13 (lc (by kernel_rfl)) 177 rfl
      exact op_skip npp35bOp14 (dj := 177) (by kernel_rfl) n177 (by decide) ⟨178, undef, rfl, rfl, Step.refl _ _, rfl⟩
    | 15, _ =>
      have n177 : a.tmps.getD 177 undef = _ := hat 13 (lc (by kernel_rfl)) 177 rfl
      exact op_skip npp35bOp15 (dj := 177) (by kernel_rfl) n177 (by decide) ⟨179, undef, rfl, rfl, Step.refl _ _, rfl⟩
    | 16, _ =>
      have n177 : a.tmps.getD 177 undef = _ := hat 13 (lc (by kernel_rfl)) 177 rfl
      exact op_skip npp35bOp16 (dj := 177) (by kernel_rfl) n177 (by decide) ⟨180, undef, rfl, rfl, Step.refl _ _, rfl⟩
    | 17, _ =>
      have n177 : a.tmps.getD 177 undef = _ := hat 13 (lc (by kernel_rfl)) 177 rfl
      exact op_skip npp35bOp17 (dj := 177) (by kernel_rfl) n177 (by decide) ⟨181, undef, rfl, rfl, Step.refl _ _, rfl⟩
    | 18, _ =>
      have n177 : a.tmps.getD 177 undef = _ := hat 13 (lc (by kernel_rfl)) 177 rfl
      exact op_skip npp35bOp18 (dj := 177) (by kernel_rfl) n177 (by decide) ⟨182, undef, rfl, rfl, Step.refl _ _, rfl⟩
    | 19, _ =>
      have n177 : a.tmps.getD 177 undef = _ := hat 13 (lc (by kernel_rfl)) 177 rfl
      exact op_skip npp35bOp19 (dj := 177) (by kernel_rfl) n177 (by decide) ⟨183, undef, rfl, rfl, Step.refl _ _, rfl⟩
    | 20, _ =>
      have n177 : a.tmps.getD 177 undef = _ := hat 13 (lc (by kernel_rfl)) 177 rfl
      exact op_skip npp35bOp20 (dj := 177) (by kernel_rfl) n177 (by decide) ⟨184, undef, rfl, rfl, Step.refl _ _, rfl⟩
    | 21, _ =>
      have n177 : a.tmps.getD 177 undef = _ := hat 13 (lc (by kernel_rfl)) 177 rfl
      have n184 : a.tmps.getD 184 undef = _ := hat 20 (lc (by kernel_rfl)) 184 rfl
      refine op_runs (d := some 185) npp35bOp21 (wants_none a) (v := .bool false) (w' := w) ?_ ⟨185, _, rfl, rfl, Step.refl _ _, rfl⟩
      intro oo hoo
      simp only [execOp, hoo, Act.eval, n177, n184]
      go_simp
    | 22, _ =>
      have n185 : a.tmps.getD 185 undef = _ := hat 21 (lc (by kernel_rfl)) 185 rfl
      refine op_runs (d := some 186) npp35bOp22 (wants_none a) (v := .bool false) (w' := w) ?_ ⟨186, _, rfl, rfl, Step.refl _ _, rfl⟩
      intro oo hoo
      simp only [execOp, hoo, Act.eval, n185]
      go_simp
    | 23, _ =>
      have n186 : a.tmps.getD 186 undef = _ := hat 22 (lc (by kernel_rfl)) 186 rfl
      exact op_skip npp35bOp23 (dj := 186) (by kernel_rfl) n186 (by decide) ⟨187, undef, rfl, rfl, Step.refl _ _, rfl⟩
    | 24, _ =>
      have n186 : a.tmps.getD 186 undef = _ := hat 22 (lc (by kernel_rfl)) 186 rfl
      exact op_skip npp35bOp24 (dj := 186) (by kernel_rfl) n186 (by decide) ⟨188, undef, rfl, rfl, Step.refl _ _, rfl⟩
    | 25, _ =>
      have n186 : a.tmps.getD 186 undef = _ := hat 22 (lc (by kernel_rfl)) 186 rfl
      have n188 : a.tmps.getD 188 undef = _ := hat 24 (lc (by kernel_rfl)) 188 rfl
      refine op_runs (d := some 189) npp35bOp25 (wants_none a) (v := .bool false) (w' := w) ?_ ⟨189, _, rfl, rfl, Step.refl _ _, rfl⟩
      intro oo hoo
      simp only [execOp, hoo, Act.eval, n186, n188]
      go_simp
    | 26, _ =>
      exact absurd rfl hne
    | 27, _ =>
      have n189 : a.tmps.getD 189 undef = _ := hat 25 (lc (by kernel_rfl)) 189 rfl
      refine op_runs (d := some 3) npp35bOp27 (wants_none a) (v := .bool false) (w' := w) ?_ ⟨3, _, rfl, rfl, Step.refl _ _, rfl⟩
      intro oo hoo
      simp only [execOp, hoo, Act.eval, n189]
      go_simp
    | k + 28, h => exact absurd h (by omega)
  · intro a w hs hfr hat hbx
    have hx : a.tmps.getD 2 undef = _ := (hfr 2 (by decide)).trans h2
    have hy : a.tmps.getD 164 undef = _ := hat 0 (lc (by kernel_rfl)) 164 rfl
    obtain ⟨d0, d1, d2, d3, d4⟩ := hbx.all
    have f0 := hbx.fr 0
    have f1 := hbx.fr 1
    have f2 := hbx.fr 2
    have f3 := hbx.fr 3
    have f4 := hbx.fr 4
    have hr : Skips Tryz.prog a (Op.store 29 (Operand.tmp 2) (Operand.tmp 164)) w (put5 w rb (.bool false) (.slice none 0 0) (.slice ka nk kc) (.slice pa np pc) (.slice ma nm mc)) := by
      intro oo hoo
      simp only [execOp, hoo, Act.eval, hx, hy]
      unfold put5
      go_simp
    exact op_skips npp35bOp26 hr ⟨rfl, step_one5 rb (Step.refl _ _) _ _ _ _ _, hbx.put _ _ _ _ _⟩
  · intro a w hs hdf hs2 hfr hat hbx
    rw [npp35b_size] at hat
    have e := act_vals (a := a) (a0 := a0) npp35bDs (by decide) (fun d hd => by rw [hsz]; exact npp35b_lt d (by revert hd; revert d; decide)) hdf hs2 (fun k hk => hfr k (fun hk2 => hk (by revert hk2; simp [npp35bDl, npp35bDs])))
    rw [e]
    exact hend (fun d => a.tmps.getD d undef) w hs hbx (hat 27 (by omega) 3 rfl)
end Go.Proofs.YtoobelcphcndoaaGreat
namespace Go.Proofs.YtoobelcphcndoaaGreat
open Go.RowKit
set_option linter.unusedVariables false
set_option linter.unusedSimpArgs false


/-- What is said of each slot. -/
def npp35gSp (p nb rb : Nat) (ka pa ma : Option Addr) (nk kc np pc nm mc : Nat) (S : ByteArray) (F : Bool) (i : Nat) (w : World) (v : Value) : Prop := match i with
  | 0 => v = .agg #[.bool false, .slice none 0 0, .slice ka nk kc, .slice pa np pc, .slice ma nm mc]
  | 1 => v = .pointer (some ⟨p, 0, none⟩)
  | 2 => v = .pointer (some ⟨p, 0, none⟩)
  | 3 => v = .pointer (some ⟨p, 1, none⟩)
  | 4 => v = .bool false
  | 5 => v = .bool true
  | 6 => v = .bool true
  | 7 => v = .pointer (some ⟨p, 0, none⟩)
  | 8 => v = .pointer (some ⟨p, 0, none⟩)
  | 9 => v = .pointer (some ⟨p, 0, none⟩)
  | 10 => v = .string S
  | 11 => v = .bool true
  | 12 => v = .bool true
  | 13 => v = .bool true
  | 14 => v = .pointer (some ⟨nb, 2, none⟩)
  | 15 => v = .pointer (some ⟨nb, 2, none⟩)
  | 16 => v = .slice ka nk kc
  | 17 => v = .pointer (some ⟨nb, 2, none⟩)
  | 18 => v = .pointer (some ⟨nb, 3, none⟩)
  | 19 => v = .slice pa np pc
  | 20 => v = .bool false
  | 21 => v = .bool false
  | 22 => v = .bool false
  | 23 => v = undef
  | 24 => v = undef
  | 25 => v = .bool false
  | 26 => True
  | 27 => v = .bool false
  | _ => True
theorem npp35gSp_mono (p nb rb : Nat) (ka pa ma : Option Addr) (nk kc np pc nm mc : Nat) (S : ByteArray) (F : Bool) : ∀ i w w' v, Step (oneF rb) w w' → npp35gSp p nb rb ka pa ma nk kc np pc nm mc S F i w v → npp35gSp p nb rb ka pa ma nk kc np pc nm mc S F i w' v := by
  intro i w w' v hs h
  match i with
  | 0 => exact h
  | 1 => exact h
  | 2 => exact h
  | 3 => exact h
  | 4 => exact h
  | 5 => exact h
  | 6 => exact h
  | 7 => exact h
  | 8 => exact h
  | 9 => exact h
  | 10 => exact h
  | 11 => exact h
  | 12 => exact h
  | 13 => exact h
  | 14 => exact h
  | 15 => exact h
  | 16 => exact h
  | 17 => exact h
  | 18 => exact h
  | 19 => exact h
  | 20 => exact h
  | 21 => exact h
  | 22 => exact h
  | 23 => exact h
  | 24 => exact h
  | 25 => exact h
  | 26 => exact h
  | 27 => exact h
  | k + 28 => exact h

set_option maxHeartbeats 4000000 in
set_option maxRecDepth 100000 in
theorem npp35g_go (p nb rb : Nat) (ka pa ma : Option Addr) (nk kc np pc nm mc : Nat) (S : ByteArray) (F : Bool) (w0 : World) (hpr0 : p ≠ rb) (hnr0 : nb ≠ rb) (k10 : w0.cell? ⟨p, 1, none⟩ = some (.bool false)) (c00 : w0.cell? ⟨nb, 0, none⟩ = some (.bool false)) (c10 : w0.cell? ⟨nb, 1, none⟩ = some (.slice none 0 0)) (c20 : w0.cell? ⟨nb, 2, none⟩ = some (.slice ka nk kc)) (c30 : w0.cell? ⟨nb, 3, none⟩ = some (.slice pa np pc)) (c40 : w0.cell? ⟨nb, 4, none⟩ = some (.slice ma nm mc)) (k00 : w0.cell? ⟨p, 0, none⟩ = some (.string S)) (hS0 : S.toList = []) (c1840 : ∀ w0', Step (oneF rb) w0 w0' → Calls Tryz.prog 59 #[.slice ka nk kc, .slice pa np pc] w0' fun e w0'' => e = .returned (.bool false) ∧ Step noF w0' w0'')
    {Q : Exit → Act → World → Prop} (a0 : Act) (hsz : a0.tmps.size = 190) (h2 : a0.tmps.getD 2 undef = .pointer (some ⟨rb, 0, none⟩)) (h4 : a0.tmps.getD 4 undef = .pointer (some ⟨p, 0, none⟩)) (h5 : a0.tmps.getD 5 undef = .pointer (some ⟨nb, 0, none⟩))
    (hbox : NdBox w0 rb (.bool false) (.slice none 0 0) (.slice none 0 0) (.slice none 0 0) (.slice none 0 0)) (hend : ∀ (f : Nat → Value) (w : World), Step (oneF rb) w0 w → NdBox w rb (.bool false) (.slice none 0 0) (.slice ka nk kc) (.slice pa np pc) (.slice ma nm mc) → npp35gSp p nb rb ka pa ma nk kc np pc nm mc S F 27 w (f 3) → Q .normal (putAll a0 (npp35bDs.map some) (npp35bDs.map f)) w) :
    (Code.region 35 ((Tryz.f23.body.bind (regionOps 35)).getD #[]) true).wp Tryz.prog Q a0 w0 := by
  refine wp_region_box (oneF rb) 26 (fun w => NdBox w rb (.bool false) (.slice none 0 0) (.slice none 0 0) (.slice none 0 0) (.slice none 0 0)) (fun w => NdBox w rb (.bool false) (.slice none 0 0) (.slice ka nk kc) (.slice pa np pc) (.slice ma nm mc)) (npp35gSp p nb rb ka pa ma nk kc np pc nm mc S F) (npp35gSp_mono p nb rb ka pa ma nk kc np pc nm mc S F) (fun _ h => h) (fun _ _ hs h => h.step hs) (fun _ _ hs h => h.step hs) npp35bDl (by kernel_rfl) npp35b_back npp35b_dl npp35b_nd (fun d h => by rw [hsz]; exact npp35b_lt d h) (by rw [npp35b_size]; decide) rfl hbox ?_ ?_ ?_
  · intro i hi hne a w hs hfr hat
    rw [npp35b_size] at hi
    have n2 := (hfr 2 (by decide)).trans h2
    have n4 := (hfr 4 (by decide)).trans h4
    have n5 := (hfr 5 (by decide)).trans h5
    have hpr : p ≠ rb := hpr0
    have hnr : nb ≠ rb := hnr0
    have k1 : w.cell? ⟨p, 1, none⟩ = some (.bool false) := keepC hs hpr0 k10
    have c0 : w.cell? ⟨nb, 0, none⟩ = some (.bool false) := keepC hs hnr0 c00
    have c1 : w.cell? ⟨nb, 1, none⟩ = some (.slice none 0 0) := keepC hs hnr0 c10
    have c2 : w.cell? ⟨nb, 2, none⟩ = some (.slice ka nk kc) := keepC hs hnr0 c20
    have c3 : w.cell? ⟨nb, 3, none⟩ = some (.slice pa np pc) := keepC hs hnr0 c30
    have c4 : w.cell? ⟨nb, 4, none⟩ = some (.slice ma nm mc) := keepC hs hnr0 c40
    have k0 : w.cell? ⟨p, 0, none⟩ = some (.string S) := keepC hs hpr0 k00
    have hS : S.toList = [] := hS0
    have c184 : ∀ w', Step (oneF rb) w w' → Calls Tryz.prog 59 #[.slice ka nk kc, .slice pa np pc] w' fun e w'' => e = .returned (.bool false) ∧ Step noF w' w'' := fun w' s' => c1840 w' (hs.trans s')
    match i, hi with
    | 0, _ =>
      refine op_runs (d := some 164) npp35bOp0 (wants_none a) (v := .agg #[.bool false, .slice none 0 0, .slice ka nk kc, .slice pa np pc, .slice ma nm mc]) (w' := w) ?_ ⟨164, _, rfl, rfl, Step.refl _ _, rfl⟩
      intro oo hoo
      simp only [execOp, hoo, Act.eval, n5]
      go_simp
    | 1, _ =>
      refine op_runs (d := some 165) npp35bOp1 (wants_none a) (v := .pointer (some ⟨p, 0, none⟩)) (w' := w) ?_ ⟨165, _, rfl, rfl, Step.refl _ _, rfl⟩
      intro oo hoo
      simp only [execOp, hoo, Act.eval, n4]
      go_simp
    | 2, _ =>
      have n165 : a.tmps.getD 165 undef = _ := hat 1 (lc (by kernel_rfl)) 165 rfl
      refine op_runs (d := some 166) npp35bOp2 (wants_none a) (v := .pointer (some ⟨p, 0, none⟩)) (w' := w) ?_ ⟨166, _, rfl, rfl, Step.refl _ _, rfl⟩
      intro oo hoo
      simp only [execOp, hoo, Act.eval, n165]
      go_simp
    | 3, _ =>
      have n166 : a.tmps.getD 166 undef = _ := hat 2 (lc (by kernel_rfl)) 166 rfl
      refine op_runs (d := some 167) npp35bOp3 (wants_none a) (v := .pointer (some ⟨p, 1, none⟩)) (w' := w) ?_ ⟨167, _, rfl, rfl, Step.refl _ _, rfl⟩
      intro oo hoo
      simp only [execOp, hoo, Act.eval, n166]
      go_simp
    | 4, _ =>
      have n167 : a.tmps.getD 167 undef = _ := hat 3 (lc (by kernel_rfl)) 167 rfl
      refine op_runs (d := some 168) npp35bOp4 (wants_none a) (v := .bool false) (w' := w) ?_ ⟨168, _, rfl, rfl, Step.refl _ _, rfl⟩
      intro oo hoo
      simp only [execOp, hoo, Act.eval, n167]
      go_simp
    | 5, _ =>
      have n168 : a.tmps.getD 168 undef = _ := hat 4 (lc (by kernel_rfl)) 168 rfl
      refine op_runs (d := some 169) npp35bOp5 (wants_none a) (v := .bool true) (w' := w) ?_ ⟨169, _, rfl, rfl, Step.refl _ _, rfl⟩
      intro oo hoo
      simp only [execOp, hoo, Act.eval, n168]
      go_simp
    | 6, _ =>
      have n169 : a.tmps.getD 169 undef = _ := hat 5 (lc (by kernel_rfl)) 169 rfl
      refine op_runs (d := some 170) npp35bOp6 (wants_none a) (v := .bool true) (w' := w) ?_ ⟨170, _, rfl, rfl, Step.refl _ _, rfl⟩
      intro oo hoo
      simp only [execOp, hoo, Act.eval, n169]
      go_simp
    | 7, _ =>
      have n170 : a.tmps.getD 170 undef = _ := hat 6 (lc (by kernel_rfl)) 170 rfl
      refine op_runs (d := some 171) npp35bOp7 (wants_some (d := 170) (b := true) (by kernel_rfl) n170) (v := .pointer (some ⟨p, 0, none⟩)) (w' := w) ?_ ⟨171, _, rfl, rfl, Step.refl _ _, rfl⟩
      intro oo hoo
      simp only [execOp, hoo, Act.eval, n4]
      go_simp
    | 8, _ =>
      have n171 : a.tmps.getD 171 undef = _ := hat 7 (lc (by kernel_rfl)) 171 rfl
      have n170 : a.tmps.getD 170 undef = _ := hat 6 (lc (by kernel_rfl)) 170 rfl
      refine op_runs (d := some 172) npp35bOp8 (wants_some (d := 170) (b := true) (by kernel_rfl) n170) (v := .pointer (some ⟨p, 0, none⟩)) (w' := w) ?_ ⟨172, _, rfl, rfl, Step.refl _ _, rfl⟩
      intro oo hoo
      simp only [execOp, hoo, Act.eval, n171]
      go_simp
    | 9, _ =>
      have n172 : a.tmps.getD 172 undef = _ := hat 8 (lc (by kernel_rfl)) 172 rfl
      have n170 : a.tmps.getD 170 undef = _ := hat 6 (lc (by kernel_rfl)) 170 rfl
      refine op_runs (d := some 173) npp35bOp9 (wants_some (d := 170) (b := true) (by kernel_rfl) n170) (v := .pointer (some ⟨p, 0, none⟩)) (w' := w) ?_ ⟨173, _, rfl, rfl, Step.refl _ _, rfl⟩
      intro oo hoo
      simp only [execOp, hoo, Act.eval, n172]
      go_simp
    | 10, _ =>
      have n173 : a.tmps.getD 173 undef = _ := hat 9 (lc (by kernel_rfl)) 173 rfl
      have n170 : a.tmps.getD 170 undef = _ := hat 6 (lc (by kernel_rfl)) 170 rfl
      refine op_runs (d := some 174) npp35bOp10 (wants_some (d := 170) (b := true) (by kernel_rfl) n170) (v := .string S) (w' := w) ?_ ⟨174, _, rfl, rfl, Step.refl _ _, rfl⟩
      intro oo hoo
      simp only [execOp, hoo, Act.eval, n173]
      go_simp
    | 11, _ =>
      have n174 : a.tmps.getD 174 undef = _ := hat 10 (lc (by kernel_rfl)) 174 rfl
      have n170 : a.tmps.getD 170 undef = _ := hat 6 (lc (by kernel_rfl)) 170 rfl
      refine op_runs (d := some 175) npp35bOp11 (wants_some (d := 170) (b := true) (by kernel_rfl) n170) (v := .bool true) (w' := w) ?_ ⟨175, _, rfl, rfl, Step.refl _ _, rfl⟩
      intro oo hoo
      simp only [execOp, hoo, Act.eval, n174]
      go_simp
    | 12, _ =>
      have n170 : a.tmps.getD 170 undef = _ := hat 6 (lc (by kernel_rfl)) 170 rfl
      have n175 : a.tmps.getD 175 undef = _ := hat 11 (lc (by kernel_rfl)) 175 rfl
      refine op_runs (d := some 176) npp35bOp12 (wants_none a) (v := .bool true) (w' := w) ?_ ⟨176, _, rfl, rfl, Step.refl _ _, rfl⟩
      intro oo hoo
      simp only [execOp, hoo, Act.eval, n170, n175]
      go_simp
    | 13, _ =>
      have n176 : a.tmps.getD 176 undef = _ := hat 12 (lc (by kernel_rfl)) 176 rfl
      refine op_runs (d := some 177) npp35bOp13 (wants_none a) (v := .bool true) (w' := w) ?_ ⟨177, _, rfl, rfl, Step.refl _ _, rfl⟩
      intro oo hoo
      simp only [execOp, hoo, Act.eval, n176]
      go_simp
    | 14, _ =>
      have n177 : a.tmps.getD 177 undef = _ := hat 13 (lc (by kernel_rfl)) 177 rfl
      refine op_runs (d := some 178) npp35bOp14 (wants_some (d := 177) (b := true) (by kernel_rfl) n177) (v := .pointer (some ⟨nb, 2, none⟩)) (w' := w) ?_ ⟨178, _, rfl, rfl, Step.refl _ _, rfl⟩
      intro oo hoo
      simp only [execOp, hoo, Act.eval, n5]
      go_simp
    | 15, _ =>
      have n178 : a.tmps.getD 178 undef = _ := hat 14 (lc (by kernel_rfl)) 178 rfl
      have n177 : a.tmps.getD 177 undef = _ := hat 13 (lc (by kernel_rfl)) 177 rfl
      refine op_runs (d := some 179) npp35bOp15 (wants_some (d := 177) (b := true) (by kernel_rfl) n177) (v := .pointer (some ⟨nb, 2, none⟩)) (w' := w) ?_ ⟨179, _, rfl, rfl, Step.refl _ _, rfl⟩
      intro oo hoo
      simp only [execOp, hoo, Act.eval, n178]
      go_simp
    | 16, _ =>
      have n179 : a.tmps.getD 179 undef = _ := hat 15 (lc (by kernel_rfl)) 179 rfl
      have n177 : a.tmps.getD 177 undef = _ := hat 13 (lc (by kernel_rfl)) 177 rfl
      refine op_runs (d := some 180) npp35bOp16 (wants_some (d := 177) (b := true) (by kernel_rfl) n177) (v := .slice ka nk kc) (w' := w) ?_ ⟨180, _, rfl, rfl, Step.refl _ _, rfl⟩
      intro oo hoo
      simp only [execOp, hoo, Act.eval, n179]
      go_simp
    | 17, _ =>
      have n177 : a.tmps.getD 177 undef = _ := hat 13 (lc (by kernel_rfl)) 177 rfl
      refine op_runs (d := some 181) npp35bOp17 (wants_some (d := 177) (b := true) (by kernel_rfl) n177) (v := .pointer (some ⟨nb, 2, none⟩)) (w' := w) ?_ ⟨181, _, rfl, rfl, Step.refl _ _, rfl⟩
      intro oo hoo
      simp only [execOp, hoo, Act.eval, n5]
      go_simp
    | 18, _ =>
      have n181 : a.tmps.getD 181 undef = _ := hat 17 (lc (by kernel_rfl)) 181 rfl
      have n177 : a.tmps.getD 177 undef = _ := hat 13 (lc (by kernel_rfl)) 177 rfl
      refine op_runs (d := some 182) npp35bOp18 (wants_some (d := 177) (b := true) (by kernel_rfl) n177) (v := .pointer (some ⟨nb, 3, none⟩)) (w' := w) ?_ ⟨182, _, rfl, rfl, Step.refl _ _, rfl⟩
      intro oo hoo
      simp only [execOp, hoo, Act.eval, n181]
      go_simp
    | 19, _ =>
      have n182 : a.tmps.getD 182 undef = _ := hat 18 (lc (by kernel_rfl)) 182 rfl
      have n177 : a.tmps.getD 177 undef = _ := hat 13 (lc (by kernel_rfl)) 177 rfl
      refine op_runs (d := some 183) npp35bOp19 (wants_some (d := 177) (b := true) (by kernel_rfl) n177) (v := .slice pa np pc) (w' := w) ?_ ⟨183, _, rfl, rfl, Step.refl _ _, rfl⟩
      intro oo hoo
      simp only [execOp, hoo, Act.eval, n182]
      go_simp
    | 20, _ =>
      have n180 : a.tmps.getD 180 undef = _ := hat 16 (lc (by kernel_rfl)) 180 rfl
      have n183 : a.tmps.getD 183 undef = _ := hat 19 (lc (by kernel_rfl)) 183 rfl
      have n177 : a.tmps.getD 177 undef = _ := hat 13 (lc (by kernel_rfl)) 177 rfl
      refine op_calls npp35bOp20 (wants_some (d := 177) (b := true) (by kernel_rfl) n177) Tryz.func59 (by kernel_rfl) (by kernel_rfl) (args := #[.slice ka nk kc, .slice pa np pc]) (by simp [Act.eval, n180, n183]) ((c184 w (Step.refl _ _)).mono ?_)
      rintro e w' ⟨rfl, s'⟩
      exact ⟨_, rfl, 184, _, rfl, rfl, s', rfl⟩
    | 21, _ =>
      have n177 : a.tmps.getD 177 undef = _ := hat 13 (lc (by kernel_rfl)) 177 rfl
      have n184 : a.tmps.getD 184 undef = _ := hat 20 (lc (by kernel_rfl)) 184 rfl
      refine op_runs (d := some 185) npp35bOp21 (wants_none a) (v := .bool false) (w' := w) ?_ ⟨185, _, rfl, rfl, Step.refl _ _, rfl⟩
      intro oo hoo
      simp only [execOp, hoo, Act.eval, n177, n184]
      go_simp
    | 22, _ =>
      have n185 : a.tmps.getD 185 undef = _ := hat 21 (lc (by kernel_rfl)) 185 rfl
      refine op_runs (d := some 186) npp35bOp22 (wants_none a) (v := .bool false) (w' := w) ?_ ⟨186, _, rfl, rfl, Step.refl _ _, rfl⟩
      intro oo hoo
      simp only [execOp, hoo, Act.eval, n185]
      go_simp
    | 23, _ =>
      have n186 : a.tmps.getD 186 undef = _ := hat 22 (lc (by kernel_rfl)) 186 rfl
      exact op_skip npp35bOp23 (dj := 186) (by kernel_rfl) n186 (by decide) ⟨187, undef, rfl, rfl, Step.refl _ _, rfl⟩
    | 24, _ =>
      have n186 : a.tmps.getD 186 undef = _ := hat 22 (lc (by kernel_rfl)) 186 rfl
      exact op_skip npp35bOp24 (dj := 186) (by kernel_rfl) n186 (by decide) ⟨188, undef, rfl, rfl, Step.refl _ _, rfl⟩
    | 25, _ =>
      have n186 : a.tmps.getD 186 undef = _ := hat 22 (lc (by kernel_rfl)) 186 rfl
      have n188 : a.tmps.getD 188 undef = _ := hat 24 (lc (by kernel_rfl)) 188 rfl
      refine op_runs (d := some 189) npp35bOp25 (wants_none a) (v := .bool false) (w' := w) ?_ ⟨189, _, rfl, rfl, Step.refl _ _, rfl⟩
      intro oo hoo
      simp only [execOp, hoo, Act.eval, n186, n188]
      go_simp
    | 26, _ =>
      exact absurd rfl hne
    | 27, _ =>
      have n189 : a.tmps.getD 189 undef = _ := hat 25 (lc (by kernel_rfl)) 189 rfl
      refine op_runs (d := some 3) npp35bOp27 (wants_none a) (v := .bool false) (w' := w) ?_ ⟨3, _, rfl, rfl, Step.refl _ _, rfl⟩
      intro oo hoo
      simp only [execOp, hoo, Act.eval, n189]
      go_simp
    | k + 28, h => exact absurd h (by omega)
  · intro a w hs hfr hat hbx
    have hx : a.tmps.getD 2 undef = _ := (hfr 2 (by decide)).trans h2
    have hy : a.tmps.getD 164 undef = _ := hat 0 (lc (by kernel_rfl)) 164 rfl
    obtain ⟨d0, d1, d2, d3, d4⟩ := hbx.all
    have f0 := hbx.fr 0
    have f1 := hbx.fr 1
    have f2 := hbx.fr 2
    have f3 := hbx.fr 3
    have f4 := hbx.fr 4
    have hr : Skips Tryz.prog a (Op.store 29 (Operand.tmp 2) (Operand.tmp 164)) w (put5 w rb (.bool false) (.slice none 0 0) (.slice ka nk kc) (.slice pa np pc) (.slice ma nm mc)) := by
      intro oo hoo
      simp only [execOp, hoo, Act.eval, hx, hy]
      unfold put5
      go_simp
    exact op_skips npp35bOp26 hr ⟨rfl, step_one5 rb (Step.refl _ _) _ _ _ _ _, hbx.put _ _ _ _ _⟩
  · intro a w hs hdf hs2 hfr hat hbx
    rw [npp35b_size] at hat
    have e := act_vals (a := a) (a0 := a0) npp35bDs (by decide) (fun d hd => by rw [hsz]; exact npp35b_lt d (by revert hd; revert d; decide)) hdf hs2 (fun k hk => hfr k (fun hk2 => hk (by revert hk2; simp [npp35bDl, npp35bDs])))
    rw [e]
    exact hend (fun d => a.tmps.getD d undef) w hs hbx (hat 27 (by omega) 3 rfl)
end Go.Proofs.YtoobelcphcndoaaGreat
namespace Go.Proofs.YtoobelcphcndoaaGreat
open Go.RowKit
set_option linter.unusedVariables false
set_option linter.unusedSimpArgs false


/-- What is said of each slot. -/
def npp35fSp (p nb rb : Nat) (ka pa ma : Option Addr) (nk kc np pc nm mc : Nat) (S : ByteArray) (F : Bool) (i : Nat) (w : World) (v : Value) : Prop := match i with
  | 0 => v = .agg #[.bool false, .slice none 0 0, .slice ka nk kc, .slice pa np pc, .slice ma nm mc]
  | 1 => v = .pointer (some ⟨p, 0, none⟩)
  | 2 => v = .pointer (some ⟨p, 0, none⟩)
  | 3 => v = .pointer (some ⟨p, 1, none⟩)
  | 4 => v = .bool false
  | 5 => v = .bool true
  | 6 => v = .bool true
  | 7 => v = .pointer (some ⟨p, 0, none⟩)
  | 8 => v = .pointer (some ⟨p, 0, none⟩)
  | 9 => v = .pointer (some ⟨p, 0, none⟩)
  | 10 => v = .string S
  | 11 => v = .bool true
  | 12 => v = .bool true
  | 13 => v = .bool true
  | 14 => v = .pointer (some ⟨nb, 2, none⟩)
  | 15 => v = .pointer (some ⟨nb, 2, none⟩)
  | 16 => v = .slice ka nk kc
  | 17 => v = .pointer (some ⟨nb, 2, none⟩)
  | 18 => v = .pointer (some ⟨nb, 3, none⟩)
  | 19 => v = .slice pa np pc
  | 20 => v = .bool true
  | 21 => v = .bool true
  | 22 => v = .bool true
  | 23 => v = .agg #[.bool false, .slice none 0 0, .slice ka nk kc, .slice pa np pc, .slice ma nm mc]
  | 24 => v = .bool F
  | 25 => v = .bool F
  | 26 => True
  | 27 => v = .bool F
  | _ => True
theorem npp35fSp_mono (p nb rb : Nat) (ka pa ma : Option Addr) (nk kc np pc nm mc : Nat) (S : ByteArray) (F : Bool) : ∀ i w w' v, Step (oneF rb) w w' → npp35fSp p nb rb ka pa ma nk kc np pc nm mc S F i w v → npp35fSp p nb rb ka pa ma nk kc np pc nm mc S F i w' v := by
  intro i w w' v hs h
  match i with
  | 0 => exact h
  | 1 => exact h
  | 2 => exact h
  | 3 => exact h
  | 4 => exact h
  | 5 => exact h
  | 6 => exact h
  | 7 => exact h
  | 8 => exact h
  | 9 => exact h
  | 10 => exact h
  | 11 => exact h
  | 12 => exact h
  | 13 => exact h
  | 14 => exact h
  | 15 => exact h
  | 16 => exact h
  | 17 => exact h
  | 18 => exact h
  | 19 => exact h
  | 20 => exact h
  | 21 => exact h
  | 22 => exact h
  | 23 => exact h
  | 24 => exact h
  | 25 => exact h
  | 26 => exact h
  | 27 => exact h
  | k + 28 => exact h

set_option maxHeartbeats 4000000 in
set_option maxRecDepth 100000 in
theorem npp35f_go (p nb rb : Nat) (ka pa ma : Option Addr) (nk kc np pc nm mc : Nat) (S : ByteArray) (F : Bool) (w0 : World) (hpr0 : p ≠ rb) (hnr0 : nb ≠ rb) (k10 : w0.cell? ⟨p, 1, none⟩ = some (.bool false)) (c00 : w0.cell? ⟨nb, 0, none⟩ = some (.bool false)) (c10 : w0.cell? ⟨nb, 1, none⟩ = some (.slice none 0 0)) (c20 : w0.cell? ⟨nb, 2, none⟩ = some (.slice ka nk kc)) (c30 : w0.cell? ⟨nb, 3, none⟩ = some (.slice pa np pc)) (c40 : w0.cell? ⟨nb, 4, none⟩ = some (.slice ma nm mc)) (k00 : w0.cell? ⟨p, 0, none⟩ = some (.string S)) (hS0 : S.toList = []) (c1840 : ∀ w0', Step (oneF rb) w0 w0' → Calls Tryz.prog 59 #[.slice ka nk kc, .slice pa np pc] w0' fun e w0'' => e = .returned (.bool true) ∧ Step noF w0' w0'') (c1880 : ∀ w0', Step (oneF rb) w0 w0' → Calls Tryz.prog 13 #[.agg #[.bool false, .slice none 0 0, .slice ka nk kc, .slice pa np pc, .slice ma nm mc]] w0' fun e w0'' => e = .returned (.bool F) ∧ Step noF w0' w0'')
    {Q : Exit → Act → World → Prop} (a0 : Act) (hsz : a0.tmps.size = 190) (h2 : a0.tmps.getD 2 undef = .pointer (some ⟨rb, 0, none⟩)) (h4 : a0.tmps.getD 4 undef = .pointer (some ⟨p, 0, none⟩)) (h5 : a0.tmps.getD 5 undef = .pointer (some ⟨nb, 0, none⟩))
    (hbox : NdBox w0 rb (.bool false) (.slice none 0 0) (.slice none 0 0) (.slice none 0 0) (.slice none 0 0)) (hend : ∀ (f : Nat → Value) (w : World), Step (oneF rb) w0 w → NdBox w rb (.bool false) (.slice none 0 0) (.slice ka nk kc) (.slice pa np pc) (.slice ma nm mc) → npp35fSp p nb rb ka pa ma nk kc np pc nm mc S F 27 w (f 3) → Q .normal (putAll a0 (npp35bDs.map some) (npp35bDs.map f)) w) :
    (Code.region 35 ((Tryz.f23.body.bind (regionOps 35)).getD #[]) true).wp Tryz.prog Q a0 w0 := by
  refine wp_region_box (oneF rb) 26 (fun w => NdBox w rb (.bool false) (.slice none 0 0) (.slice none 0 0) (.slice none 0 0) (.slice none 0 0)) (fun w => NdBox w rb (.bool false) (.slice none 0 0) (.slice ka nk kc) (.slice pa np pc) (.slice ma nm mc)) (npp35fSp p nb rb ka pa ma nk kc np pc nm mc S F) (npp35fSp_mono p nb rb ka pa ma nk kc np pc nm mc S F) (fun _ h => h) (fun _ _ hs h => h.step hs) (fun _ _ hs h => h.step hs) npp35bDl (by kernel_rfl) npp35b_back npp35b_dl npp35b_nd (fun d h => by rw [hsz]; exact npp35b_lt d h) (by rw [npp35b_size]; decide) rfl hbox ?_ ?_ ?_
  · intro i hi hne a w hs hfr hat
    rw [npp35b_size] at hi
    have n2 := (hfr 2 (by decide)).trans h2
    have n4 := (hfr 4 (by decide)).trans h4
    have n5 := (hfr 5 (by decide)).trans h5
    have hpr : p ≠ rb := hpr0
    have hnr : nb ≠ rb := hnr0
    have k1 : w.cell? ⟨p, 1, none⟩ = some (.bool false) := keepC hs hpr0 k10
    have c0 : w.cell? ⟨nb, 0, none⟩ = some (.bool false) := keepC hs hnr0 c00
    have c1 : w.cell? ⟨nb, 1, none⟩ = some (.slice none 0 0) := keepC hs hnr0 c10
    have c2 : w.cell? ⟨nb, 2, none⟩ = some (.slice ka nk kc) := keepC hs hnr0 c20
    have c3 : w.cell? ⟨nb, 3, none⟩ = some (.slice pa np pc) := keepC hs hnr0 c30
    have c4 : w.cell? ⟨nb, 4, none⟩ = some (.slice ma nm mc) := keepC hs hnr0 c40
    have k0 : w.cell? ⟨p, 0, none⟩ = some (.string S) := keepC hs hpr0 k00
    have hS : S.toList = [] := hS0
    have c184 : ∀ w', Step (oneF rb) w w' → Calls Tryz.prog 59 #[.slice ka nk kc, .slice pa np pc] w' fun e w'' => e = .returned (.bool true) ∧ Step noF w' w'' := fun w' s' => c1840 w' (hs.trans s')
    have c188 : ∀ w', Step (oneF rb) w w' → Calls Tryz.prog 13 #[.agg #[.bool false, .slice none 0 0, .slice ka nk kc, .slice pa np pc, .slice ma nm mc]] w' fun e w'' => e = .returned (.bool F) ∧ Step noF w' w'' := fun w' s' => c1880 w' (hs.trans s')
    match i, hi with
    | 0, _ =>
      refine op_runs (d := some 164) npp35bOp0 (wants_none a) (v := .agg #[.bool false, .slice none 0 0, .slice ka nk kc, .slice pa np pc, .slice ma nm mc]) (w' := w) ?_ ⟨164, _, rfl, rfl, Step.refl _ _, rfl⟩
      intro oo hoo
      simp only [execOp, hoo, Act.eval, n5]
      go_simp
    | 1, _ =>
      refine op_runs (d := some 165) npp35bOp1 (wants_none a) (v := .pointer (some ⟨p, 0, none⟩)) (w' := w) ?_ ⟨165, _, rfl, rfl, Step.refl _ _, rfl⟩
      intro oo hoo
      simp only [execOp, hoo, Act.eval, n4]
      go_simp
    | 2, _ =>
      have n165 : a.tmps.getD 165 undef = _ := hat 1 (lc (by kernel_rfl)) 165 rfl
      refine op_runs (d := some 166) npp35bOp2 (wants_none a) (v := .pointer (some ⟨p, 0, none⟩)) (w' := w) ?_ ⟨166, _, rfl, rfl, Step.refl _ _, rfl⟩
      intro oo hoo
      simp only [execOp, hoo, Act.eval, n165]
      go_simp
    | 3, _ =>
      have n166 : a.tmps.getD 166 undef = _ := hat 2 (lc (by kernel_rfl)) 166 rfl
      refine op_runs (d := some 167) npp35bOp3 (wants_none a) (v := .pointer (some ⟨p, 1, none⟩)) (w' := w) ?_ ⟨167, _, rfl, rfl, Step.refl _ _, rfl⟩
      intro oo hoo
      simp only [execOp, hoo, Act.eval, n166]
      go_simp
    | 4, _ =>
      have n167 : a.tmps.getD 167 undef = _ := hat 3 (lc (by kernel_rfl)) 167 rfl
      refine op_runs (d := some 168) npp35bOp4 (wants_none a) (v := .bool false) (w' := w) ?_ ⟨168, _, rfl, rfl, Step.refl _ _, rfl⟩
      intro oo hoo
      simp only [execOp, hoo, Act.eval, n167]
      go_simp
    | 5, _ =>
      have n168 : a.tmps.getD 168 undef = _ := hat 4 (lc (by kernel_rfl)) 168 rfl
      refine op_runs (d := some 169) npp35bOp5 (wants_none a) (v := .bool true) (w' := w) ?_ ⟨169, _, rfl, rfl, Step.refl _ _, rfl⟩
      intro oo hoo
      simp only [execOp, hoo, Act.eval, n168]
      go_simp
    | 6, _ =>
      have n169 : a.tmps.getD 169 undef = _ := hat 5 (lc (by kernel_rfl)) 169 rfl
      refine op_runs (d := some 170) npp35bOp6 (wants_none a) (v := .bool true) (w' := w) ?_ ⟨170, _, rfl, rfl, Step.refl _ _, rfl⟩
      intro oo hoo
      simp only [execOp, hoo, Act.eval, n169]
      go_simp
    | 7, _ =>
      have n170 : a.tmps.getD 170 undef = _ := hat 6 (lc (by kernel_rfl)) 170 rfl
      refine op_runs (d := some 171) npp35bOp7 (wants_some (d := 170) (b := true) (by kernel_rfl) n170) (v := .pointer (some ⟨p, 0, none⟩)) (w' := w) ?_ ⟨171, _, rfl, rfl, Step.refl _ _, rfl⟩
      intro oo hoo
      simp only [execOp, hoo, Act.eval, n4]
      go_simp
    | 8, _ =>
      have n171 : a.tmps.getD 171 undef = _ := hat 7 (lc (by kernel_rfl)) 171 rfl
      have n170 : a.tmps.getD 170 undef = _ := hat 6 (lc (by kernel_rfl)) 170 rfl
      refine op_runs (d := some 172) npp35bOp8 (wants_some (d := 170) (b := true) (by kernel_rfl) n170) (v := .pointer (some ⟨p, 0, none⟩)) (w' := w) ?_ ⟨172, _, rfl, rfl, Step.refl _ _, rfl⟩
      intro oo hoo
      simp only [execOp, hoo, Act.eval, n171]
      go_simp
    | 9, _ =>
      have n172 : a.tmps.getD 172 undef = _ := hat 8 (lc (by kernel_rfl)) 172 rfl
      have n170 : a.tmps.getD 170 undef = _ := hat 6 (lc (by kernel_rfl)) 170 rfl
      refine op_runs (d := some 173) npp35bOp9 (wants_some (d := 170) (b := true) (by kernel_rfl) n170) (v := .pointer (some ⟨p, 0, none⟩)) (w' := w) ?_ ⟨173, _, rfl, rfl, Step.refl _ _, rfl⟩
      intro oo hoo
      simp only [execOp, hoo, Act.eval, n172]
      go_simp
    | 10, _ =>
      have n173 : a.tmps.getD 173 undef = _ := hat 9 (lc (by kernel_rfl)) 173 rfl
      have n170 : a.tmps.getD 170 undef = _ := hat 6 (lc (by kernel_rfl)) 170 rfl
      refine op_runs (d := some 174) npp35bOp10 (wants_some (d := 170) (b := true) (by kernel_rfl) n170) (v := .string S) (w' := w) ?_ ⟨174, _, rfl, rfl, Step.refl _ _, rfl⟩
      intro oo hoo
      simp only [execOp, hoo, Act.eval, n173]
      go_simp
    | 11, _ =>
      have n174 : a.tmps.getD 174 undef = _ := hat 10 (lc (by kernel_rfl)) 174 rfl
      have n170 : a.tmps.getD 170 undef = _ := hat 6 (lc (by kernel_rfl)) 170 rfl
      refine op_runs (d := some 175) npp35bOp11 (wants_some (d := 170) (b := true) (by kernel_rfl) n170) (v := .bool true) (w' := w) ?_ ⟨175, _, rfl, rfl, Step.refl _ _, rfl⟩
      intro oo hoo
      simp only [execOp, hoo, Act.eval, n174]
      go_simp
    | 12, _ =>
      have n170 : a.tmps.getD 170 undef = _ := hat 6 (lc (by kernel_rfl)) 170 rfl
      have n175 : a.tmps.getD 175 undef = _ := hat 11 (lc (by kernel_rfl)) 175 rfl
      refine op_runs (d := some 176) npp35bOp12 (wants_none a) (v := .bool true) (w' := w) ?_ ⟨176, _, rfl, rfl, Step.refl _ _, rfl⟩
      intro oo hoo
      simp only [execOp, hoo, Act.eval, n170, n175]
      go_simp
    | 13, _ =>
      have n176 : a.tmps.getD 176 undef = _ := hat 12 (lc (by kernel_rfl)) 176 rfl
      refine op_runs (d := some 177) npp35bOp13 (wants_none a) (v := .bool true) (w' := w) ?_ ⟨177, _, rfl, rfl, Step.refl _ _, rfl⟩
      intro oo hoo
      simp only [execOp, hoo, Act.eval, n176]
      go_simp
    | 14, _ =>
      have n177 : a.tmps.getD 177 undef = _ := hat 13 (lc (by kernel_rfl)) 177 rfl
      refine op_runs (d := some 178) npp35bOp14 (wants_some (d := 177) (b := true) (by kernel_rfl) n177) (v := .pointer (some ⟨nb, 2, none⟩)) (w' := w) ?_ ⟨178, _, rfl, rfl, Step.refl _ _, rfl⟩
      intro oo hoo
      simp only [execOp, hoo, Act.eval, n5]
      go_simp
    | 15, _ =>
      have n178 : a.tmps.getD 178 undef = _ := hat 14 (lc (by kernel_rfl)) 178 rfl
      have n177 : a.tmps.getD 177 undef = _ := hat 13 (lc (by kernel_rfl)) 177 rfl
      refine op_runs (d := some 179) npp35bOp15 (wants_some (d := 177) (b := true) (by kernel_rfl) n177) (v := .pointer (some ⟨nb, 2, none⟩)) (w' := w) ?_ ⟨179, _, rfl, rfl, Step.refl _ _, rfl⟩
      intro oo hoo
      simp only [execOp, hoo, Act.eval, n178]
      go_simp
    | 16, _ =>
      have n179 : a.tmps.getD 179 undef = _ := hat 15 (lc (by kernel_rfl)) 179 rfl
      have n177 : a.tmps.getD 177 undef = _ := hat 13 (lc (by kernel_rfl)) 177 rfl
      refine op_runs (d := some 180) npp35bOp16 (wants_some (d := 177) (b := true) (by kernel_rfl) n177) (v := .slice ka nk kc) (w' := w) ?_ ⟨180, _, rfl, rfl, Step.refl _ _, rfl⟩
      intro oo hoo
      simp only [execOp, hoo, Act.eval, n179]
      go_simp
    | 17, _ =>
      have n177 : a.tmps.getD 177 undef = _ := hat 13 (lc (by kernel_rfl)) 177 rfl
      refine op_runs (d := some 181) npp35bOp17 (wants_some (d := 177) (b := true) (by kernel_rfl) n177) (v := .pointer (some ⟨nb, 2, none⟩)) (w' := w) ?_ ⟨181, _, rfl, rfl, Step.refl _ _, rfl⟩
      intro oo hoo
      simp only [execOp, hoo, Act.eval, n5]
      go_simp
    | 18, _ =>
      have n181 : a.tmps.getD 181 undef = _ := hat 17 (lc (by kernel_rfl)) 181 rfl
      have n177 : a.tmps.getD 177 undef = _ := hat 13 (lc (by kernel_rfl)) 177 rfl
      refine op_runs (d := some 182) npp35bOp18 (wants_some (d := 177) (b := true) (by kernel_rfl) n177) (v := .pointer (some ⟨nb, 3, none⟩)) (w' := w) ?_ ⟨182, _, rfl, rfl, Step.refl _ _, rfl⟩
      intro oo hoo
      simp only [execOp, hoo, Act.eval, n181]
      go_simp
    | 19, _ =>
      have n182 : a.tmps.getD 182 undef = _ := hat 18 (lc (by kernel_rfl)) 182 rfl
      have n177 : a.tmps.getD 177 undef = _ := hat 13 (lc (by kernel_rfl)) 177 rfl
      refine op_runs (d := some 183) npp35bOp19 (wants_some (d := 177) (b := true) (by kernel_rfl) n177) (v := .slice pa np pc) (w' := w) ?_ ⟨183, _, rfl, rfl, Step.refl _ _, rfl⟩
      intro oo hoo
      simp only [execOp, hoo, Act.eval, n182]
      go_simp
    | 20, _ =>
      have n180 : a.tmps.getD 180 undef = _ := hat 16 (lc (by kernel_rfl)) 180 rfl
      have n183 : a.tmps.getD 183 undef = _ := hat 19 (lc (by kernel_rfl)) 183 rfl
      have n177 : a.tmps.getD 177 undef = _ := hat 13 (lc (by kernel_rfl)) 177 rfl
      refine op_calls npp35bOp20 (wants_some (d := 177) (b := true) (by kernel_rfl) n177) Tryz.func59 (by kernel_rfl) (by kernel_rfl) (args := #[.slice ka nk kc, .slice pa np pc]) (by simp [Act.eval, n180, n183]) ((c184 w (Step.refl _ _)).mono ?_)
      rintro e w' ⟨rfl, s'⟩
      exact ⟨_, rfl, 184, _, rfl, rfl, s', rfl⟩
    | 21, _ =>
      have n177 : a.tmps.getD 177 undef = _ := hat 13 (lc (by kernel_rfl)) 177 rfl
      have n184 : a.tmps.getD 184 undef = _ := hat 20 (lc (by kernel_rfl)) 184 rfl
      refine op_runs (d := some 185) npp35bOp21 (wants_none a) (v := .bool true) (w' := w) ?_ ⟨185, _, rfl, rfl, Step.refl _ _, rfl⟩
      intro oo hoo
      simp only [execOp, hoo, Act.eval, n177, n184]
      go_simp
    | 22, _ =>
      have n185 : a.tmps.getD 185 undef = _ := hat 21 (lc (by kernel_rfl)) 185 rfl
      refine op_runs (d := some 186) npp35bOp22 (wants_none a) (v := .bool true) (w' := w) ?_ ⟨186, _, rfl, rfl, Step.refl _ _, rfl⟩
      intro oo hoo
      simp only [execOp, hoo, Act.eval, n185]
      go_simp
    | 23, _ =>
      have n186 : a.tmps.getD 186 undef = _ := hat 22 (lc (by kernel_rfl)) 186 rfl
      refine op_runs (d := some 187) npp35bOp23 (wants_some (d := 186) (b := true) (by kernel_rfl) n186) (v := .agg #[.bool false, .slice none 0 0, .slice ka nk kc, .slice pa np pc, .slice ma nm mc]) (w' := w) ?_ ⟨187, _, rfl, rfl, Step.refl _ _, rfl⟩
      intro oo hoo
      simp only [execOp, hoo, Act.eval, n5]
      go_simp
    | 24, _ =>
      have n187 : a.tmps.getD 187 undef = _ := hat 23 (lc (by kernel_rfl)) 187 rfl
      have n186 : a.tmps.getD 186 undef = _ := hat 22 (lc (by kernel_rfl)) 186 rfl
      refine op_calls npp35bOp24 (wants_some (d := 186) (b := true) (by kernel_rfl) n186) Tryz.func13 (by kernel_rfl) (by kernel_rfl) (args := #[.agg #[.bool false, .slice none 0 0, .slice ka nk kc, .slice pa np pc, .slice ma nm mc]]) (by simp [Act.eval, n187]) ((c188 w (Step.refl _ _)).mono ?_)
      rintro e w' ⟨rfl, s'⟩
      exact ⟨_, rfl, 188, _, rfl, rfl, s', rfl⟩
    | 25, _ =>
      have n186 : a.tmps.getD 186 undef = _ := hat 22 (lc (by kernel_rfl)) 186 rfl
      have n188 : a.tmps.getD 188 undef = _ := hat 24 (lc (by kernel_rfl)) 188 rfl
      refine op_runs (d := some 189) npp35bOp25 (wants_none a) (v := .bool F) (w' := w) ?_ ⟨189, _, rfl, rfl, Step.refl _ _, rfl⟩
      intro oo hoo
      simp only [execOp, hoo, Act.eval, n186, n188]
      go_simp
    | 26, _ =>
      exact absurd rfl hne
    | 27, _ =>
      have n189 : a.tmps.getD 189 undef = _ := hat 25 (lc (by kernel_rfl)) 189 rfl
      refine op_runs (d := some 3) npp35bOp27 (wants_none a) (v := .bool F) (w' := w) ?_ ⟨3, _, rfl, rfl, Step.refl _ _, rfl⟩
      intro oo hoo
      simp only [execOp, hoo, Act.eval, n189]
      go_simp
    | k + 28, h => exact absurd h (by omega)
  · intro a w hs hfr hat hbx
    have hx : a.tmps.getD 2 undef = _ := (hfr 2 (by decide)).trans h2
    have hy : a.tmps.getD 164 undef = _ := hat 0 (lc (by kernel_rfl)) 164 rfl
    obtain ⟨d0, d1, d2, d3, d4⟩ := hbx.all
    have f0 := hbx.fr 0
    have f1 := hbx.fr 1
    have f2 := hbx.fr 2
    have f3 := hbx.fr 3
    have f4 := hbx.fr 4
    have hr : Skips Tryz.prog a (Op.store 29 (Operand.tmp 2) (Operand.tmp 164)) w (put5 w rb (.bool false) (.slice none 0 0) (.slice ka nk kc) (.slice pa np pc) (.slice ma nm mc)) := by
      intro oo hoo
      simp only [execOp, hoo, Act.eval, hx, hy]
      unfold put5
      go_simp
    exact op_skips npp35bOp26 hr ⟨rfl, step_one5 rb (Step.refl _ _) _ _ _ _ _, hbx.put _ _ _ _ _⟩
  · intro a w hs hdf hs2 hfr hat hbx
    rw [npp35b_size] at hat
    have e := act_vals (a := a) (a0 := a0) npp35bDs (by decide) (fun d hd => by rw [hsz]; exact npp35b_lt d (by revert hd; revert d; decide)) hdf hs2 (fun k hk => hfr k (fun hk2 => hk (by revert hk2; simp [npp35bDl, npp35bDs])))
    rw [e]
    exact hend (fun d => a.tmps.getD d undef) w hs hbx (hat 27 (by omega) 3 rfl)
end Go.Proofs.YtoobelcphcndoaaGreat
