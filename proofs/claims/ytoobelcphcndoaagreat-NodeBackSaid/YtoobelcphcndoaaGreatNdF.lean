/-
  Whether two nodes are the same.
-/
import Derived.Test.YtoobelcphcndoaaGreatNdSt
import Derived.Test.YtoobelcphcndoaaGreatNdSf
import Derived.Test.YtoobelcphcndoaaGreatLfG
import Derived.Test.YtoobelcphcndoaaGreatInS
namespace Go.Proofs.YtoobelcphcndoaaGreat
open Go.RowKit Go.Sort
set_option linter.unusedVariables false
set_option linter.unusedSimpArgs false
set_option maxRecDepth 20000

theorem same_none2 (p : Nat) (w : World) : Calls Tryz.prog 29 #[.pointer none, .pointer (some ⟨p, 0, none⟩)] w fun e w' => e = .returned (.bool false) ∧ w = w' := by
  have hq : ∀ w : World, (binOp .eql 43 (.pointer none) (.pointer (some ⟨p, 0, none⟩))).run Tryz.prog w = .ok (.bool false) w := fun w => by
    have h : ∀ d : Nat, (Op.equalIn (d + 1) 43 (.pointer none) (.pointer (some ⟨p, 0, none⟩))).run Tryz.prog w = .ok false w := fun d => by
      simp [Op.equalIn, run_underlying Tryz.underlying43]
    simp only [binOp]
    simp [Op.equal, Op.maxDepth, h 9999]
  go_enter Tryz.func29, Tryz.ntmps29
  go_wp2_with fail
  go_ret
  exact ⟨rfl, rfl⟩
/-- Whether both are the same. -/
def sameV : Nv → Nv → Bool
  | .leaf xs, .leaf ys => sameB xs ys
  | .inn d, .inn e => sameN d e
  | _, _ => false
theorem sameV_iff (v u : Nv) : sameV v u = true ↔ v = u := by
  cases v with
  | leaf xs =>
    cases u with
    | leaf ys =>
      show sameB xs ys = true ↔ _
      rw [sameB_iff]
      exact ⟨fun h => by rw [h], fun h => by cases h; rfl⟩
    | inn e => exact ⟨(fun h => by cases h), (fun h => by cases h)⟩
  | inn d =>
    cases u with
    | leaf ys => exact ⟨(fun h => by cases h), (fun h => by cases h)⟩
    | inn e =>
      show sameN d e = true ↔ _
      rw [sameN_iff]
      exact ⟨fun h => by rw [h], fun h => by cases h; rfl⟩
theorem sameV_self (v : Nv) : sameV v v = true := (sameV_iff v v).2 rfl
theorem ndSame_t (p p2 : Nat) (y1 y2 z1 z2 : Option Addr) (B : Bool) (w : World) (k1 : w.cell? ⟨p, 0, none⟩ = some (.pointer y1)) (k2 : w.cell? ⟨p2, 0, none⟩ = some (.pointer y2)) (k3 : w.cell? ⟨p, 1, none⟩ = some (.pointer z1)) (k4 : w.cell? ⟨p2, 1, none⟩ = some (.pointer z2))
    (cL : ∀ w', Step noF w w' → Calls Tryz.prog 29 #[.pointer y1, .pointer y2] w' fun e w'' => e = .returned (.bool true) ∧ Step noF w' w'')
    (cI : ∀ w', Step noF w w' → Calls Tryz.prog 34 #[.pointer z1, .pointer z2] w' fun e w'' => e = .returned (.bool B) ∧ Step noF w' w'') :
    Calls Tryz.prog 17 #[.pointer (some ⟨p, 0, none⟩), .pointer (some ⟨p2, 0, none⟩)] w fun e w' => e = .returned (.bool B) ∧ Step noF w w' := by
  go_enter Tryz.func17, Tryz.ntmps17
  go_upto_region 3 with fail
  change Code.wp _ (Code.region 3 ((Tryz.f17.body.bind (regionOps 3)).getD #[]) true) _ _ _
  refine ndst_go p p2 y1 y2 z1 z2 B w k1 k2 cL k3 k4 cI _ rfl rfl rfl ?_
  intro ff w1 s1 e4
  have e4' : ff 4 = .bool B := e4
  rw [ndst_lit, e4']
  go_wp2_with fail
  go_ret
  exact ⟨rfl, s1⟩
theorem ndSame_f (p p2 : Nat) (y1 y2 : Option Addr) (w : World) (k1 : w.cell? ⟨p, 0, none⟩ = some (.pointer y1)) (k2 : w.cell? ⟨p2, 0, none⟩ = some (.pointer y2))
    (cL : ∀ w', Step noF w w' → Calls Tryz.prog 29 #[.pointer y1, .pointer y2] w' fun e w'' => e = .returned (.bool false) ∧ Step noF w' w'') :
    Calls Tryz.prog 17 #[.pointer (some ⟨p, 0, none⟩), .pointer (some ⟨p2, 0, none⟩)] w fun e w' => e = .returned (.bool false) ∧ Step noF w w' := by
  go_enter Tryz.func17, Tryz.ntmps17
  go_upto_region 3 with fail
  change Code.wp _ (Code.region 3 ((Tryz.f17.body.bind (regionOps 3)).getD #[]) true) _ _ _
  refine ndsf_go p p2 y1 y2 none none false w k1 k2 cL _ rfl rfl rfl ?_
  intro ff w1 s1 e4
  have e4' : ff 4 = .bool false := e4
  rw [ndsf_lit, e4']
  go_wp2_with fail
  go_ret
  exact ⟨rfl, s1⟩
theorem step_of_eq {w w' : World} (h : w = w') : Step noF w w' := h ▸ Step.refl _ _
theorem ndSame_any (p p2 : Nat) (v u : Nv) (hv : v.small) (hu : u.small) (w : World) (h : NodeAt w p v) (h2 : NodeAt w p2 u) :
    Calls Tryz.prog 17 #[.pointer (some ⟨p, 0, none⟩), .pointer (some ⟨p2, 0, none⟩)] w fun e w' => e = .returned (.bool (sameV v u)) ∧ Step noF w w' := by
  cases v with
  | leaf xs =>
    obtain ⟨q, a0, a1, hL⟩ := h.cellL
    cases u with
    | leaf ys =>
      obtain ⟨q2, b0, b1, hL2⟩ := h2.cellL
      show Calls _ _ _ _ fun e w' => e = .returned (.bool (sameB xs ys)) ∧ Step noF w w'
      have cS := fun w' (hs : Step noF w w') => same_any q q2 xs ys ⟨hv.1, hu.1⟩ w' (hL.step hs) (hL2.step hs)
      cases hB : sameB xs ys with
      | true =>
        rw [hB] at cS
        exact ndSame_t p p2 _ _ _ _ true w a0 b0 a1 b1 cS (fun w' _ => (sameNd_nil w').mono (fun e w'' he => ⟨he.1, step_of_eq he.2⟩))
      | false =>
        rw [hB] at cS
        exact ndSame_f p p2 _ _ w a0 b0 cS
    | inn e =>
      obtain ⟨q2, b0, b1, hL2⟩ := h2.cellI
      exact ndSame_f p p2 _ _ w a0 b0 (fun w' _ => (same_none q w').mono (fun e w'' he => ⟨he.1, step_of_eq he.2⟩))
  | inn d =>
    obtain ⟨q, a0, a1, hL⟩ := h.cellI
    cases u with
    | leaf ys =>
      obtain ⟨q2, b0, b1, hL2⟩ := h2.cellL
      exact ndSame_f p p2 _ _ w a0 b0 (fun w' _ => (same_none2 q2 w').mono (fun e w'' he => ⟨he.1, step_of_eq he.2⟩))
    | inn e =>
      obtain ⟨q2, b0, b1, hL2⟩ := h2.cellI
      show Calls _ _ _ _ fun e_1 w' => e_1 = .returned (.bool (sameN d e)) ∧ Step noF w w'
      exact ndSame_t p p2 _ _ _ _ (sameN d e) w a0 b0 a1 b1 (fun w' _ => (same_nil w').mono (fun e w'' he => ⟨he.1, step_of_eq he.2⟩)) (fun w' hs => sameNd_any q q2 d e ⟨⟨hv.1, hv.2.1, hv.2.2.1⟩, ⟨hu.1, hu.2.1, hu.2.2.1⟩⟩ w' (hL.step hs) (hL2.step hs))
theorem ndSame_nil2 (w : World) : Calls Tryz.prog 17 #[.pointer none, .pointer none] w fun e w' => e = .returned (.bool true) ∧ w = w' := by
  go_enter Tryz.func17, Tryz.ntmps17
  go_wp2_with fail
  go_ret
  exact ⟨rfl, rfl⟩
theorem ndSame_nilr (p : Nat) (w : World) : Calls Tryz.prog 17 #[.pointer (some ⟨p, 0, none⟩), .pointer none] w fun e w' => e = .returned (.bool false) ∧ w = w' := by
  go_enter Tryz.func17, Tryz.ntmps17
  go_wp2_with fail
  go_ret
  exact ⟨rfl, rfl⟩
end Go.Proofs.YtoobelcphcndoaaGreat
