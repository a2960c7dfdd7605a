/-
  What Cut does.
-/
import Derived.Test.YtgmgoaencaldmaaGreatKeyG
import Derived.Deep.RegionWith
namespace Go.Proofs.YtgmgoaencaldmaaGreat
open Go.RowKit
set_option linter.unusedVariables false
set_option linter.unusedSimpArgs false

set_option maxHeartbeats 4000000 in
set_option maxRecDepth 100000 in
theorem cut_any (r : Rg) (ps : List (List UInt8)) (hl : ps.length ≤ 1000) (a : Option Addr) (cap : Nat) (w : World) (h : RowAt w noF a (texts ps)) :
    Calls Tryz.prog 45 #[r.val, .slice a ps.length cap] w fun e w' => ∃ a' c, e = .returned (.slice a' (ps.length + 1) c) ∧ ps.length + 1 ≤ c ∧ RgsAt w' a' (r.cut ps) ∧ Step noF w w' := by
  have e0 : r.val = .agg #[.string (str r.lo), .string (str r.hi)] := rfl
  have HR := hid h
  clear h
  by_cases hp : ps = []
  · subst hp
    have HC : Hid (r.cut [] = [r]) := rfl
    have HB : Hid (RgsAt ((w.alloc (.cells #[.string (str r.lo), .string (str r.hi)] 26)).alloc (.cells #[.string (str r.lo), .string (str r.hi)] 26)) (some ⟨w.heap.size + 1, 0, none⟩) [r]) := by
      have hb := block_alloc_new (w.alloc (.cells #[.string (str r.lo), .string (str r.hi)] 26)) (.cells #[.string (str r.lo), .string (str r.hi)] 26)
      rw [World.size_alloc] at hb
      exact rgsAt_block hb (rest := []) rfl
    rw [e0]
    go_enter Tryz.func45, Tryz.ntmps45
    go_wp2_with fail
    go_ret
    exact ⟨_, _, rfl, Nat.le_refl _, by rw [HC.out]; exact HB.out, ((Step.refl noF w).alloc _).alloc _⟩
  · have hp0 : ps.length ≠ 0 := fun h => hp (List.eq_nil_of_length_eq_zero h)
    have HC : Hid (r.cut ps = (partsL [] ps).map r.meet) := by show _ = _; simp [Rg.cut, hp]
    have hmf : ∀ (fn : Fn) (first cap : Array Value) (w : World), (Instr.makeFunc fn first cap).run Tryz.prog w = .ok (.func fn first cap) w := fun _ _ _ _ => rfl
    have hE := fun a' c (u : World) (hu : RgsAt u a' (partsL [] ps)) => keyEach_any r (partsL [] ps) (by rw [partsL_length]; omega) a' c u hu
    rw [partsL_length, e0] at hE
    rw [e0]
    have hR2 : Hid (RowAt (w.alloc (.cells #[.string (str r.lo), .string (str r.hi)] 26)) noF a (texts ps)) := HR.out.step ((Step.refl noF w).alloc _)
    have k0 : (w.alloc (.cells #[.string (str r.lo), .string (str r.hi)] 26)).cell? ⟨w.heap.size, 0, none⟩ = some (.string (str r.lo)) := (pair_new w 26 r.lo r.hi).c0
    have k1 : (w.alloc (.cells #[.string (str r.lo), .string (str r.hi)] 26)).cell? ⟨w.heap.size, 1, none⟩ = some (.string (str r.hi)) := (pair_new w 26 r.lo r.hi).c1
    clear hp
    go_enter Tryz.func45, Tryz.ntmps45
    go_wp2_with fail
    go_region_with (first
      | (go_at_call 74; refine (keyParts_any ps hl a cap _ (by exact hR2.out)).mono ?_; rintro e w2 ⟨a', c, rfl, hc, hr, s2⟩; have g0 := s2.after k0; have g1 := s2.after k1)
      | (go_at_call 72; refine (hE _ _ _ (by exact hr)).mono ?_; rintro e w3 ⟨a3, c3, rfl, hc3, hr3, s3⟩))
    all_goals
      go_wp2_with fail
      go_ret
      exact ⟨a3, c3, rfl, hc3, by rw [HC.out]; exact hr3, (((Step.refl noF w).alloc _).drew.trans s2).trans s3⟩
end Go.Proofs.YtgmgoaencaldmaaGreat
