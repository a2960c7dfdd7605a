/-
  What slices.MinFunc does with the ends of two ranges, and Meet, of the program and of the reference.
-/
import Derived.Test.YtgmgoaencaldmaaKeyA
import Derived.Test.YtgmgoaencaldmaaPred
import Derived.Test.YtgmgoaencaldmaaRowIn
namespace Go.Proofs.Ytgmgoaencaldmaa
open Go.RowKit
set_option linter.unusedVariables false
set_option linter.unusedSimpArgs false

set_option maxHeartbeats 1000000 in
theorem minFunc_any (a b : List UInt8) (g cap : Nat) (w : World) (h : RowIn w g 9 [.string (str a), .string (str b)]) :
    Calls Try.prog 79 #[.slice (some ⟨g, 0, none⟩) 2 cap, .func (.func 80) #[] #[]] w fun e w' => e = .returned (.string (str (minH a b))) ∧ Step noF w w' := by
  have c0 : w.cell? ⟨g, 0, none⟩ = some (.string (str a)) := h.cell 0 (by simp)
  have c1 : w.cell? ⟨g, 1, none⟩ = some (.string (str b)) := h.cell 1 (by simp)
  have hm := hid (cmpH_min a b)
  clear h
  go_enter Try.func79, Try.ntmps79
  go_wp2_with fail
  go_loopw [5, 6] (fun v i wr => w = wr ∧ ((i = .int .i64 1 ∧ v = .string (str a)) ∨ (i = .int .i64 2 ∧ v = .string (str (minH a b))))) (fun _ i _ => 2 - (intOf i).toNat)
  case atStart => exact ⟨rfl, .inl ⟨rfl, rfl⟩⟩
  case round =>
    obtain ⟨rfl, (⟨rfl, rfl⟩ | ⟨rfl, rfl⟩)⟩ := hrel
    · by_cases hc : cmpH b a < 0
      · go_wp2_with fail
        refine (compareHi_any _ _ _).mono ?_
        rintro e w' ⟨rfl, rfl⟩
        go_wp2_with fail
        go_roundw
        case rel => exact ⟨by first | trivial | rfl, .inr ⟨rfl, by rw [← hm.out, if_pos hc]⟩⟩
        case measure => simp [intOf]
      · go_wp2_with fail
        refine (compareHi_any _ _ _).mono ?_
        rintro e w' ⟨rfl, rfl⟩
        go_wp2_with fail
        go_roundw
        case rel => exact ⟨by first | trivial | rfl, .inr ⟨rfl, by rw [← hm.out, if_neg (by omega)]⟩⟩
        case measure => simp [intOf]
    · go_wp2_with fail
      go_ret
      exact ⟨rfl, Step.refl _ _⟩
end Go.Proofs.Ytgmgoaencaldmaa
