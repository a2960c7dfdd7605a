/-
  The law's own check: answers that the document fixes.
-/
import Derived.Test.YtilinbmocmodhaaKeyJ
import Derived.Test.YtilinbmocmodhaaKeyL
namespace Go.Proofs.Ytilinbmocmodhaa
open Go.RowKit
set_option linter.unusedVariables false
set_option linter.unusedSimpArgs false

set_option maxHeartbeats 4000000 in
set_option maxRecDepth 100000 in
theorem awake_any (w : World) : Calls Try.prog 6 #[] w fun e w' => e = .returned (.bool true) ∧ Step noF w w' := by
  have n1 : ∀ u, Calls Try.prog 21 #[.string ⟨#[97]⟩] u fun e w' => e = .returned (.tuple #[.string ⟨#[97, 0]⟩, .bool true]) ∧ Step noF u w' := fun u => next_any [97] u
  have n2 : ∀ u, Calls Try.prog 21 #[.string ⟨#[97, 98, 99, 100, 101, 102, 103, 104]⟩] u fun e w' => e = .returned (.tuple #[.string ⟨#[97, 98, 99, 100, 101, 102, 103, 105]⟩, .bool true]) ∧ Step noF u w' := fun u => next_any [97, 98, 99, 100, 101, 102, 103, 104] u
  have n3 : ∀ u, Calls Try.prog 22 #[.string ⟨#[97, 98, 99]⟩, .string ⟨#[97, 98, 120, 121, 122]⟩] u fun e w' => e = .returned (.tuple #[.string ⟨#[97, 98, 120]⟩, .bool true]) ∧ Step noF u w' := fun u => by
    have h := sep_any [97, 98, 99] [97, 98, 120, 121, 122] u
    have e : optV (sepL [97, 98, 99] [97, 98, 120, 121, 122]) = .tuple #[.string ⟨#[97, 98, 120]⟩, .bool true] := by
      have : sepL [97, 98, 99] [97, 98, 120, 121, 122] = some [97, 98, 120] := by decide
      rw [this]
      rfl
    rw [e] at h
    exact h
  have n4 : ∀ u, Calls Try.prog 7 #[.string ⟨#[0, 0, 0, 0, 0, 0, 1, 2]⟩] u fun e w' => e = .returned (.tuple #[.int .u64 258, .bool true]) ∧ Step noF u w' := fun u => keyNumber_any [0, 0, 0, 0, 0, 0, 1, 2] (by decide) u
  have i1 : ∀ u, Calls Try.prog 23 #[.string ⟨#[97]⟩] u fun e w' => e = .returned (.bool true) ∧ u = w' := fun u => is_any [97] u
  have i2 : ∀ u, Calls Try.prog 23 #[.string ⟨#[]⟩] u fun e w' => e = .returned (.bool false) ∧ u = w' := fun u => is_any [] u
  have i3 : ∀ u, Calls Try.prog 23 #[.string ⟨#[97, 98, 99, 100, 101, 102, 103, 104, 105]⟩] u fun e w' => e = .returned (.bool false) ∧ u = w' := fun u => is_any [97, 98, 99, 100, 101, 102, 103, 104, 105] u
  have i4 : ∀ u, Calls Try.prog 24 #[.string ⟨#[]⟩] u fun e w' => e = .returned (.bool true) ∧ u = w' := fun u => isVal_any [] u
  have g1 : ∀ u, Calls Try.prog 15 #[.agg #[.string ⟨#[97]⟩, .string ⟨#[98]⟩], .string ⟨#[97, 98]⟩] u fun e w' => e = .returned (.bool true) ∧ Step noF u w' := fun u => by
    have h := has_any ⟨[97], [98]⟩ [97, 98] u
    rw [show Rg.has ⟨[97], [98]⟩ [97, 98] = true by decide] at h
    exact h
  have g2 : ∀ u, Calls Try.prog 15 #[.agg #[.string ⟨#[97]⟩, .string ⟨#[98]⟩], .string ⟨#[98]⟩] u fun e w' => e = .returned (.bool false) ∧ Step noF u w' := fun u => by
    have h := has_any ⟨[97], [98]⟩ [98] u
    rw [show Rg.has ⟨[97], [98]⟩ [98] = false by decide] at h
    exact h
  go_enter Try.func6, Try.ntmps6
  go_wp2_with fail
  refine (n1 _).mono ?_
  rintro e w1 ⟨rfl, s1⟩
  go_wp2_with fail
  refine (n2 _).mono ?_
  rintro e w2 ⟨rfl, s2⟩
  go_wp2_with fail
  refine (n3 _).mono ?_
  rintro e w3 ⟨rfl, s3⟩
  go_wp2_with fail
  refine (n4 _).mono ?_
  rintro e w4 ⟨rfl, s4⟩
  go_wp2_with fail
  refine (i1 _).mono ?_
  rintro e w' ⟨rfl, rfl⟩
  go_wp2_with fail
  refine (i2 _).mono ?_
  rintro e w' ⟨rfl, rfl⟩
  go_wp2_with fail
  refine (i3 _).mono ?_
  rintro e w' ⟨rfl, rfl⟩
  go_wp2_with fail
  refine (i4 _).mono ?_
  rintro e w' ⟨rfl, rfl⟩
  go_wp2_with fail
  refine (g1 _).mono ?_
  rintro e w5 ⟨rfl, s5⟩
  go_wp2_with fail
  refine (g2 _).mono ?_
  rintro e w6 ⟨rfl, s6⟩
  go_wp2_with fail
  go_ret
  exact ⟨rfl, ((((s1.trans s2).trans s3).trans s4).trans s5).trans s6⟩
end Go.Proofs.Ytilinbmocmodhaa
