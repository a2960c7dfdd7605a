/-
  'awake' (of the statements of layer 2) answers true.
-/
import Derived.Test.YtdlgacbmfhkamaaDoorCrcCalls
namespace Go.Proofs.YtdlgacbmfhkamaaDoor
open Go.RowKit
set_option linter.unusedVariables false

set_option maxHeartbeats 1000000 in
set_option maxRecDepth 100000 in
theorem awake_any (w : World) (ht : Tabs w) : Calls Tryd.prog 7 #[] w fun e w' => e = .returned (.bool true) ∧ Step noF w w' := by
  go_enter Tryd.func7, Tryd.ntmps7
  go_wp2_with fail
  refine (parse_call ⟨#[101, 51, 48, 54, 57, 50, 56, 51]⟩ (by decide) _ 3808858755 true (by decide) (by decide)).mono ?_
  rintro e w1 ⟨rfl, rfl⟩
  go_wp2_with fail
  refine (parse_call ⟨#[69, 51, 48, 54, 57, 50, 56, 51]⟩ (by decide) _ 0 false (by decide) (by decide)).mono ?_
  rintro e w1 ⟨rfl, rfl⟩
  go_wp2_with fail
  refine (sum_call [⟨#[49, 50, 51, 52]⟩, ⟨#[53, 54, 55, 56, 57]⟩] 2 rfl (by decide) (by decide) _ 2 _ (ht.step ((Step.refl _ _).alloc _)) (strs2 _ _ _ rfl _ _) 3808858755 (by decide +kernel)).mono ?_
  rintro e w2 ⟨rfl, s2⟩
  have a2 := ((Step.refl noF w).alloc _).trans s2
  have t2 := ht.step a2
  go_wp2_with fail
  refine (sum_call [] 0 rfl (by decide) (by decide) _ 0 _ t2 RowAt.nil 0 (by decide +kernel)).mono ?_
  rintro e w3 ⟨rfl, s3⟩
  have a3 := a2.trans s3
  have t3 := ht.step a3
  go_wp2_with fail
  refine (sum_call [⟨#[49]⟩] 1 rfl (by decide) (by decide) _ 1 _ (t3.step ((Step.refl _ _).alloc _)) (strs1 _ _ _ rfl _) 2432014819 (by decide +kernel)).mono ?_
  rintro e w4 ⟨rfl, s4⟩
  have a4 := (a3.alloc _).trans s4
  have t4 := ht.step a4
  go_wp2_with fail
  refine (more_call 2432014819 (by decide) [⟨#[50, 51, 52, 53, 54, 55, 56, 57]⟩] 1 rfl (by decide) (by decide) _ 1 _ (t4.step ((Step.refl _ _).alloc _)) (strs1 _ _ _ rfl _) 3808858755 (by decide +kernel)).mono ?_
  rintro e w5 ⟨rfl, s5⟩
  have a5 := (a4.alloc _).trans s5
  go_wp2_with fail
  refine (text_call 1 (by decide) _ ⟨#[48, 48, 48, 48, 48, 48, 48, 49]⟩ rfl).mono ?_
  rintro e w6 ⟨rfl, s6⟩
  go_wp2_with fail
  go_ret
  exact ⟨rfl, a5.trans s6⟩
end Go.Proofs.YtdlgacbmfhkamaaDoor
