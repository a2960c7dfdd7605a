/-
  What the small functions of package key, and of the reference, do: keys, whether a range can be, which keys it has.
-/
import Derived.Test.YthniannpamcajaaRows
import Derived.Test.YthniannpamcajaaKeyM
import Derived.Laws.Cover1
namespace Go.Proofs.Ythniannpamcajaa
open Go.RowKit
set_option linter.unusedVariables false
set_option linter.unusedSimpArgs false

theorem isEnd_any (l : List UInt8) (w : World) : Calls Try.prog 51 #[.string (str l)] w fun e w' => e = .returned (.bool (decide (l.length ≤ 8))) ∧ w = w' := by
  have hz := str_size
  by_cases h : l.length ≤ 8
  all_goals
    go_enter Try.func51, Try.ntmps51
    go_wp2
    go_ret
    exact ⟨ret_bool (by rw [Bool.eq_iff_iff]; simp; omega), rfl⟩
theorem isVal_any (l : List UInt8) (w : World) : Calls Try.prog 52 #[.string (str l)] w fun e w' => e = .returned (.bool (decide (l.length ≤ 16))) ∧ w = w' := by
  have hz := str_size
  by_cases h : l.length ≤ 16
  all_goals
    go_enter Try.func52, Try.ntmps52
    go_wp2
    go_ret
    exact ⟨ret_bool (by rw [Bool.eq_iff_iff]; simp; omega), rfl⟩
theorem is_any (l : List UInt8) (w : World) : Calls Try.prog 36 #[.string (str l)] w fun e w' => e = .returned (.bool (isK l)) ∧ w = w' := by
  have hE := same_str
  have h0 := nil_str
  by_cases h : l = []
  · go_enter Try.func36, Try.ntmps36
    go_wp2
    go_ret
    exact ⟨ret_bool (by simp [isK, h]), rfl⟩
  · go_enter Try.func36, Try.ntmps36
    go_wp2_with (go_at_call 51; refine (isEnd_any _ _).mono ?_; rintro e w' ⟨rfl, rfl⟩)
    go_ret
    exact ⟨ret_bool (by simp [isK, h]), rfl⟩
/-- -1, 0 or 1. -/
def cmpL (a b : List UInt8) : Int := if a < b then -1 else if b < a then 1 else 0
/-- Ends of ranges: an empty one is behind all. -/
def cmpH (a b : List UInt8) : Int := if a = [] ∨ b = [] then - cmpL a b else cmpL a b
theorem cmpH_min (a b : List UInt8) : (if cmpH b a < 0 then b else a) = minH a b := by
  unfold cmpH cmpL minH
  have h1 := pos_iff a
  have h2 := pos_iff b
  grind
end Go.Proofs.Ythniannpamcajaa
