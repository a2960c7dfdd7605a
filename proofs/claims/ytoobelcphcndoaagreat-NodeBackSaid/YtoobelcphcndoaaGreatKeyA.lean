/-
  What the small functions of package key, and of the reference, do: keys, whether a range can be, which keys it has.
-/
import Derived.Test.YtoobelcphcndoaaGreatRows
import Derived.Test.YtoobelcphcndoaaGreatKeyM
import Derived.Laws.Cover1
namespace Go.Proofs.YtoobelcphcndoaaGreat
open Go.RowKit
set_option linter.unusedVariables false
set_option linter.unusedSimpArgs false

theorem isEnd_any (l : List UInt8) (w : World) : Calls Tryz.prog 145 #[.string (str l)] w fun e w' => e = .returned (.bool (decide (l.length ≤ 8))) ∧ w = w' := by
  have hz := str_size
  by_cases h : l.length ≤ 8
  all_goals
    go_enter Tryz.func145, Tryz.ntmps145
    go_wp2
    go_ret
    exact ⟨ret_bool (by rw [Bool.eq_iff_iff]; simp; omega), rfl⟩
theorem isVal_any (l : List UInt8) (w : World) : Calls Tryz.prog 109 #[.string (str l)] w fun e w' => e = .returned (.bool (decide (l.length ≤ 16))) ∧ w = w' := by
  have hz := str_size
  by_cases h : l.length ≤ 16
  all_goals
    go_enter Tryz.func109, Tryz.ntmps109
    go_wp2
    go_ret
    exact ⟨ret_bool (by rw [Bool.eq_iff_iff]; simp; omega), rfl⟩
theorem is_any (l : List UInt8) (w : World) : Calls Tryz.prog 108 #[.string (str l)] w fun e w' => e = .returned (.bool (isK l)) ∧ w = w' := by
  have hE := same_str
  have h0 := nil_str
  by_cases h : l = []
  · go_enter Tryz.func108, Tryz.ntmps108
    go_wp2
    go_ret
    exact ⟨ret_bool (by simp [isK, h]), rfl⟩
  · go_enter Tryz.func108, Tryz.ntmps108
    go_wp2_with (go_at_call 145; refine (isEnd_any _ _).mono ?_; rintro e w' ⟨rfl, rfl⟩)
    go_ret
    exact ⟨ret_bool (by simp [isK, h]), rfl⟩
theorem refIs_any (l : List UInt8) (w : World) : Calls Tryz.prog 89 #[.string (str l)] w fun e w' => e = .returned (.bool (isK l)) ∧ w = w' := by
  have hz := str_size
  have e : isK l = (decide (0 < l.length) && decide (l.length < 9)) := by
    rw [Bool.eq_iff_iff]
    simp [isK, List.length_pos_iff]
    omega
  rw [e]
  by_cases h : 0 < l.length
  all_goals
    go_enter Tryz.func89, Tryz.ntmps89
    go_wp2
    go_ret
    exact ⟨ret_bool (by rw [Bool.eq_iff_iff]; simp; omega), rfl⟩
theorem turned_any (r : Rg) (w : World) : Calls Tryz.prog 191 #[r.val] w fun e w' => e = .returned (.bool r.turned) ∧ Step noF w w' := by
  have hE := same_str
  have h0 := nil_str
  have hL := less_str
  unfold Rg.val
  by_cases h : r.hi = []
  all_goals
    go_enter Tryz.func191, Tryz.ntmps191
    go_wp2
    go_ret
    exact ⟨ret_bool (by simp [Rg.turned, h, gt_dec]), (Step.refl _ w).alloc _⟩
theorem has_any (r : Rg) (k : List UInt8) (w : World) : Calls Tryz.prog 180 #[r.val, .string (str k)] w fun e w' => e = .returned (.bool (r.has k)) ∧ Step noF w w' := by
  have hE := same_str
  have h0 := nil_str
  have hL := less_str
  have e0 : r.val = .agg #[.string (str r.lo), .string (str r.hi)] := rfl
  rw [e0]
  cases h1 : isK k
  · go_enter Tryz.func180, Tryz.ntmps180
    go_wp2_with (go_at_call 108; refine (is_any _ _).mono ?_; rintro e w' ⟨rfl, rfl⟩)
    go_ret
    exact ⟨ret_bool (by simp [Rg.has, h1]), (Step.refl _ w).alloc _⟩
  · by_cases h2 : k < r.lo
    · go_enter Tryz.func180, Tryz.ntmps180
      go_wp2_with (go_at_call 108; refine (is_any _ _).mono ?_; rintro e w' ⟨rfl, rfl⟩)
      go_ret
      exact ⟨ret_bool (by simp [Rg.has, h1, h2]), (Step.refl _ w).alloc _⟩
    · by_cases h3 : r.hi = []
      all_goals
        go_enter Tryz.func180, Tryz.ntmps180
        go_wp2_with (go_at_call 108; refine (is_any _ _).mono ?_; rintro e w' ⟨rfl, rfl⟩)
        go_ret
        exact ⟨ret_bool (by simp [Rg.has, h1, h2, h3]), (Step.refl _ w).alloc _⟩
/-- -1, 0 or 1. -/
def cmpL (a b : List UInt8) : Int := if a < b then -1 else if b < a then 1 else 0
theorem nan_any (l : List UInt8) (w : World) : Calls Tryz.prog 156 #[.string (str l)] w fun e w' => e = .returned (.bool false) ∧ w = w' := by
  have hE := same_str
  go_enter Tryz.func156, Tryz.ntmps156
  go_wp2
  go_ret
  exact ⟨rfl, rfl⟩
theorem cmp_any (a b : List UInt8) (w : World) : Calls Tryz.prog 112 #[.string (str a), .string (str b)] w fun e w' => e = .returned (.int .i64 (cmpL a b)) ∧ w = w' := by
  have hE := same_str
  have hL := less_str
  have hG := gt_dec a b
  by_cases h1 : a < b
  · go_enter Tryz.func112, Tryz.ntmps112
    go_wp2_with (go_at_call 156; refine (nan_any _ _).mono ?_; rintro e w' ⟨rfl, rfl⟩)
    go_ret
    exact ⟨ret_int (by simp [cmpL, h1]), rfl⟩
  · by_cases h2 : a = b
    · subst h2
      go_enter Tryz.func112, Tryz.ntmps112
      go_wp2_with (go_at_call 156; refine (nan_any _ _).mono ?_; rintro e w' ⟨rfl, rfl⟩)
      go_ret
      exact ⟨ret_int (by unfold cmpL; rw [if_neg h1, if_neg h1]), rfl⟩
    · have h3 : b < a := by grind
      go_enter Tryz.func112, Tryz.ntmps112
      go_wp2_with (go_at_call 156; refine (nan_any _ _).mono ?_; rintro e w' ⟨rfl, rfl⟩)
      go_ret
      exact ⟨ret_int (by simp [cmpL, h1, h3]), rfl⟩
/-- Ends of ranges: an empty one is behind all. -/
def cmpH (a b : List UInt8) : Int := if a = [] ∨ b = [] then - cmpL a b else cmpL a b
theorem compareHi_any (a b : List UInt8) (w : World) : Calls Tryz.prog 190 #[.string (str a), .string (str b)] w fun e w' => e = .returned (.int .i64 (cmpH a b)) ∧ w = w' := by
  have hE := same_str
  have h0 := nil_str
  have hb : -1 ≤ cmpL a b ∧ cmpL a b ≤ 1 := by unfold cmpL; split <;> (try split) <;> omega
  have hg : wrap64 (-cmpL a b) = -cmpL a b := by unfold wrap64; omega
  by_cases h1 : a = []
  · go_enter Tryz.func190, Tryz.ntmps190
    go_wp2_with (go_at_call 112; refine (cmp_any _ _ _).mono ?_; rintro e w' ⟨rfl, rfl⟩)
    go_ret
    exact ⟨ret_int (by subst h1; rw [hg]; simp [cmpH]), rfl⟩
  · by_cases h2 : b = []
    all_goals
      go_enter Tryz.func190, Tryz.ntmps190
      go_wp2_with (go_at_call 112; refine (cmp_any _ _ _).mono ?_; rintro e w' ⟨rfl, rfl⟩)
      go_ret
      exact ⟨ret_int (by first | (subst h2; rw [hg]; simp [cmpH]) | simp [cmpH, h1, h2]), rfl⟩
theorem cmpH_min (a b : List UInt8) : (if cmpH b a < 0 then b else a) = minH a b := by
  unfold cmpH cmpL minH
  have h1 := pos_iff a
  have h2 := pos_iff b
  grind
end Go.Proofs.YtoobelcphcndoaaGreat
