/-
  What the small functions of package key, and of the reference, do: keys, whether a range can be, which keys it has.
-/
import Derived.Test.YtgmgoaencaldmaaGreatRows
import Derived.Test.YtgmgoaencaldmaaGreatKeyM
import Derived.Laws.Cover1
namespace Go.Proofs.YtgmgoaencaldmaaGreat
open Go.RowKit
set_option linter.unusedVariables false
set_option linter.unusedSimpArgs false

theorem isEnd_any (l : List UInt8) (w : World) : Calls Tryz.prog 106 #[.string (str l)] w fun e w' => e = .returned (.bool (decide (l.length ≤ 8))) ∧ w = w' := by
  have hz := str_size
  by_cases h : l.length ≤ 8
  all_goals
    go_enter Tryz.func106, Tryz.ntmps106
    go_wp2
    go_ret
    exact ⟨ret_bool (by rw [Bool.eq_iff_iff]; simp; omega), rfl⟩
theorem isVal_any (l : List UInt8) (w : World) : Calls Tryz.prog 116 #[.string (str l)] w fun e w' => e = .returned (.bool (decide (l.length ≤ 16))) ∧ w = w' := by
  have hz := str_size
  by_cases h : l.length ≤ 16
  all_goals
    go_enter Tryz.func116, Tryz.ntmps116
    go_wp2
    go_ret
    exact ⟨ret_bool (by rw [Bool.eq_iff_iff]; simp; omega), rfl⟩
theorem is_any (l : List UInt8) (w : World) : Calls Tryz.prog 91 #[.string (str l)] w fun e w' => e = .returned (.bool (isK l)) ∧ w = w' := by
  have hE := same_str
  have h0 := nil_str
  by_cases h : l = []
  · go_enter Tryz.func91, Tryz.ntmps91
    go_wp2
    go_ret
    exact ⟨ret_bool (by simp [isK, h]), rfl⟩
  · go_enter Tryz.func91, Tryz.ntmps91
    go_wp2_with (go_at_call 106; refine (isEnd_any _ _).mono ?_; rintro e w' ⟨rfl, rfl⟩)
    go_ret
    exact ⟨ret_bool (by simp [isK, h]), rfl⟩
theorem refIs_any (l : List UInt8) (w : World) : Calls Tryz.prog 70 #[.string (str l)] w fun e w' => e = .returned (.bool (isK l)) ∧ w = w' := by
  have hz := str_size
  have e : isK l = (decide (0 < l.length) && decide (l.length < 9)) := by
    rw [Bool.eq_iff_iff]
    simp [isK, List.length_pos_iff]
    omega
  rw [e]
  by_cases h : 0 < l.length
  all_goals
    go_enter Tryz.func70, Tryz.ntmps70
    go_wp2
    go_ret
    exact ⟨ret_bool (by rw [Bool.eq_iff_iff]; simp; omega), rfl⟩
theorem turned_any (r : Rg) (w : World) : Calls Tryz.prog 94 #[r.val] w fun e w' => e = .returned (.bool r.turned) ∧ Step noF w w' := by
  have hE := same_str
  have h0 := nil_str
  have hL := less_str
  unfold Rg.val
  by_cases h : r.hi = []
  all_goals
    go_enter Tryz.func94, Tryz.ntmps94
    go_wp2
    go_ret
    exact ⟨ret_bool (by simp [Rg.turned, h, gt_dec]), (Step.refl _ w).alloc _⟩
theorem has_any (r : Rg) (k : List UInt8) (w : World) : Calls Tryz.prog 97 #[r.val, .string (str k)] w fun e w' => e = .returned (.bool (r.has k)) ∧ Step noF w w' := by
  have hE := same_str
  have h0 := nil_str
  have hL := less_str
  have e0 : r.val = .agg #[.string (str r.lo), .string (str r.hi)] := rfl
  rw [e0]
  cases h1 : isK k
  · go_enter Tryz.func97, Tryz.ntmps97
    go_wp2_with (go_at_call 91; refine (is_any _ _).mono ?_; rintro e w' ⟨rfl, rfl⟩)
    go_ret
    exact ⟨ret_bool (by simp [Rg.has, h1]), (Step.refl _ w).alloc _⟩
  · by_cases h2 : k < r.lo
    · go_enter Tryz.func97, Tryz.ntmps97
      go_wp2_with (go_at_call 91; refine (is_any _ _).mono ?_; rintro e w' ⟨rfl, rfl⟩)
      go_ret
      exact ⟨ret_bool (by simp [Rg.has, h1, h2]), (Step.refl _ w).alloc _⟩
    · by_cases h3 : r.hi = []
      all_goals
        go_enter Tryz.func97, Tryz.ntmps97
        go_wp2_with (go_at_call 91; refine (is_any _ _).mono ?_; rintro e w' ⟨rfl, rfl⟩)
        go_ret
        exact ⟨ret_bool (by simp [Rg.has, h1, h2, h3]), (Step.refl _ w).alloc _⟩
theorem refHas_any (r : Rg) (k : List UInt8) (w : World) : Calls Tryz.prog 78 #[r.val, .string (str k)] w fun e w' => e = .returned (.bool (r.has k)) ∧ Step noF w w' := by
  have hz := str_size
  have hL := less_str
  have e0 : r.val = .agg #[.string (str r.lo), .string (str r.hi)] := rfl
  have e1 : r.has k = (isK k && (!decide (k < r.lo) && (decide (r.hi.length = 0) || decide (k < r.hi)))) := by simp [Rg.has, Bool.and_assoc]
  rw [e0, e1]
  cases h1 : isK k
  · go_enter Tryz.func78, Tryz.ntmps78
    go_wp2_with (go_at_call 70; refine (refIs_any _ _).mono ?_; rintro e w' ⟨rfl, rfl⟩)
    go_ret
    exact ⟨ret_bool (by simp [h1]), (Step.refl _ w).alloc _⟩
  · by_cases h2 : k < r.lo
    · go_enter Tryz.func78, Tryz.ntmps78
      go_wp2_with (go_at_call 70; refine (refIs_any _ _).mono ?_; rintro e w' ⟨rfl, rfl⟩)
      go_ret
      exact ⟨ret_bool (by simp [h1, h2]), (Step.refl _ w).alloc _⟩
    · by_cases h3 : r.hi.length = 0
      all_goals
        go_enter Tryz.func78, Tryz.ntmps78
        go_wp2_with (go_at_call 70; refine (refIs_any _ _).mono ?_; rintro e w' ⟨rfl, rfl⟩)
        go_ret
        exact ⟨ret_bool (by simp [h1, h2, h3]), (Step.refl _ w).alloc _⟩

/-- -1, 0 or 1. -/
def cmpL (a b : List UInt8) : Int := if a < b then -1 else if b < a then 1 else 0
theorem nan_any (l : List UInt8) (w : World) : Calls Tryz.prog 110 #[.string (str l)] w fun e w' => e = .returned (.bool false) ∧ w = w' := by
  have hE := same_str
  go_enter Tryz.func110, Tryz.ntmps110
  go_wp2
  go_ret
  exact ⟨rfl, rfl⟩
theorem cmp_any (a b : List UInt8) (w : World) : Calls Tryz.prog 102 #[.string (str a), .string (str b)] w fun e w' => e = .returned (.int .i64 (cmpL a b)) ∧ w = w' := by
  have hE := same_str
  have hL := less_str
  have hG := gt_dec a b
  by_cases h1 : a < b
  · go_enter Tryz.func102, Tryz.ntmps102
    go_wp2_with (go_at_call 110; refine (nan_any _ _).mono ?_; rintro e w' ⟨rfl, rfl⟩)
    go_ret
    exact ⟨ret_int (by simp [cmpL, h1]), rfl⟩
  · by_cases h2 : a = b
    · subst h2
      go_enter Tryz.func102, Tryz.ntmps102
      go_wp2_with (go_at_call 110; refine (nan_any _ _).mono ?_; rintro e w' ⟨rfl, rfl⟩)
      go_ret
      exact ⟨ret_int (by unfold cmpL; rw [if_neg h1, if_neg h1]), rfl⟩
    · have h3 : b < a := by grind
      go_enter Tryz.func102, Tryz.ntmps102
      go_wp2_with (go_at_call 110; refine (nan_any _ _).mono ?_; rintro e w' ⟨rfl, rfl⟩)
      go_ret
      exact ⟨ret_int (by simp [cmpL, h1, h3]), rfl⟩
/-- Ends of ranges: an empty one is behind all. -/
def cmpH (a b : List UInt8) : Int := if a = [] ∨ b = [] then - cmpL a b else cmpL a b
theorem compareHi_any (a b : List UInt8) (w : World) : Calls Tryz.prog 93 #[.string (str a), .string (str b)] w fun e w' => e = .returned (.int .i64 (cmpH a b)) ∧ w = w' := by
  have hE := same_str
  have h0 := nil_str
  have hb : -1 ≤ cmpL a b ∧ cmpL a b ≤ 1 := by unfold cmpL; split <;> (try split) <;> omega
  have hg : wrap64 (-cmpL a b) = -cmpL a b := by unfold wrap64; omega
  by_cases h1 : a = []
  · go_enter Tryz.func93, Tryz.ntmps93
    go_wp2_with (go_at_call 102; refine (cmp_any _ _ _).mono ?_; rintro e w' ⟨rfl, rfl⟩)
    go_ret
    exact ⟨ret_int (by subst h1; rw [hg]; simp [cmpH]), rfl⟩
  · by_cases h2 : b = []
    all_goals
      go_enter Tryz.func93, Tryz.ntmps93
      go_wp2_with (go_at_call 102; refine (cmp_any _ _ _).mono ?_; rintro e w' ⟨rfl, rfl⟩)
      go_ret
      exact ⟨ret_int (by first | (subst h2; rw [hg]; simp [cmpH]) | simp [cmpH, h1, h2]), rfl⟩
theorem cmpH_min (a b : List UInt8) : (if cmpH b a < 0 then b else a) = minH a b := by
  unfold cmpH cmpL minH
  have h1 := pos_iff a
  have h2 := pos_iff b
  grind
end Go.Proofs.YtgmgoaencaldmaaGreat
