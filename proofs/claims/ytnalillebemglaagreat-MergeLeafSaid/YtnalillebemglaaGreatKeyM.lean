/-
  Layer 7 (key) as plain functions over texts: keys, the least key above one, ranges, what two of them have together, the parts that pivots make. Nothing of the program is named here.
  What the small functions of package key, and of the reference, do: keys, whether a range can be, which keys it has.
-/
import Derived.Test.YtnalillebemglaaGreatFrame
import Derived.Test.YtnalillebemglaaGreatRows
import Derived.Laws.Cover1
namespace Go.Proofs.YtnalillebemglaaGreat
open Go.RowKit
set_option linter.unusedVariables false
set_option linter.unusedSimpArgs false

/- The order of texts. -/
theorem less_iff : ∀ (x y : List UInt8), Op.bytesLess x y = decide (x < y)
  | [], [] => by simp [Op.bytesLess]
  | _ :: _, [] => by simp [Op.bytesLess]
  | [], _ :: _ => by simp [Op.bytesLess]
  | a :: x, b :: y => by
    rw [Op.bytesLess, less_iff x y]
    rw [Bool.eq_iff_iff]
    simp [List.cons_lt_cons_iff]
theorem str_toList (l : List UInt8) : (str l).toList = l := by
  rw [ByteArray.toList_eq, str_list]
theorem less_str (a b : List UInt8) : Op.bytesLess (str a).toList (str b).toList = decide (a < b) := by rw [str_toList, str_toList, less_iff]
theorem same_str (a b : List UInt8) : ((str a).toList == (str b).toList) = decide (a = b) := by
  rw [str_toList, str_toList, Bool.eq_iff_iff]
  simp
theorem gt_dec (a b : List UInt8) : (!decide (a < b) && !decide (a = b)) = decide (b < a) := by
  rw [Bool.eq_iff_iff]
  simp
  grind
theorem nil_str : (⟨#[]⟩ : ByteArray) = str [] := rfl
theorem pos_iff (a : List UInt8) : [] < a ↔ a ≠ [] := by cases a <;> simp
theorem not_lt_nil (a : List UInt8) : ¬ a < [] := by simp
theorem zero_least (a : List UInt8) (h : a ≠ []) : ¬ a < [0] := by
  cases a with
  | nil => exact absurd rfl h
  | cons x t =>
    rw [List.cons_lt_cons_iff]
    rintro (h | ⟨_, h⟩)
    · exact absurd (UInt8.lt_iff_toNat_lt.1 h) (by simp)
    · simp at h

/-- A key. -/
def isK (k : List UInt8) : Bool := decide (k ≠ []) && decide (k.length ≤ 8)
/-- A range. -/
structure Rg where
  lo : List UInt8
  hi : List UInt8
/-- As the program holds it. -/
def Rg.val (r : Rg) : Value := .agg #[.string (str r.lo), .string (str r.hi)]
def Rg.has (r : Rg) (k : List UInt8) : Bool := isK k && !decide (k < r.lo) && (decide (r.hi = []) || decide (k < r.hi))
def Rg.turned (r : Rg) : Bool := decide (r.hi ≠ []) && decide (r.hi < r.lo)
def Rg.may (r : Rg) : Bool := decide (r.lo.length ≤ 8) && decide (r.hi.length ≤ 8) && !r.turned
def maxL (a b : List UInt8) : List UInt8 := if a < b then b else a
/-- The end that stands ahead: an empty one is behind all. -/
def minH (a b : List UInt8) : List UInt8 := if a = [] ∨ (b ≠ [] ∧ b < a) then b else a
def Rg.meet (r o : Rg) : Rg :=
  if (Rg.mk (maxL r.lo o.lo) (minH r.hi o.hi)).turned then ⟨maxL r.lo o.lo, maxL r.lo o.lo⟩ else ⟨maxL r.lo o.lo, minH r.hi o.hi⟩
/-- A byte goes up: the last one of the first n that isn't 255. -/
def upL (k : List UInt8) : Nat → Option (List UInt8)
  | 0 => none
  | n + 1 => if k.getD n 0 = 255 then upL k n else some (k.take n ++ [k.getD n 0 + 1])
def nextL (k : List UInt8) : Option (List UInt8) := if isK k then (if k.length < 8 then some (k ++ [0]) else upL k 8) else none
def firstL (s : List UInt8) : Option (List UInt8) := if s = [] then some [0] else if s.length ≤ 8 then some s else upL (s.take 8) 8
def hasO (r : Rg) : Option (List UInt8) → Bool
  | none => false
  | some k => r.has k
def Rg.none (r : Rg) : Bool := !hasO r (firstL r.lo)
def partsL (lo : List UInt8) : List (List UInt8) → List Rg
  | [] => [⟨lo, []⟩]
  | h :: t => ⟨lo, h⟩ :: partsL h t
def Rg.cut (r : Rg) (ps : List (List UInt8)) : List Rg := if ps = [] then [r] else (partsL [] ps).map r.meet

theorem partsL_length (lo : List UInt8) (ps : List (List UInt8)) : (partsL lo ps).length = ps.length + 1 := by
  induction ps generalizing lo with
  | nil => rfl
  | cons h t ih => simp [partsL, ih]
theorem partsL_at (ps : List (List UInt8)) : ∀ (lo : List UInt8) (i : Nat) (h : i < (partsL lo ps).length), (partsL lo ps)[i] = ⟨(lo :: ps).getD i [], ps.getD i []⟩ := by
  induction ps with
  | nil =>
    intro lo i h
    simp [partsL] at h
    subst h
    simp [partsL]
  | cons p t ih =>
    intro lo i h
    cases i with
    | zero => simp [partsL]
    | succ i => simp [partsL, ih]
/-- The parts ahead of place i of the pivots. -/
theorem partsL_take (ps : List (List UInt8)) : ∀ (lo : List UInt8) (i : Nat) (h : i < ps.length), (partsL lo ps).take (i + 1) = (partsL lo ps).take i ++ [⟨(lo :: ps).getD i [], ps[i]⟩] := by
  intro lo i h
  have hl : i < (partsL lo ps).length := by rw [partsL_length]; omega
  rw [List.take_succ_eq_append_getElem hl, partsL_at]
  simp [List.getD, List.getElem?_eq_getElem h]
theorem partsL_last (lo : List UInt8) (ps : List (List UInt8)) : partsL lo ps = (partsL lo ps).take ps.length ++ [⟨(lo :: ps).getD ps.length [], []⟩] := by
  have hl : ps.length < (partsL lo ps).length := by rw [partsL_length]; omega
  have := List.take_succ_eq_append_getElem hl
  rw [partsL_at, List.take_of_length_le (by rw [partsL_length]; omega)] at this
  conv => lhs; rw [this]
  simp

theorem has_iff (r : Rg) (k : List UInt8) : r.has k = true ↔ isK k = true ∧ ¬ k < r.lo ∧ (r.hi = [] ∨ k < r.hi) := by
  simp [Rg.has, and_assoc]
theorem meet_has (r o : Rg) (k : List UInt8) : (r.meet o).has k = (r.has k && o.has k) := by
  rw [Bool.eq_iff_iff, Bool.and_eq_true, has_iff, has_iff, has_iff]
  unfold Rg.meet Rg.turned maxL minH
  have h1 := pos_iff r.hi
  have h2 := pos_iff o.hi
  have h3 := pos_iff k
  have h4 : isK k = true → k ≠ [] := by simp [isK]; intro h _; exact h
  have h5 := pos_iff r.lo
  have h6 := pos_iff o.lo
  grind
theorem meet_may (r o : Rg) (hr : r.may = true) (ho : o.may = true) : (r.meet o).may = true := by
  unfold Rg.may Rg.turned at *
  unfold Rg.meet Rg.turned maxL minH
  grind
theorem meet_comm (r o : Rg) : r.meet o = o.meet r := by
  have e1 : maxL r.lo o.lo = maxL o.lo r.lo := by unfold maxL; grind
  have e2 : minH r.hi o.hi = minH o.hi r.hi := by unfold minH; grind
  unfold Rg.meet
  rw [e1, e2]
/-- A range that can be and has a key isn't empty. -/
theorem none_has (r : Rg) (k : List UInt8) (hr : r.may = true) (hk : r.has k = true) : r.none = false := by
  have hlo : r.lo.length ≤ 8 := by
    unfold Rg.may at hr
    simp at hr
    exact hr.1.1
  obtain ⟨h1, h2, h3⟩ := (has_iff r k).1 hk
  have h4 : k ≠ [] := by simp [isK] at h1; exact h1.1
  unfold Rg.none firstL
  by_cases h0 : r.lo = []
  · simp only [h0, if_true, hasO, Bool.not_eq_false', has_iff]
    refine ⟨by decide, by simp, ?_⟩
    have := zero_least k h4
    grind
  · simp only [h0, if_false, hlo, if_true, hasO, Bool.not_eq_false', has_iff]
    refine ⟨by simp [isK, h0, hlo], by grind, by grind⟩

/-- Of pivots that rise each key is in just one part. -/
def Rise (lo : List UInt8) : List (List UInt8) → Prop
  | [] => True
  | h :: t => h ≠ [] ∧ (lo = [] ∨ lo < h) ∧ Rise h t
theorem count_parts (k : List UInt8) (hk : isK k = true) : ∀ (ps : List (List UInt8)) (lo : List UInt8), Rise lo ps → ((partsL lo ps).countP fun p => p.has k) = if k < lo then 0 else 1 := by
  intro ps
  induction ps with
  | nil =>
    intro lo _
    simp only [partsL, List.countP_cons, List.countP_nil]
    by_cases h : k < lo <;> simp [h, Rg.has, hk]
  | cons p t ih =>
    rintro lo ⟨h1, h2, h3⟩
    simp only [partsL, List.countP_cons]
    rw [ih p h3]
    have h4 := pos_iff k
    have h5 : ¬ k < [] := by simp
    by_cases ha : k < p <;> by_cases hb : k < lo <;> simp [ha, hb, Rg.has, hk, h1]
    all_goals grind
theorem count_cut (r : Rg) (k : List UInt8) (ps : List (List UInt8)) (h : Rise [] ps) : ((r.cut ps).countP fun p => p.has k) = if r.has k then 1 else 0 := by
  unfold Rg.cut
  split
  · simp only [List.countP_cons, List.countP_nil]
    cases r.has k <;> simp
  · rw [List.countP_map]
    cases hr : r.has k
    · rw [List.countP_eq_zero.2]
      · simp
      · intro p _
        simp [meet_has, hr]
    · have hk : isK k = true := ((has_iff r k).1 hr).1
      have e : ((fun p : Rg => p.has k) ∘ r.meet) = fun p => p.has k := by
        funext p
        simp [meet_has, hr]
      rw [e, count_parts k hk ps [] h]
      simp
theorem cut_length (r : Rg) (ps : List (List UInt8)) : (r.cut ps).length = ps.length + 1 := by
  unfold Rg.cut
  split
  · next h => simp [h]
  · simp [partsL_length]
end Go.Proofs.YtnalillebemglaaGreat
namespace Go.Proofs.YtnalillebemglaaGreat
open Go.RowKit
set_option linter.unusedVariables false
set_option linter.unusedSimpArgs false

theorem isEnd_any (l : List UInt8) (w : World) : Calls Tryz.prog 87 #[.string (str l)] w fun e w' => e = .returned (.bool (decide (l.length ≤ 8))) ∧ w = w' := by
  have hz := str_size
  by_cases h : l.length ≤ 8
  all_goals
    go_enter Tryz.func87, Tryz.ntmps87
    go_wp2
    go_ret
    exact ⟨ret_bool (by rw [Bool.eq_iff_iff]; simp; omega), rfl⟩
theorem isVal_any (l : List UInt8) (w : World) : Calls Tryz.prog 70 #[.string (str l)] w fun e w' => e = .returned (.bool (decide (l.length ≤ 16))) ∧ w = w' := by
  have hz := str_size
  by_cases h : l.length ≤ 16
  all_goals
    go_enter Tryz.func70, Tryz.ntmps70
    go_wp2
    go_ret
    exact ⟨ret_bool (by rw [Bool.eq_iff_iff]; simp; omega), rfl⟩
theorem is_any (l : List UInt8) (w : World) : Calls Tryz.prog 69 #[.string (str l)] w fun e w' => e = .returned (.bool (isK l)) ∧ w = w' := by
  have hE := same_str
  have h0 := nil_str
  by_cases h : l = []
  · go_enter Tryz.func69, Tryz.ntmps69
    go_wp2
    go_ret
    exact ⟨ret_bool (by simp [isK, h]), rfl⟩
  · go_enter Tryz.func69, Tryz.ntmps69
    go_wp2_with (go_at_call 87; refine (isEnd_any _ _).mono ?_; rintro e w' ⟨rfl, rfl⟩)
    go_ret
    exact ⟨ret_bool (by simp [isK, h]), rfl⟩
theorem refIs_any (l : List UInt8) (w : World) : Calls Tryz.prog 66 #[.string (str l)] w fun e w' => e = .returned (.bool (isK l)) ∧ w = w' := by
  have hz := str_size
  have e : isK l = (decide (0 < l.length) && decide (l.length < 9)) := by
    rw [Bool.eq_iff_iff]
    simp [isK, List.length_pos_iff]
    omega
  rw [e]
  by_cases h : 0 < l.length
  all_goals
    go_enter Tryz.func66, Tryz.ntmps66
    go_wp2
    go_ret
    exact ⟨ret_bool (by rw [Bool.eq_iff_iff]; simp; omega), rfl⟩
/-- -1, 0 or 1. -/
def cmpL (a b : List UInt8) : Int := if a < b then -1 else if b < a then 1 else 0
theorem nan_any (l : List UInt8) (w : World) : Calls Tryz.prog 85 #[.string (str l)] w fun e w' => e = .returned (.bool false) ∧ w = w' := by
  have hE := same_str
  go_enter Tryz.func85, Tryz.ntmps85
  go_wp2
  go_ret
  exact ⟨rfl, rfl⟩
theorem cmp_any (a b : List UInt8) (w : World) : Calls Tryz.prog 65 #[.string (str a), .string (str b)] w fun e w' => e = .returned (.int .i64 (cmpL a b)) ∧ w = w' := by
  have hE := same_str
  have hL := less_str
  have hG := gt_dec a b
  by_cases h1 : a < b
  · go_enter Tryz.func65, Tryz.ntmps65
    go_wp2_with (go_at_call 85; refine (nan_any _ _).mono ?_; rintro e w' ⟨rfl, rfl⟩)
    go_ret
    exact ⟨ret_int (by simp [cmpL, h1]), rfl⟩
  · by_cases h2 : a = b
    · subst h2
      go_enter Tryz.func65, Tryz.ntmps65
      go_wp2_with (go_at_call 85; refine (nan_any _ _).mono ?_; rintro e w' ⟨rfl, rfl⟩)
      go_ret
      exact ⟨ret_int (by unfold cmpL; rw [if_neg h1, if_neg h1]), rfl⟩
    · have h3 : b < a := by grind
      go_enter Tryz.func65, Tryz.ntmps65
      go_wp2_with (go_at_call 85; refine (nan_any _ _).mono ?_; rintro e w' ⟨rfl, rfl⟩)
      go_ret
      exact ⟨ret_int (by simp [cmpL, h1, h3]), rfl⟩
/-- Ends of ranges: an empty one is behind all. -/
def cmpH (a b : List UInt8) : Int := if a = [] ∨ b = [] then - cmpL a b else cmpL a b
theorem cmpH_min (a b : List UInt8) : (if cmpH b a < 0 then b else a) = minH a b := by
  unfold cmpH cmpL minH
  have h1 := pos_iff a
  have h2 := pos_iff b
  grind
end Go.Proofs.YtnalillebemglaaGreat
