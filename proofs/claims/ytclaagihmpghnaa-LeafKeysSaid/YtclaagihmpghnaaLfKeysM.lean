/-
  What the law LeafKeys says, plainly: a key's own messages, what they make of its value step by step. Nothing of the program is named here.
-/
import Derived.Test.YtclaagihmpghnaaLeafM
namespace Go.Proofs.Ytclaagihmpghnaa
open Go.RowKit
set_option linter.unusedVariables false
set_option linter.unusedSimpArgs false

def mineL (k : List UInt8) (ms : List Mg) : List Mg := ms.filter (fun m => decide (m.key = k))
def otherL (k : List UInt8) (ms : List Mg) : List Mg := ms.filter (fun m => !decide (m.key = k))
theorem mine_take (k : List UInt8) (ms : List Mg) (j : Nat) (hj : j < ms.length) (h : ms[j].key = k) : mineL k (ms.take (j + 1)) = mineL k (ms.take j) ++ [ms[j]] ∧ otherL k (ms.take (j + 1)) = otherL k (ms.take j) := by
  unfold mineL otherL
  rw [List.take_succ_eq_append_getElem hj, List.filter_append, List.filter_append]
  simp [h]
theorem other_take (k : List UInt8) (ms : List Mg) (j : Nat) (hj : j < ms.length) (h : ¬ ms[j].key = k) : mineL k (ms.take (j + 1)) = mineL k (ms.take j) ∧ otherL k (ms.take (j + 1)) = otherL k (ms.take j) ++ [ms[j]] := by
  unfold mineL otherL
  rw [List.take_succ_eq_append_getElem hj, List.filter_append, List.filter_append]
  simp [h]
theorem mine_len (k : List UInt8) (ms : List Mg) : (mineL k ms).length ≤ ms.length ∧ (otherL k ms).length ≤ ms.length := ⟨List.length_filter_le _ _, List.length_filter_le _ _⟩
/-- What the first j messages make of the key's value: the text, and whether it is there. -/
def valL (k : List UInt8) (ms : List Mg) (xs : List It) : List UInt8 := (findL k (withL ms xs)).getD []
def isL (k : List UInt8) (ms : List Mg) (xs : List It) : Bool := (findL k (withL ms xs)).isSome
theorem find_take_mine (k : List UInt8) (ms : List Mg) (xs : List It) (j : Nat) (hj : j < ms.length) (h : ms[j].key = k) (hm : ms[j].is = true) : valL k (ms.take (j + 1)) xs = ms[j].appV (valL k (ms.take j) xs) (isL k (ms.take j) xs) ∧ isL k (ms.take (j + 1)) xs = ms[j].appH (isL k (ms.take j) xs) := by
  unfold valL isL
  rw [List.take_succ_eq_append_getElem hj, withL_snoc, findL_one, if_pos h.symm]
  unfold Mg.appO
  cases hh : ms[j].appH (findL k (withL (ms.take j) xs)).isSome
  · simp
    unfold Mg.appH at hh
    rw [if_pos hm] at hh
    unfold Mg.appV
    rw [if_pos hm, if_pos (by simpa using hh)]
  · simp
theorem find_take_other (k : List UInt8) (ms : List Mg) (xs : List It) (j : Nat) (hj : j < ms.length) (h : ¬ ms[j].key = k) : valL k (ms.take (j + 1)) xs = valL k (ms.take j) xs ∧ isL k (ms.take (j + 1)) xs = isL k (ms.take j) xs := by
  unfold valL isL
  rw [List.take_succ_eq_append_getElem hj, withL_snoc, findL_one, if_neg (fun e => h e.symm)]
  exact ⟨rfl, rfl⟩
theorem valL_len (k : List UInt8) (ms : List Mg) (hms : ∀ m ∈ ms, m.is = true) (xs : List It) (hx : ∀ x ∈ xs, itOk x = true) : (valL k ms xs).length ≤ 16 := by
  unfold valL
  cases h : findL k (withL ms xs) with
  | none => simp
  | some v =>
    have := withL_ok ms hms xs hx _ (findL_some h)
    simp [itOk] at this
    simpa using this.2
end Go.Proofs.Ytclaagihmpghnaa
