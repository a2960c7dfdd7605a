/-
  Layer 9 (leaf): a range that is cut at a key; a key's own messages and the others. Nothing of the program is named here.
-/
import Derived.Test.YtclaagihmpghnaaLeafN
namespace Go.Proofs.Ytclaagihmpghnaa
open Go.RowKit
set_option linter.unusedVariables false
set_option linter.unusedSimpArgs false

theorem cut_two (r : Rg) (k : List UInt8) : r.cut [k] = [r.meet ⟨[], k⟩, r.meet ⟨k, []⟩] := by simp [Rg.cut, partsL]
theorem has_low (r : Rg) (k : List UInt8) (hk : k ≠ []) (q : List UInt8) : (r.meet ⟨[], k⟩).has q = (r.has q && decide (q < k)) := by
  rw [meet_has, Bool.eq_iff_iff]
  simp [Rg.has, hk]
  grind
theorem has_high (r : Rg) (k : List UInt8) (q : List UInt8) : (r.meet ⟨k, []⟩).has q = (r.has q && !decide (q < k)) := by
  rw [meet_has, Bool.eq_iff_iff]
  simp [Rg.has]
  grind
/-- What is cut out of a leaf is in just one part. -/
theorem within_cut (r : Rg) (k : List UInt8) (hk : k ≠ []) (xs : List It) (h : Rising xs) : withinL (r.meet ⟨[], k⟩) xs ++ withinL (r.meet ⟨k, []⟩) xs = withinL r xs := by
  unfold withinL
  exact filter_parted _ _ k _ (fun x => has_low r k hk x.lo) (fun x => has_high r k x.lo) xs h
theorem within_rising (r : Rg) (xs : List It) (h : Rising xs) : Rising (withinL r xs) := List.Pairwise.filter _ h
theorem within_ok (r : Rg) (xs : List It) (h : ∀ x ∈ xs, itOk x = true) : ∀ x ∈ withinL r xs, itOk x = true := fun x hx => h x (List.mem_filter.1 hx).1
theorem within_all (xs : List It) (h : ∀ x ∈ xs, itOk x = true) : withinL ⟨[], []⟩ xs = xs := by
  unfold withinL
  rw [List.filter_eq_self]
  intro x hx
  have := h x hx
  simp [itOk] at this
  simp [Rg.has, this.1]
/-- A key's own messages first, or last. -/
theorem with_mine (k : List UInt8) (ms : List Mg) (xs : List It) (h : Rising xs) :
    withL (ms.filter (fun m => decide (m.key = k)) ++ ms.filter (fun m => !decide (m.key = k))) xs = withL ms xs ∧ withL (ms.filter (fun m => !decide (m.key = k)) ++ ms.filter (fun m => decide (m.key = k))) xs = withL ms xs := by
  constructor
  · refine withL_same _ _ xs h (fun q => ?_)
    rw [List.filter_append, List.filter_filter, List.filter_filter]
    by_cases e : q = k
    · subst e
      have e1 : ms.filter (fun m => decide (m.key = q) && !decide (m.key = q)) = [] := by
        rw [List.filter_eq_nil_iff]
        intro m _
        simp
      simp [e1]
    · have e1 : ms.filter (fun m => decide (m.key = q) && decide (m.key = k)) = [] := by
        rw [List.filter_eq_nil_iff]
        intro m _
        simp
        intro h1 h2
        exact e (h1.symm.trans h2)
      rw [e1, List.nil_append]
      refine List.filter_congr (fun m _ => ?_)
      rw [Bool.eq_iff_iff]
      simp
      intro h1 h2
      exact e (h1.symm.trans h2)
  · refine withL_same _ _ xs h (fun q => ?_)
    rw [List.filter_append, List.filter_filter, List.filter_filter]
    by_cases e : q = k
    · subst e
      have e1 : ms.filter (fun m => decide (m.key = q) && !decide (m.key = q)) = [] := by
        rw [List.filter_eq_nil_iff]
        intro m _
        simp
      simp [e1]
    · have e1 : ms.filter (fun m => decide (m.key = q) && decide (m.key = k)) = [] := by
        rw [List.filter_eq_nil_iff]
        intro m _
        simp
        intro h1 h2
        exact e (h1.symm.trans h2)
      rw [e1, List.append_nil]
      refine List.filter_congr (fun m _ => ?_)
      rw [Bool.eq_iff_iff]
      simp
      intro h1 h2
      exact e (h1.symm.trans h2)
end Go.Proofs.Ytclaagihmpghnaa
