/-
  Layer 9 (leaf), plainly: messages in the order of their keys, taken one by one: what is done, and the rest. Nothing of the program is named here.
-/
import Derived.Test.YtnalillebemglaaGreatLeafM
import Derived.Test.YtnalillebemglaaGreatStable
namespace Go.Proofs.YtnalillebemglaaGreat
open Go.RowKit
set_option linter.unusedVariables false
set_option linter.unusedSimpArgs false

/-- How many items at the head have no key above k. -/
def passN (k : List UInt8) : List It → Nat
  | [] => 0
  | x :: xs => if k < x.lo then 0 else passN k xs + 1
theorem passN_le (k : List UInt8) : ∀ xs : List It, passN k xs ≤ xs.length
  | [] => Nat.le_refl _
  | x :: xs => by
    rw [passN]
    have := passN_le k xs
    split <;> simp <;> omega
theorem passN_lt (k : List UInt8) : ∀ (xs : List It) (j : Nat) (h : j < xs.length), j < passN k xs → ¬ k < xs[j].lo
  | [], j, h, _ => by simp at h
  | x :: xs, j, h, hb => by
    rw [passN] at hb
    split at hb
    · omega
    · rename_i hx
      cases j with
      | zero => exact hx
      | succ j => exact passN_lt k xs j (by simpa using h) (by omega)
theorem passN_at (k : List UInt8) : ∀ (xs : List It) (h : passN k xs < xs.length), k < xs[passN k xs].lo
  | [], h => by simp at h
  | x :: xs, h => by
    by_cases hx : k < x.lo
    · have e : passN k (x :: xs) = 0 := by rw [passN, if_pos hx]
      simp only [e]
      exact hx
    · have e : passN k (x :: xs) = passN k xs + 1 := by rw [passN, if_neg hx]
      simp only [e]
      have h2 : passN k xs < xs.length := by rw [e] at h; simpa using h
      exact passN_at k xs h2
theorem passN_eq (k : List UInt8) (xs : List It) (n : Nat) (hn : n ≤ xs.length) (h1 : ∀ j (h : j < xs.length), j < n → ¬ k < xs[j].lo) (h2 : ∀ (h : n < xs.length), k < xs[n].lo) : passN k xs = n := by
  have hb := passN_le k xs
  rcases Nat.lt_trichotomy (passN k xs) n with h | h | h
  · exact absurd (passN_at k xs (by omega)) (h1 _ (by omega) h)
  · exact h
  · exact absurd (h2 (by omega)) (passN_lt k xs n (by omega) h)

theorem insL_mid (k v : List UInt8) : ∀ (E R : List It), (∀ x ∈ E, x.lo < k) → (∀ y ∈ R, k < y.lo) → insL ⟨k, v⟩ (E ++ R) = E ++ ⟨k, v⟩ :: R
  | [], [], _, _ => rfl
  | [], y :: R, _, h => by
    rw [List.nil_append, insL, if_neg (lt_asymm' (h y (by simp)))]
    rfl
  | x :: E, R, h1, h2 => by
    rw [List.cons_append, insL, if_pos (h1 x (by simp)), insL_mid k v E R (fun y hy => h1 y (by simp [hy])) h2]
    rfl
theorem restL_none (k : List UInt8) (xs : List It) (h : ∀ x ∈ xs, x.lo ≠ k) : restL k xs = xs := by
  unfold restL
  rw [List.filter_eq_self]
  intro x hx
  simp [h x hx]
theorem findL_app (k : List UInt8) : ∀ (E R : List It), (∀ x ∈ E, x.lo ≠ k) → findL k (E ++ R) = findL k R
  | [], R, _ => rfl
  | x :: E, R, h => by
    rw [List.cons_append, findL, if_neg (h x (by simp)), findL_app k E R (fun y hy => h y (by simp [hy]))]
/-- One message, where the key isn't there. -/
theorem withOne_new (m : Mg) (E R : List It) (h1 : ∀ x ∈ E, x.lo < m.key) (h2 : ∀ y ∈ R, m.key < y.lo) : withOne m (E ++ R) = E ++ (match m.appO none with | none => [] | some v => [⟨m.key, v⟩]) ++ R := by
  have hn : ∀ x ∈ E ++ R, x.lo ≠ m.key := fun x hx e => by
    rcases List.mem_append.1 hx with h | h
    · have := h1 x h; rw [e] at this; exact lt_irrefl' this
    · have := h2 x h; rw [e] at this; exact lt_irrefl' this
  have hf : findL m.key (E ++ R) = none := findL_none _ _ (fun ⟨x, hx, e⟩ => hn x hx e)
  unfold withOne
  rw [hf, restL_none _ _ hn]
  unfold putO
  split
  · rename_i h; simp [h]
  · rename_i v h
    rw [insL_mid _ _ _ _ h1 h2, h]
    simp
/-- One message, where the key is there. -/
theorem withOne_old (m : Mg) (E R : List It) (u : List UInt8) (h1 : ∀ x ∈ E, x.lo < m.key) (h2 : ∀ y ∈ R, m.key < y.lo) : withOne m (E ++ [⟨m.key, u⟩] ++ R) = E ++ (match m.appO (some u) with | none => [] | some v => [⟨m.key, v⟩]) ++ R := by
  have hE : ∀ x ∈ E, x.lo ≠ m.key := fun x hx e => by have := h1 x hx; rw [e] at this; exact lt_irrefl' this
  have hR : ∀ x ∈ R, x.lo ≠ m.key := fun x hx e => by have := h2 x hx; rw [e] at this; exact lt_irrefl' this
  have hf : findL m.key (E ++ [⟨m.key, u⟩] ++ R) = some u := by
    rw [List.append_assoc, findL_app _ _ _ hE, List.cons_append, findL, if_pos rfl]
  have hr : restL m.key (E ++ [⟨m.key, u⟩] ++ R) = E ++ R := by
    unfold restL
    rw [List.filter_append, List.filter_append]
    have e1 := restL_none m.key E hE
    have e2 := restL_none m.key R hR
    unfold restL at e1 e2
    rw [e1, e2]
    simp
  unfold withOne
  rw [hf, hr]
  unfold putO
  split
  · rename_i h; simp [h]
  · rename_i v h
    rw [insL_mid _ _ _ _ h1 h2, h]
    simp
/-- Behind the passing of a key: what is done has no key above it, what is left has none up to it. -/
theorem passed (k : List UInt8) (D R : List It) (hR : Rising (D ++ R)) (hD : ∀ x ∈ D, ¬ k < x.lo) : (∀ x ∈ D ++ R.take (passN k R), ¬ k < x.lo) ∧ (∀ y ∈ R.drop (passN k R), k < y.lo) := by
  obtain ⟨r1, r2, r3⟩ := rising_join hR
  constructor
  · intro x hx
    rcases List.mem_append.1 hx with h | h
    · exact hD x h
    · obtain ⟨j, hj, rfl⟩ := List.getElem_of_mem h
      rw [List.length_take] at hj
      rw [List.getElem_take]
      exact passN_lt k R j (by omega) (by omega)
  · intro y hy
    obtain ⟨j, hj, rfl⟩ := List.getElem_of_mem hy
    rw [List.length_drop] at hj
    rw [List.getElem_drop]
    have h1 := passN_at k R (by omega)
    rcases Nat.eq_zero_or_pos j with e | e
    · subst e
      exact h1
    · exact lt_trans' h1 (List.pairwise_iff_getElem.1 r2 _ _ (by omega) (by omega) (by omega))
end Go.Proofs.YtnalillebemglaaGreat
