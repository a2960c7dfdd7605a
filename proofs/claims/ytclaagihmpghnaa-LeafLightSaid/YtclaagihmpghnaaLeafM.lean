/-
  Layer 9 (leaf) as plain functions: items (held as pairs of texts: lo the key, hi the value), in the order of their keys. Nothing of the program is named here.
-/
import Derived.Test.YtclaagihmpghnaaKeyM
namespace Go.Proofs.Ytclaagihmpghnaa
open Go.RowKit
set_option linter.unusedVariables false
set_option linter.unusedSimpArgs false

/-- An item: its key (lo) and its value (hi). -/
abbrev It := Rg
theorem It.ext' {a b : It} (h1 : a.lo = b.lo) (h2 : a.hi = b.hi) : a = b := by
  cases a
  cases b
  simp_all
def itOk (x : It) : Bool := isK x.lo && decide (x.hi.length ≤ 16)
def itW (x : It) : Nat := 2 + x.lo.length + x.hi.length
def wtL (xs : List It) : Nat := (xs.map itW).sum
/-- The keys rise. -/
def Rising (xs : List It) : Prop := xs.Pairwise (fun a b => a.lo < b.lo)
/-- How many keys at the head stand ahead of k. -/
def belowN (k : List UInt8) : List It → Nat
  | [] => 0
  | x :: xs => if x.lo < k then belowN k xs + 1 else 0
def insL (x : It) : List It → List It
  | [] => [x]
  | y :: ys => if y.lo < x.lo then y :: insL x ys else x :: y :: ys
def hasKey (k : List UInt8) (xs : List It) : Prop := ∃ x ∈ xs, x.lo = k
def sortL (xs : List It) : List It := xs.foldl (fun acc x => insL x acc) []

theorem wtL_append (a b : List It) : wtL (a ++ b) = wtL a + wtL b := by simp [wtL]
theorem wtL_cons (x : It) (b : List It) : wtL (x :: b) = itW x + wtL b := by simp [wtL]
theorem lt_trans' {a b c : List UInt8} (h : a < b) (k : b < c) : a < c := by grind
theorem lt_irrefl' {a : List UInt8} : ¬ a < a := by grind
theorem lt_asymm' {a b : List UInt8} (h : a < b) : ¬ b < a := by grind
theorem lt_or' {a b : List UInt8} (h : ¬ a < b) (k : a ≠ b) : b < a := by grind

theorem belowN_le (k : List UInt8) : ∀ xs : List It, belowN k xs ≤ xs.length
  | [] => Nat.le_refl _
  | x :: xs => by
    rw [belowN]
    have := belowN_le k xs
    split <;> simp <;> omega
theorem below_lt (k : List UInt8) : ∀ (xs : List It) (j : Nat) (h : j < xs.length), j < belowN k xs → xs[j].lo < k
  | [], j, h, _ => by simp at h
  | x :: xs, j, h, hb => by
    rw [belowN] at hb
    split at hb
    · rename_i hx
      cases j with
      | zero => exact hx
      | succ j => exact below_lt k xs j (by simpa using h) (by omega)
    · omega
theorem below_ge (k : List UInt8) : ∀ (xs : List It), Rising xs → ∀ (j : Nat) (h : j < xs.length), belowN k xs ≤ j → ¬ xs[j].lo < k
  | [], _, j, h, _ => by simp at h
  | x :: xs, hr, j, h, hb => by
    have hr' := List.pairwise_cons.1 hr
    rw [belowN] at hb
    split at hb
    · cases j with
      | zero => omega
      | succ j => exact below_ge k xs hr'.2 j (by simpa using h) (by omega)
    · rename_i hx
      cases j with
      | zero => exact hx
      | succ j =>
        have h2 : j < xs.length := by simpa using h
        have := hr'.1 xs[j] (List.getElem_mem h2)
        intro hc
        exact hx (lt_trans' this hc)
theorem insL_eq (x : It) : ∀ xs : List It, insL x xs = xs.take (belowN x.lo xs) ++ x :: xs.drop (belowN x.lo xs)
  | [] => rfl
  | y :: ys => by
    rw [insL, belowN]
    split
    · rw [insL_eq x ys]; simp
    · simp
theorem insL_length (x : It) (xs : List It) : (insL x xs).length = xs.length + 1 := by
  have := belowN_le x.lo xs
  rw [insL_eq]
  simp
  omega
theorem insL_perm (x : It) : ∀ xs : List It, (insL x xs).Perm (x :: xs)
  | [] => List.Perm.refl _
  | y :: ys => by
    rw [insL]
    split
    · exact ((insL_perm x ys).cons y).trans (List.Perm.swap x y ys)
    · exact List.Perm.refl _
theorem insL_mem (x y : It) (xs : List It) : y ∈ insL x xs ↔ y = x ∨ y ∈ xs := by
  rw [(insL_perm x xs).mem_iff]
  simp
theorem insL_rising (x : It) : ∀ xs : List It, Rising xs → ¬ hasKey x.lo xs → Rising (insL x xs)
  | [], _, _ => by simp [insL, Rising]
  | y :: ys, hr, hn => by
    have hr' := List.pairwise_cons.1 hr
    rw [insL]
    split
    · rename_i hy
      refine List.pairwise_cons.2 ⟨fun z hz => ?_, insL_rising x ys hr'.2 (fun ⟨z, hz, e⟩ => hn ⟨z, List.mem_cons_of_mem _ hz, e⟩)⟩
      rcases (insL_mem x z ys).1 hz with rfl | hz
      · exact hy
      · exact hr'.1 z hz
    · rename_i hy
      have hxy : x.lo < y.lo := lt_or' hy (fun e => hn ⟨y, by simp, e⟩)
      refine List.pairwise_cons.2 ⟨fun z hz => ?_, hr⟩
      rcases List.mem_cons.1 hz with rfl | hz
      · exact hxy
      · exact lt_trans' hxy (hr'.1 z hz)

/-- Rows whose keys rise, with the same items, are the same. -/
theorem rising_unique : ∀ (a b : List It), Rising a → Rising b → (∀ x, x ∈ a ↔ x ∈ b) → a = b
  | [], [], _, _, _ => rfl
  | [], y :: b, _, _, h => absurd ((h y).2 (by simp)) (by simp)
  | x :: a, [], _, _, h => absurd ((h x).1 (by simp)) (by simp)
  | x :: a, y :: b, ha, hb, h => by
    have ha' := List.pairwise_cons.1 ha
    have hb' := List.pairwise_cons.1 hb
    have hxy : x = y := by
      rcases List.mem_cons.1 ((h x).1 (by simp)) with e | e
      · exact e
      · rcases List.mem_cons.1 ((h y).2 (by simp)) with e2 | e2
        · exact e2.symm
        · exact absurd (ha'.1 y e2) (lt_asymm' (hb'.1 x e))
    subst hxy
    rw [rising_unique a b ha'.2 hb'.2 (fun z => ?_)]
    have h1 : z = x → z ∉ a := fun e hz => lt_irrefl' (by have := ha'.1 z hz; rw [e] at this; exact this)
    have h2 : z = x → z ∉ b := fun e hz => lt_irrefl' (by have := hb'.1 z hz; rw [e] at this; exact this)
    have := h z
    simp only [List.mem_cons] at this
    grind

/-- Items told in whatever order. -/
def keysL (xs : List It) : List (List UInt8) := xs.map Rg.lo
theorem sortL_snoc (xs : List It) (x : It) : sortL (xs ++ [x]) = insL x (sortL xs) := by simp [sortL]
theorem sortL_take (xs : List It) (j : Nat) (hj : j < xs.length) : sortL (xs.take (j + 1)) = insL xs[j] (sortL (xs.take j)) := by
  rw [List.take_succ_eq_append_getElem hj, sortL_snoc]
theorem sortL_perm (xs : List It) : (sortL xs).Perm xs := by
  rw [← List.reverse_reverse xs]
  induction xs.reverse with
  | nil => exact List.Perm.refl _
  | cons x ys ih =>
    rw [List.reverse_cons, sortL_snoc]
    refine (insL_perm x _).trans ((ih.cons x).trans ?_)
    exact (List.perm_append_comm (l₁ := [x]))
theorem sortL_length (xs : List It) : (sortL xs).length = xs.length := (sortL_perm xs).length_eq
theorem sortL_mem (xs : List It) (x : It) : x ∈ sortL xs ↔ x ∈ xs := (sortL_perm xs).mem_iff
theorem hasKey_sort (k : List UInt8) (xs : List It) : hasKey k (sortL xs) ↔ hasKey k xs := by
  unfold hasKey
  constructor
  · rintro ⟨x, h, e⟩; exact ⟨x, (sortL_mem xs x).1 h, e⟩
  · rintro ⟨x, h, e⟩; exact ⟨x, (sortL_mem xs x).2 h, e⟩
theorem hasKey_mem (k : List UInt8) (xs : List It) : hasKey k xs ↔ k ∈ keysL xs := by
  unfold hasKey keysL
  simp
theorem nodup_snoc (xs : List It) (x : It) : (keysL (xs ++ [x])).Nodup ↔ (keysL xs).Nodup ∧ ¬ hasKey x.lo xs := by
  rw [hasKey_mem]
  unfold keysL
  rw [List.map_append, List.nodup_append]
  simp
theorem sortL_rising (xs : List It) : (keysL xs).Nodup → Rising (sortL xs) := by
  rw [← List.reverse_reverse xs]
  induction xs.reverse with
  | nil => intro _; simp [sortL, Rising]
  | cons x ys ih =>
    rw [List.reverse_cons, sortL_snoc]
    intro h
    obtain ⟨h1, h2⟩ := (nodup_snoc _ _).1 h
    exact insL_rising x _ (ih h1) (fun hk => h2 ((hasKey_sort _ _).1 hk))
theorem rising_nodup (xs : List It) (h : Rising xs) : (keysL xs).Nodup := by
  unfold keysL
  rw [List.Nodup, List.pairwise_map]
  refine List.Pairwise.imp (R := fun a b : It => a.lo < b.lo) ?_ h
  intro a b hab e
  rw [e] at hab
  exact lt_irrefl' hab
theorem sortL_of_rising (xs : List It) (h : Rising xs) : sortL xs = xs :=
  rising_unique _ _ (sortL_rising xs (rising_nodup xs h)) h (sortL_mem xs)
/-- What Of answers. -/
def ofE (xs : List It) : Int := if xs.all itOk then (if (keysL xs).Nodup then 0 else 11) else 1
end Go.Proofs.Ytclaagihmpghnaa
