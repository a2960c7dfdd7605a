/-
  A heap in a row of numbers: what an exchange on the way up, or down, keeps. Nothing of the program is named here.
-/
import Derived.Test.YtmijbplhmjledaaSpMath
namespace Go.Proofs.Ytmijbplhmjledaa
open Go.RowKit
set_option linter.unusedVariables false

/-- The first n numbers are a heap. -/
def HpN (ns : List Int) (n : Nat) : Prop := ∀ k, 0 < k → k < n → ns.getD ((k - 1) / 2) 0 ≤ ns.getD k 0
def IsHp (ns : List Int) : Prop := HpN ns ns.length
def swapL (ns : List Int) (i j : Nat) : List Int := (ns.set i (ns.getD j 0)).set j (ns.getD i 0)
theorem swapL_len (ns : List Int) (i j : Nat) : (swapL ns i j).length = ns.length := by simp [swapL]
theorem swapL_at {ns : List Int} {i j : Nat} (hi : i < ns.length) (hj : j < ns.length) (k : Nat) : (swapL ns i j).getD k 0 = if k = j then ns.getD i 0 else if k = i then ns.getD j 0 else ns.getD k 0 := by
  rw [swapL, getD_set _ _ _ _ _ (by rw [List.length_set]; exact hj), getD_set _ _ _ _ _ hi]
theorem swapL_perm {ns : List Int} {i j : Nat} (hi : i < ns.length) (hj : j < ns.length) : (swapL ns i j).Perm ns := by
  have := List.set_set_perm hi hj
  rw [swapL, getD_lt _ hi, getD_lt _ hj]; exact this

/-- All is right but at j. -/
def UpInv (ns : List Int) (j : Nat) : Prop :=
  (∀ k, 0 < k → k < ns.length → k ≠ j → ns.getD ((k - 1) / 2) 0 ≤ ns.getD k 0) ∧ (0 < j → ∀ k, 0 < k → k < ns.length → (k - 1) / 2 = j → ns.getD ((j - 1) / 2) 0 ≤ ns.getD k 0)
theorem up_start {ns : List Int} (h : IsHp ns) (x : Int) : UpInv (ns ++ [x]) ns.length := by
  have hg : ∀ k, k < ns.length → (ns ++ [x]).getD k 0 = ns.getD k 0 := fun k hk => by
    rw [getD_lt _ (by simp; omega), getD_lt _ hk, List.getElem_append_left hk]
  refine ⟨fun k h0 hk hne => ?_, fun h0 k hk0 hk e => ?_⟩
  · simp at hk
    rw [hg _ (by omega), hg _ (by omega)]
    exact h k h0 (by omega)
  · simp at hk; omega
theorem up_step {ns : List Int} {j : Nat} (h : UpInv ns j) (hj : j < ns.length) (h0 : 0 < j) (hlt : ns.getD j 0 < ns.getD ((j - 1) / 2) 0) : UpInv (swapL ns ((j - 1) / 2) j) ((j - 1) / 2) := by
  obtain ⟨h1, h2⟩ := h
  have hi : (j - 1) / 2 < ns.length := by omega
  have hat := swapL_at hi hj
  refine ⟨fun k k0 hk hne => ?_, fun i0 k k0 hk e => ?_⟩
  · rw [swapL_len] at hk
    rw [hat, hat]
    by_cases kj : k = j
    · subst kj
      rw [if_neg (by omega), if_pos rfl, if_pos rfl]; omega
    · rw [if_neg kj, if_neg hne]
      by_cases p1 : (k - 1) / 2 = j
      · rw [if_pos p1]; exact h2 h0 k k0 hk p1
      · rw [if_neg p1]
        have := h1 k k0 hk kj
        by_cases p2 : (k - 1) / 2 = (j - 1) / 2
        · rw [if_pos p2]; rw [p2] at this; omega
        · rw [if_neg p2]; exact this
  · rw [swapL_len] at hk
    rw [hat, hat, if_neg (by omega), if_neg (by omega)]
    have a1 := h1 ((j - 1) / 2) i0 hi (by omega)
    by_cases kj : k = j
    · rw [if_pos kj]; exact a1
    · rw [if_neg kj, if_neg (by omega)]
      have a2 := h1 k k0 hk kj
      rw [e] at a2
      omega
theorem up_stop {ns : List Int} {j : Nat} (h : UpInv ns j) (hs : j = 0 ∨ ¬ ns.getD j 0 < ns.getD ((j - 1) / 2) 0) : IsHp ns := by
  intro k k0 hk
  by_cases kj : k = j
  · subst kj
    rcases hs with hs | hs
    · omega
    · omega
  · exact h.1 k k0 hk kj

/-- Of the first n all is right but below i. -/
def DownInv (ns : List Int) (i n : Nat) : Prop :=
  (∀ k, 0 < k → k < n → (k - 1) / 2 ≠ i → ns.getD ((k - 1) / 2) 0 ≤ ns.getD k 0) ∧ (0 < i → ∀ k, 0 < k → k < n → (k - 1) / 2 = i → ns.getD ((i - 1) / 2) 0 ≤ ns.getD k 0)
theorem down_start {ns : List Int} {m : Nat} (hl : ns.length = m + 1) (h : IsHp ns) : DownInv (swapL ns 0 m) 0 m := by
  have hat := swapL_at (ns := ns) (i := 0) (j := m) (by omega) (by omega)
  refine ⟨fun k k0 hk hne => ?_, fun h0 => by omega⟩
  rw [hat, hat, if_neg (by omega), if_neg (by omega), if_neg (by omega), if_neg (by omega)]
  exact h k k0 (by omega)
theorem down_step {ns : List Int} {i j n : Nat} (h : DownInv ns i n) (hn : n ≤ ns.length) (hj : j = 2 * i + 1 ∨ j = 2 * i + 2) (hjn : j < n) (hmin : ∀ k, k < n → (k = 2 * i + 1 ∨ k = 2 * i + 2) → ns.getD j 0 ≤ ns.getD k 0) (hlt : ns.getD j 0 < ns.getD i 0) : DownInv (swapL ns i j) j n := by
  obtain ⟨h1, h2⟩ := h
  have hat := swapL_at (ns := ns) (i := i) (j := j) (by omega) (by omega)
  refine ⟨fun k k0 hk hne => ?_, fun _ k k0 hk e => ?_⟩
  · rw [hat, hat, if_neg hne]
    by_cases p : (k - 1) / 2 = i
    · rw [if_pos p]
      by_cases kj : k = j
      · rw [if_pos kj]; omega
      · rw [if_neg kj, if_neg (by omega)]
        exact hmin k hk (by omega)
    · rw [if_neg p, if_neg (by omega)]
      by_cases ki : k = i
      · subst ki
        rw [if_pos rfl]
        exact h2 k0 j (by omega) hjn (by omega)
      · rw [if_neg ki]; exact h1 k k0 hk p
  · rw [hat, hat, if_neg (by omega), if_pos (by omega), if_neg (by omega), if_neg (by omega)]
    have := h1 k k0 hk (by omega)
    rw [e] at this
    exact this
theorem down_stop {ns : List Int} {i n : Nat} (h : DownInv ns i n) (hs : ∀ k, k < n → (k = 2 * i + 1 ∨ k = 2 * i + 2) → ns.getD i 0 ≤ ns.getD k 0) : HpN ns n := by
  intro k k0 hk
  by_cases p : (k - 1) / 2 = i
  · rw [p]; exact hs k hk (by omega)
  · exact h.1 k k0 hk p
theorem hp_min {ns : List Int} {n : Nat} (h : HpN ns n) : ∀ k, k < n → ns.getD 0 0 ≤ ns.getD k 0 := by
  intro k
  induction k using Nat.strongRecOn with
  | _ k ih =>
    intro hk
    by_cases k0 : k = 0
    · subst k0; exact Int.le_refl _
    · have := ih ((k - 1) / 2) (by omega) (by omega)
      have := h k (by omega) hk
      omega

/-- Tickets that are gone, and their numbers. -/
def Gone (hs ns : List Int) : Prop := ns.Nodup ∧ ∀ z, z ∈ ns ↔ ∃ i : Nat, i < hs.length ∧ hs.getD i 0 = -1 ∧ z = (i : Int) + 1
theorem Gone.perm {hs ns ms : List Int} (h : Gone hs ns) (hp : ms.Perm ns) : Gone hs ms := ⟨hp.nodup_iff.2 h.1, fun z => hp.mem_iff.trans (h.2 z)⟩
theorem getD_mem {α : Type} {l : List α} {k : Nat} (d : α) (h : k < l.length) : l.getD k d ∈ l := by rw [getD_lt _ h]; exact List.getElem_mem _
/-- The least number that no ticket has. -/
def firstG (hs : List Int) : Nat := hs.findIdx (fun z => decide (z < 0))
theorem firstG_le (hs : List Int) : firstG hs ≤ hs.length := List.findIdx_le_length
theorem firstG_lt {hs : List Int} {k : Nat} (h : k < firstG hs) : 0 ≤ hs.getD k 0 := by
  have hk : k < hs.length := Nat.lt_of_lt_of_le h (firstG_le hs)
  have := List.not_of_lt_findIdx h
  rw [getD_lt _ hk]
  simpa using this
theorem firstG_at {hs : List Int} (h : firstG hs < hs.length) : hs.getD (firstG hs) 0 < 0 := by
  have := List.findIdx_getElem (w := h)
  rw [getD_lt _ h]
  simp only [decide_eq_true_eq] at this
  exact this
theorem firstG_eq {hs : List Int} {i : Nat} (hi : i < hs.length) (h1 : hs.getD i 0 < 0) (h2 : ∀ k, k < i → 0 ≤ hs.getD k 0) : firstG hs = i := by
  rcases Nat.lt_trichotomy (firstG hs) i with h | h | h
  · have := firstG_at (hs := hs) (by omega)
    have := h2 _ h
    omega
  · exact h
  · have := firstG_lt h; omega
theorem firstG_none {hs : List Int} (h2 : ∀ k, k < hs.length → 0 ≤ hs.getD k 0) : firstG hs = hs.length := by
  rcases Nat.lt_or_ge (firstG hs) hs.length with h | h
  · have := firstG_at h
    have := h2 _ h
    omega
  · have := firstG_le hs; omega
theorem gone_nil {hs : List Int} (h : Gone hs []) (hm : ∀ z ∈ hs, -1 ≤ z) : firstG hs = hs.length := by
  refine firstG_none (fun k hk => ?_)
  rcases Int.lt_or_le (hs.getD k 0) 0 with h1 | h1
  · have hz := hm _ (getD_mem 0 hk)
    have := (h.2 ((k : Int) + 1)).2 ⟨k, hk, by omega, rfl⟩
    simp at this
  · omega
theorem gone_min {hs ns : List Int} {x : Int} (h : Gone hs ns) (hm : ∀ z ∈ hs, -1 ≤ z) (hx : x ∈ ns) (hmin : ∀ z ∈ ns, x ≤ z) : firstG hs < hs.length ∧ x = (firstG hs : Int) + 1 := by
  obtain ⟨i, hi, h1, rfl⟩ := (h.2 x).1 hx
  have : firstG hs = i := firstG_eq hi (by omega) (fun k hk => by
    rcases Int.lt_or_le (hs.getD k 0) 0 with h3 | h3
    · have hz := hm _ (getD_mem 0 (show k < hs.length by omega))
      have := hmin _ ((h.2 ((k : Int) + 1)).2 ⟨k, by omega, by omega, rfl⟩)
      omega
    · omega)
  rw [this]
  exact ⟨hi, rfl⟩
/-- The least one is taken out. -/
theorem gone_pop {hs ns ms : List Int} {i : Nat} {n : Int} (h : Gone hs ns) (hi : i < hs.length) (hp : ns.Perm (((i : Int) + 1) :: ms)) (hn : n ≠ -1) : Gone (hs.set i n) ms := by
  have hg := h.perm hp.symm
  have hnd := List.nodup_cons.1 hg.1
  refine ⟨hnd.2, fun z => ⟨fun hz => ?_, ?_⟩⟩
  · obtain ⟨k, hk, h1, rfl⟩ := (hg.2 z).1 (List.mem_cons_of_mem _ hz)
    refine ⟨k, by rw [List.length_set]; exact hk, ?_, rfl⟩
    rw [getD_set _ _ _ _ _ hi, if_neg ?_]
    · exact h1
    · rintro rfl; exact hnd.1 hz
  · rintro ⟨k, hk, h1, rfl⟩
    rw [List.length_set] at hk
    rw [getD_set _ _ _ _ _ hi] at h1
    by_cases hki : k = i
    · rw [if_pos hki] at h1; exact absurd h1 hn
    · rw [if_neg hki] at h1
      have := (hg.2 ((k : Int) + 1)).2 ⟨k, hk, h1, rfl⟩
      rcases List.mem_cons.1 this with h3 | h3
      · omega
      · exact h3
/-- One more is gone. -/
theorem gone_push {hs ns ms : List Int} {i : Nat} (h : Gone hs ns) (hi : i < hs.length) (h0 : hs.getD i 0 ≠ -1) (hp : ms.Perm (ns ++ [((i : Int) + 1)])) : Gone (hs.set i (-1)) ms := by
  refine Gone.perm ⟨?_, fun z => ?_⟩ hp
  · rw [List.nodup_append]
    refine ⟨h.1, by simp, fun a ha b hb e => ?_⟩
    simp at hb
    subst hb
    rw [e] at ha
    obtain ⟨k, hk, h1, h2⟩ := (h.2 _).1 ha
    have : k = i := by omega
    subst this
    exact h0 h1
  · rw [List.mem_append, List.mem_singleton]
    constructor
    · rintro (hz | rfl)
      · obtain ⟨k, hk, h1, rfl⟩ := (h.2 z).1 hz
        refine ⟨k, by rw [List.length_set]; exact hk, ?_, rfl⟩
        rw [getD_set _ _ _ _ _ hi]
        split
        · rfl
        · exact h1
      · exact ⟨i, by rw [List.length_set]; exact hi, by rw [getD_set _ _ _ _ _ hi, if_pos rfl], rfl⟩
    · rintro ⟨k, hk, h1, rfl⟩
      rw [List.length_set] at hk
      rw [getD_set _ _ _ _ _ hi] at h1
      by_cases hki : k = i
      · right; rw [hki]
      · left
        rw [if_neg hki] at h1
        exact (h.2 _).2 ⟨k, hk, h1, rfl⟩
/-- What a ticket has that is none that is gone may be anything but that. -/
theorem gone_set {hs ns : List Int} {i : Nat} {n : Int} (h : Gone hs ns) (hi : i < hs.length) (h0 : hs.getD i 0 ≠ -1) (hn : n ≠ -1) : Gone (hs.set i n) ns := by
  refine ⟨h.1, fun z => (h.2 z).trans ?_⟩
  constructor
  · rintro ⟨k, hk, h1, rfl⟩
    refine ⟨k, by rw [List.length_set]; exact hk, ?_, rfl⟩
    rw [getD_set _ _ _ _ _ hi, if_neg (by rintro rfl; exact h0 h1)]
    exact h1
  · rintro ⟨k, hk, h1, rfl⟩
    rw [List.length_set] at hk
    rw [getD_set _ _ _ _ _ hi] at h1
    by_cases hki : k = i
    · rw [if_pos hki] at h1; exact absurd h1 hn
    · rw [if_neg hki] at h1; exact ⟨k, hk, h1, rfl⟩
theorem gone_snoc {hs ns : List Int} {n : Int} (h : Gone hs ns) (hn : n ≠ -1) : Gone (hs ++ [n]) ns := by
  refine ⟨h.1, fun z => (h.2 z).trans ?_⟩
  have hg : ∀ k, k < hs.length → (hs ++ [n]).getD k 0 = hs.getD k 0 := fun k hk => by
    rw [getD_lt _ (by simp; omega), getD_lt _ hk, List.getElem_append_left hk]
  constructor
  · rintro ⟨k, hk, h1, rfl⟩
    exact ⟨k, by simp; omega, by rw [hg k hk]; exact h1, rfl⟩
  · rintro ⟨k, hk, h1, rfl⟩
    simp at hk
    rcases Nat.lt_or_ge k hs.length with hl | hl
    · exact ⟨k, hl, by rw [← hg k hl]; exact h1, rfl⟩
    · obtain rfl : k = hs.length := by omega
      rw [getD_lt _ (by simp)] at h1
      simp at h1
      exact absurd h1 hn
theorem gone_empty : Gone [] [] := ⟨List.nodup_nil, fun z => by simp⟩
end Go.Proofs.Ytmijbplhmjledaa
