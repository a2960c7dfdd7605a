/-
  Places that are taken or given, block by block. Nothing of the program is named here.
-/
import Derived.Test.YtmijbplhmjledaaSpApM
namespace Go.Proofs.Ytmijbplhmjledaa
open Go.RowKit
set_option linter.unusedVariables false

def covX (x : Int × Int) (k : Nat) : Nat := if x.1 ≤ k ∧ (k : Int) < x.1 + x.2 then 1 else 0
/-- How many places have block k. -/
def cov : List (Int × Int) → Nat → Nat
  | [], _ => 0
  | x :: xs, k => covX x k + cov xs k
theorem fill_inv (b : Bool) : ∀ (xs : List (Int × Int)) {l m : List Bool}, (∀ x ∈ xs, inE l.length x = true) → fillL b l xs = some m →
    m.length = l.length ∧ ∀ k, cov xs k ≤ 1 ∧ (cov xs k = 1 → l.getD k b ≠ b) ∧ ∀ d, m.getD k d = if cov xs k = 0 then l.getD k d else b
  | [], l, m, _, h => by
    injection h with h
    subst h
    exact ⟨rfl, fun k => ⟨by simp [cov], by simp [cov], by simp [cov]⟩⟩
  | x :: xs, l, m, hin, h => by
    simp only [fillL, Option.bind_eq_some_iff] at h
    obtain ⟨l1, h1, h2⟩ := h
    obtain ⟨a1, a2, a3⟩ := fillX_inv (hin x (by simp)) h1
    obtain ⟨b1, b2⟩ := fill_inv b xs (fun y hy => by rw [a2]; exact hin y (by simp [hy])) h2
    refine ⟨b1.trans a2, fun k => ?_⟩
    obtain ⟨c1, c2, c3⟩ := b2 k
    by_cases hk : x.1 ≤ k ∧ (k : Int) < x.1 + x.2
    · have e1 : covX x k = 1 := by rw [covX, if_pos hk]
      have e2 : cov xs k = 0 := by
        rcases Nat.lt_or_ge (cov xs k) 1 with h | h
        · omega
        · exact absurd (by rw [a3, if_pos hk]) (c2 (by omega))
      refine ⟨by rw [cov, e1, e2]; decide, fun _ => a1 k hk.1 hk.2, fun d => ?_⟩
      rw [c3, if_pos e2, a3, if_pos hk, cov, e1, e2]
      rfl
    · have e1 : covX x k = 0 := by rw [covX, if_neg hk]
      rw [cov, e1, Nat.zero_add]
      refine ⟨c1, fun h => ?_, fun d => ?_⟩
      · have := c2 h
        rw [a3, if_neg hk] at this
        exact this
      · rw [c3, a3, if_neg hk]
theorem fill_ok (b : Bool) : ∀ (xs : List (Int × Int)) {l : List Bool}, (∀ x ∈ xs, inE l.length x = true) → (∀ k, cov xs k ≤ 1 ∧ (cov xs k = 1 → l.getD k b ≠ b)) → ∃ m, fillL b l xs = some m
  | [], l, _, _ => ⟨l, rfl⟩
  | x :: xs, l, hin, h => by
    obtain ⟨l1, h1⟩ := fillX_ok (b := b) (hin x (by simp)) (fun k k1 k2 => (h k).2 (by
      have := (h k).1
      have e1 : covX x k = 1 := by rw [covX, if_pos ⟨k1, k2⟩]
      rw [cov, e1] at this ⊢
      omega))
    obtain ⟨a1, a2, a3⟩ := fillX_inv (hin x (by simp)) h1
    obtain ⟨m, hm⟩ := fill_ok b xs (l := l1) (fun y hy => by rw [a2]; exact hin y (by simp [hy])) (fun k => by
      obtain ⟨c1, c2⟩ := h k
      rw [cov] at c1 c2
      refine ⟨by omega, fun e => ?_⟩
      have e1 : covX x k = 0 := by omega
      have hk : ¬ (x.1 ≤ k ∧ (k : Int) < x.1 + x.2) := fun hk => by rw [covX, if_pos hk] at e1; cases e1
      rw [a3, if_neg hk]
      exact c2 (by omega))
    exact ⟨m, by simp only [fillL, h1, Option.bind_some]; exact hm⟩
theorem set_fill {b : Bool} {l m : List Bool} {xs : List (Int × Int)} (hin : ∀ x ∈ xs, inE l.length x = true) (h : fillL b l xs = some m) : setE b l xs = 0 ∧ setL b l xs = m := by
  refine set_ok (List.all_eq_true.2 hin) ?_
  rw [fillA_eq _ _ _ _ (Nat.le_refl _), List.take_length]; exact h
theorem set_zero {b : Bool} {l : List Bool} {xs : List (Int × Int)} (h : setE b l xs = 0) : (∀ x ∈ xs, inE l.length x = true) ∧ fillL b l xs = some (setL b l xs) := by
  unfold setE at h
  split at h
  · rename_i hall
    split at h
    · rename_i hs
      refine ⟨List.all_eq_true.1 hall, ?_⟩
      obtain ⟨m, hm⟩ := Option.isSome_iff_exists.1 hs
      rw [(set_ok hall hm).2]
      rw [fillA_eq _ _ _ _ (Nat.le_refl _), List.take_length] at hm
      exact hm
    · cases h
  · cases h
theorem set_bad {b : Bool} {l : List Bool} {xs : List (Int × Int)} (h : setE b l xs ≠ 0) : setL b l xs = l := by
  unfold setE at h
  unfold setL
  split
  · rename_i hall
    rw [if_pos hall] at h
    split at h
    · exact absurd rfl h
    · rename_i hn
      rw [Option.not_isSome_iff_eq_none.1 hn]; rfl
  · rfl
/-- What was taken can be given back. -/
theorem take_back {l : List Bool} {xs : List (Int × Int)} (h : setE false l xs = 0) : setE true (setL false l xs) xs = 0 ∧ setL true (setL false l xs) xs = l := by
  obtain ⟨hin, hf⟩ := set_zero h
  obtain ⟨a1, a2⟩ := fill_inv false xs hin hf
  have hin2 : ∀ x ∈ xs, inE (setL false l xs).length x = true := fun x hx => by rw [a1]; exact hin x hx
  obtain ⟨m, hm⟩ := fill_ok true xs (l := setL false l xs) hin2 (fun k => ⟨(a2 k).1, fun e => by rw [(a2 k).2.2, if_neg (by omega)]; decide⟩)
  obtain ⟨b1, b2⟩ := fill_inv true xs hin2 hm
  obtain ⟨e1, e2⟩ := set_fill hin2 hm
  refine ⟨e1, ?_⟩
  rw [e2]
  refine ext_getD (b1.trans a1) (fun k hk => ?_)
  rw [(b2 k).2.2, (a2 k).2.2]
  by_cases hc : cov xs k = 0
  · rw [if_pos hc, if_pos hc]
  · rw [if_neg hc]
    have := (a2 k).2.1 (by have := (a2 k).1; omega)
    cases hv : l.getD k false with
    | true => rfl
    | false => exact absurd hv this
theorem take_sub {l : List Bool} {xs : List (Int × Int)} (k : Nat) (h : (setL false l xs).getD k false = true) : l.getD k false = true := by
  by_cases hz : setE false l xs = 0
  · obtain ⟨hin, hf⟩ := set_zero hz
    obtain ⟨a1, a2⟩ := fill_inv false xs hin hf
    rw [(a2 k).2.2] at h
    split at h
    · exact h
    · cases h
  · rw [set_bad hz] at h; exact h
/-- Each block as a place of its own. -/
def ones (zs : List Int) : List (Int × Int) := zs.map (fun z => (z, 1))
theorem ones_length (zs : List Int) : (ones zs).length = zs.length := by simp [ones]
theorem cov_ones (k : Nat) : ∀ zs : List Int, cov (ones zs) k = zs.count (k : Int)
  | [] => rfl
  | z :: zs => by
    have : ones (z :: zs) = (z, 1) :: ones zs := rfl
    rw [this, cov, cov_ones k zs, covX, List.count_cons]
    by_cases h : z = (k : Int)
    · rw [if_pos (by simp only; omega), if_pos (by simp [h]), Nat.add_comm]
    · rw [if_neg (by simp only; omega), if_neg (by simpa using h)]; omega
theorem count_le_one {α : Type} [DecidableEq α] {zs : List α} (h : zs.Nodup) (z : α) : zs.count z ≤ 1 := List.nodup_iff_count.1 h z
theorem give_ones {l : List Bool} {zs : List Int} (h : ∀ z ∈ zs, 0 ≤ z ∧ z < (l.length : Int) ∧ l.getD z.toNat false = false) (hn : zs.Nodup) :
    setE true l (ones zs) = 0 ∧ (setL true l (ones zs)).length = l.length ∧ ∀ k d, (setL true l (ones zs)).getD k d = if (k : Int) ∈ zs then true else l.getD k d := by
  have hin : ∀ x ∈ ones zs, inE l.length x = true := fun x hx => by
    obtain ⟨z, hz, rfl⟩ := List.mem_map.1 hx
    obtain ⟨h1, h2, _⟩ := h z hz
    exact inE_iff.2 ⟨h1, Int.le_refl _, by simp only; omega⟩
  have hc : ∀ k, cov (ones zs) k = if (k : Int) ∈ zs then 1 else 0 := fun k => by
    rw [cov_ones]
    by_cases hk : (k : Int) ∈ zs
    · rw [if_pos hk]
      have := count_le_one hn (k : Int)
      have := List.count_pos_iff.2 hk
      omega
    · rw [if_neg hk]; exact List.count_eq_zero.2 hk
  obtain ⟨m, hm⟩ := fill_ok true (ones zs) hin (fun k => by
    rw [hc]
    refine ⟨by split <;> decide, fun e => ?_⟩
    split at e
    · rename_i hk
      obtain ⟨_, h2, h3⟩ := h _ hk
      rw [Int.toNat_natCast] at h3
      rw [getD_flip true false (by omega), h3]
      decide
    · cases e)
  obtain ⟨a1, a2⟩ := fill_inv true (ones zs) hin hm
  obtain ⟨e1, e2⟩ := set_fill hin hm
  refine ⟨e1, by rw [e2, a1], fun k d => ?_⟩
  rw [e2, (a2 k).2.2, hc]
  by_cases hk : (k : Int) ∈ zs
  · rw [if_pos hk, if_pos hk, if_neg (by decide)]
  · rw [if_neg hk, if_neg hk, if_pos rfl]

/-- How many are free. -/
theorem count_mono : ∀ {l m : List Bool}, l.length = m.length → (∀ k, l.getD k false = true → m.getD k false = true) → l.count true ≤ m.count true
  | [], [], _, _ => Nat.le_refl _
  | a :: l, b :: m, h, hk => by
    have ih := count_mono (l := l) (m := m) (by simpa using h) (fun k hx => by have := hk (k + 1); simp only [List.getD_cons_succ] at this; exact this hx)
    have h0 := hk 0
    simp only [List.getD_cons_zero] at h0
    rw [List.count_cons, List.count_cons]
    cases a
    · simp; omega
    · rw [h0 rfl]; simp; exact ih
theorem free_mono {l m : List Bool} (h : l.length = m.length) (hk : ∀ k, l.getD k false = true → m.getD k false = true) : freeL l ≤ freeL m := by
  rw [freeL_eq, freeL_eq]; have := count_mono h hk; omega
theorem free_bound (l : List Bool) : 0 ≤ freeL l ∧ freeL l ≤ l.length := by
  rw [freeL_eq]; have := List.count_le_length (a := true) (l := l); omega
theorem free_set {l : List Bool} {k : Nat} (hk : k < l.length) (h : l.getD k false = true) : freeL (l.set k false) = freeL l - 1 := by
  rw [freeL_eq, freeL_eq, List.count_set hk]
  rw [getD_lt _ hk] at h
  have hp : 0 < l.count true := List.count_pos_iff.2 (by rw [← h]; exact List.getElem_mem _)
  simp [h]
  omega
/-- One block is taken. -/
theorem draw_ok {l : List Bool} (h : 1 ≤ freeL l) : ∃ k : Nat, k < l.length ∧ l.getD k false = true ∧ takeX l 1 = ((k : Int), 1) ∧ takeE l 1 = 0 ∧ takeL l 1 = l.set k false ∧ ∃ x, bestL l 1 = some x ∧ x.1 = k := by
  have hs : ∃ x, bestL l 1 = some x := by
    cases hb : bestL l 1 with
    | some x => exact ⟨x, rfl⟩
    | none =>
      have h1 := bestT_none _ _ _ (Nat.le_refl _) hb
      have h2 := (rowL_ok l).ok
      have : rowL l = [] := by
        cases hr : rowL l with
        | nil => rfl
        | cons y ys =>
          have a := h1 0 (by rw [hr]; simp) (by rw [hr]; simp)
          have b := (h2 _ (List.getElem_mem (show 0 < (rowL l).length by rw [hr]; simp))).2.1
          omega
      rw [freeL, this] at h
      simp [sumT] at h
  obtain ⟨x, hx⟩ := hs
  obtain ⟨f1, f2⟩ := best_fits (Int.le_refl 1) hx
  obtain ⟨i1, i2, i3⟩ := inE_iff.1 f1
  simp only at i1 i2 i3
  obtain ⟨k, hk⟩ := Int.eq_ofNat_of_zero_le i1
  have hkl : k < l.length := by omega
  obtain ⟨s1, s2, s3⟩ := best_set (Int.le_refl 1) hx
  refine ⟨k, hkl, f2 k (by omega) (by omega), ?_, ?_, ?_, x, hx, hk⟩
  · simp [takeX, hx, hk]
  · simp [takeE, hx]
  · have : takeL l 1 = setL false l [(x.1, 1)] := by simp [takeL, hx]
    rw [this]
    refine ext_getD (by rw [s2, List.length_set]) (fun j hj => ?_)
    rw [s3, getD_set _ _ _ _ _ hkl]
    by_cases e : j = k
    · rw [if_pos (by omega), if_pos e]
    · rw [if_neg (by omega), if_neg e]
end Go.Proofs.Ytmijbplhmjledaa
