/-
  What is taken, and what is free: given back, all is free. Nothing of the program is named here.
-/
import Derived.Test.YtmijbplhmjledaaSpMath
namespace Go.Proofs.Ytmijbplhmjledaa
open Go.RowKit
set_option linter.unusedVariables false

def fillL (b : Bool) (l : List Bool) : List (Int × Int) → Option (List Bool)
  | [] => some l
  | x :: xs => (fillX b l x).bind fun m => fillL b m xs
theorem fillL_snoc (b : Bool) (x : Int × Int) : ∀ (xs : List (Int × Int)) (l : List Bool), fillL b l (xs ++ [x]) = (fillL b l xs).bind fun m => fillX b m x
  | [], l => by simp [fillL]
  | y :: ys, l => by
    simp only [List.cons_append, fillL]
    cases h : fillX b l y with
    | none => rfl
    | some m => simp only [Option.bind_some]; exact fillL_snoc b x ys m
theorem fillA_eq (b : Bool) (l : List Bool) (xs : List (Int × Int)) : ∀ j, j ≤ xs.length → fillA b l xs j = fillL b l (xs.take j)
  | 0, _ => by simp [fillA, fillL]
  | j + 1, h => by
    rw [fillA, fillA_eq b l xs j (by omega), take_snoc' _ _ (show j < xs.length by omega), fillL_snoc, getD_lt _ (show j < xs.length by omega)]
theorem fillX_inv {b : Bool} {l m : List Bool} {x : Int × Int} (hin : inE l.length x = true) (h : fillX b l x = some m) :
    (∀ k : Nat, x.1 ≤ k → (k : Int) < x.1 + x.2 → l.getD k b ≠ b) ∧ m.length = l.length ∧ ∀ (k : Nat) d, m.getD k d = if x.1 ≤ k ∧ (k : Int) < x.1 + x.2 then b else l.getD k d := by
  obtain ⟨i1, i2, i3⟩ := inE_iff.1 hin
  have h1 : ∀ k : Nat, x.1 ≤ k → (k : Int) < x.1 + x.2 → l.getD k b ≠ b := fun k k1 k2 e => by
    have := fillN_bad (b := b) (l := l) (a := x.1.toNat) (j := x.2.toNat) (k := k) (by omega) (by omega) (by omega) e
    unfold fillX at h
    rw [this] at h
    cases h
  obtain ⟨l', e1, e2, e3⟩ := fillN_free (b := b) (l := l) (a := x.1.toNat) x.2.toNat (by omega) (fun k a c => h1 k (by omega) (by omega))
  unfold fillX at h
  rw [e1] at h
  injection h with h
  subst h
  refine ⟨h1, e2, fun k d => ?_⟩
  rw [e3]
  by_cases hk : x.1 ≤ k ∧ (k : Int) < x.1 + x.2
  · rw [if_pos hk, if_pos (by omega)]
  · rw [if_neg hk, if_neg (by omega)]
theorem fillX_ok {b : Bool} {l : List Bool} {x : Int × Int} (hin : inE l.length x = true) (h : ∀ k : Nat, x.1 ≤ k → (k : Int) < x.1 + x.2 → l.getD k b ≠ b) : ∃ m, fillX b l x = some m := by
  obtain ⟨i1, i2, i3⟩ := inE_iff.1 hin
  obtain ⟨l', e1, _⟩ := fillN_free (b := b) (l := l) (a := x.1.toNat) x.2.toNat (by omega) (fun k a c => h k (by omega) (by omega))
  exact ⟨l', e1⟩

/-- The same but for the blocks of x, which are free in l and not in l'. -/
structure Less (x : Int × Int) (l' l : List Bool) : Prop where
  len : l'.length = l.length
  on : ∀ k : Nat, x.1 ≤ k → (k : Int) < x.1 + x.2 → l.getD k false = true ∧ l'.getD k false = false
  off : ∀ k : Nat, ¬ (x.1 ≤ k ∧ (k : Int) < x.1 + x.2) → l'.getD k false = l.getD k false
theorem getD_flip {l : List Bool} {k : Nat} (d e : Bool) (h : k < l.length) : l.getD k d = l.getD k e := by rw [getD_lt _ h, getD_lt _ h]
theorem less_fill {x y : Int × Int} {l' l m : List Bool} (h : Less x l' l) (hin : inE l.length y = true) (hf : fillX true l y = some m) : ∃ m', fillX true l' y = some m' ∧ Less x m' m := by
  obtain ⟨h1, h2, h3⟩ := fillX_inv hin hf
  obtain ⟨i1, i2, i3⟩ := inE_iff.1 hin
  have hin' : inE l'.length y = true := by rw [h.len]; exact hin
  have hno : ∀ k : Nat, y.1 ≤ k → (k : Int) < y.1 + y.2 → l.getD k false = false ∧ l'.getD k false = false := fun k k1 k2 => by
    have hk : k < l.length := by omega
    have e1 : l.getD k false = false := by
      have := h1 k k1 k2
      rw [getD_flip true false hk] at this
      simpa using this
    refine ⟨e1, ?_⟩
    by_cases hx : x.1 ≤ k ∧ (k : Int) < x.1 + x.2
    · exact (h.on k hx.1 hx.2).2
    · rw [h.off k hx]; exact e1
  obtain ⟨m', e1⟩ := fillX_ok (b := true) hin' (fun k k1 k2 => by
    have hk : k < l'.length := by rw [h.len]; omega
    rw [getD_flip true false hk, (hno k k1 k2).2]; decide)
  obtain ⟨_, g2, g3⟩ := fillX_inv hin' e1
  refine ⟨m', e1, by rw [g2, h2, h.len], fun k k1 k2 => ?_, fun k hk => ?_⟩
  · have hny : ¬ (y.1 ≤ k ∧ (k : Int) < y.1 + y.2) := fun hy => by
      have e1 := (hno k hy.1 hy.2).1
      have e2 := (h.on k k1 k2).1
      rw [e1] at e2; cases e2
    rw [h3, g3, if_neg hny, if_neg hny]
    exact h.on k k1 k2
  · rw [h3, g3]
    by_cases hy : y.1 ≤ k ∧ (k : Int) < y.1 + y.2
    · rw [if_pos hy, if_pos hy]
    · rw [if_neg hy, if_neg hy]; exact h.off k hk
theorem less_fillL {x : Int × Int} : ∀ (xs : List (Int × Int)) {l' l m : List Bool}, Less x l' l → (∀ y ∈ xs, inE l.length y = true) → fillL true l xs = some m → ∃ m', fillL true l' xs = some m' ∧ Less x m' m
  | [], l', l, m, h, _, hf => by
    simp [fillL] at hf
    subst hf
    exact ⟨l', rfl, h⟩
  | y :: ys, l', l, m, h, hin, hf => by
    simp only [fillL, Option.bind_eq_some_iff] at hf
    obtain ⟨m1, h1, h2⟩ := hf
    obtain ⟨m1', g1, g2⟩ := less_fill h (hin y List.mem_cons_self) h1
    have hl := (fillX_inv (hin y List.mem_cons_self) h1).2.1
    obtain ⟨m', g3, g4⟩ := less_fillL ys g2 (fun z hz => by rw [hl]; exact hin z (List.mem_cons_of_mem _ hz)) h2
    exact ⟨m', by simp only [fillL, g1, Option.bind_some]; exact g3, g4⟩

/-- What is taken (xs) and what is free (l), of k blocks: given back one by one, all is free. -/
def InvM (k : Nat) (l : List Bool) (xs : List (Int × Int)) : Prop := l.length = k ∧ (∀ x ∈ xs, inE k x = true) ∧ fillL true l xs = some (List.replicate k true)
theorem inv_nil (k : Nat) : InvM k (List.replicate k true) [] := ⟨List.length_replicate, fun x hx => by simp at hx, rfl⟩
theorem inv_push {k : Nat} {l : List Bool} {xs : List (Int × Int)} {z : Int} {x : Int × Int} (h : InvM k l xs) (hz : 1 ≤ z) (hb : bestL l z = some x) : InvM k (setL false l [(x.1, z)]) (xs ++ [(x.1, z)]) := by
  obtain ⟨h1, h2, h3⟩ := h
  obtain ⟨b1, b2⟩ := best_fits hz hb
  obtain ⟨s1, s2, s3⟩ := best_set hz hb
  have hL : Less (x.1, z) (setL false l [(x.1, z)]) l := ⟨s2, fun k k1 k2 => ⟨b2 k k1 k2, by rw [s3, if_pos ⟨k1, k2⟩]⟩, fun k hk => by rw [s3, if_neg hk]⟩
  obtain ⟨m', g1, g2⟩ := less_fillL xs hL (fun y hy => by rw [h1]; exact h2 y hy) h3
  have hin : inE k (x.1, z) = true := by rw [← h1]; exact b1
  have hml : m'.length = k := by rw [g2.len, List.length_replicate]
  obtain ⟨m2, e1⟩ := fillX_ok (b := true) (l := m') (x := (x.1, z)) (by rw [hml]; exact hin) (fun j j1 j2 => by
    obtain ⟨i1, i2, i3⟩ := inE_iff.1 hin
    have hj : j < m'.length := by simp only at i1 i2 i3 j1 j2; omega
    rw [getD_flip true false hj, (g2.on j j1 j2).2]; decide)
  obtain ⟨_, e2, e3⟩ := fillX_inv (by rw [hml]; exact hin) e1
  refine ⟨by rw [s2, h1], fun y hy => ?_, ?_⟩
  · rw [List.mem_append] at hy
    rcases hy with hy | hy
    · exact h2 y hy
    · simp at hy; subst hy; exact hin
  · rw [fillL_snoc, g1, Option.bind_some, e1]
    congr 1
    refine ext_getD (by rw [e2, hml, List.length_replicate]) (fun j hj => ?_)
    have hjk : j < k := by rw [e2, hml] at hj; exact hj
    have hr : (List.replicate k true).getD j false = true := by rw [getD_lt _ (by simpa using hjk)]; simp
    rw [e3, hr]
    by_cases hx : x.1 ≤ j ∧ (j : Int) < x.1 + z
    · rw [if_pos hx]
    · rw [if_neg hx, g2.off j hx, hr]
theorem inv_pop {k : Nat} {l : List Bool} {y : Int × Int} {ys : List (Int × Int)} (h : InvM k l (y :: ys)) :
    inE k y = true ∧ setE true l [y] = 0 ∧ (setL true l [y]).length = k ∧ (∀ (j : Nat) d, (setL true l [y]).getD j d = if y.1 ≤ j ∧ (j : Int) < y.1 + y.2 then true else l.getD j d) ∧ setE true (setL true l [y]) [y] = 11 ∧ setL true (setL true l [y]) [y] = setL true l [y] ∧ InvM k (setL true l [y]) ys := by
  obtain ⟨h1, h2, h3⟩ := h
  have hin : inE k y = true := h2 y List.mem_cons_self
  simp only [fillL, Option.bind_eq_some_iff] at h3
  obtain ⟨m, g1, g2⟩ := h3
  obtain ⟨f1, f2, f3⟩ := fillX_inv (by rw [h1]; exact hin) g1
  obtain ⟨e1, e2, e3⟩ := set_one (b := true) (l := l) (x := y) (by rw [h1]; exact hin) f1
  have hm : setL true l [y] = m := by
    refine ext_getD (by rw [e2, f2]) (fun j hj => ?_)
    rw [e3, f3]
  have hl : (setL true l [y]).length = k := by rw [e2, h1]
  obtain ⟨i1, i2, i3⟩ := inE_iff.1 hin
  obtain ⟨Y, hY⟩ := Int.eq_ofNat_of_zero_le i1
  obtain ⟨c1, c2⟩ := set_one_bad (b := true) (l := setL true l [y]) (x := y) (by rw [hl]; exact hin) Y (by omega) (by omega) (by rw [e3, if_pos (by omega)])
  exact ⟨hin, e1, hl, e3, c1, c2, hl, fun z hz => h2 z (List.mem_cons_of_mem _ hz), by rw [hm]; exact g2⟩
theorem inv_all {k : Nat} {l : List Bool} {xs : List (Int × Int)} (h : InvM k l xs) : setE true l xs = 0 ∧ setL true l xs = List.replicate k true := by
  obtain ⟨h1, h2, h3⟩ := h
  refine set_ok (by rw [List.all_eq_true]; intro x hx; rw [h1]; exact h2 x hx) ?_
  rw [fillA_eq _ _ _ _ (Nat.le_refl _), List.take_length]
  exact h3

/-- What isn't free. -/
def nots (l : List Bool) : List Bool := l.map (!·)
theorem nots_len (l : List Bool) : (nots l).length = l.length := by simp [nots]
theorem nots_at (l : List Bool) (j : Nat) (h : j < l.length) : (nots l).getD j false = !l.getD j false := by
  rw [getD_lt _ (by rw [nots_len]; exact h), getD_lt _ h]; simp [nots]
theorem nots_count (l : List Bool) (j : Nat) : ((nots l).take j).count true + (l.take j).count true = min j l.length := by
  induction l generalizing j with
  | nil => simp [nots]
  | cons b l ih =>
    cases j with
    | zero => simp
    | succ j =>
      have := ih j
      simp only [nots, List.map_cons, List.take_succ_cons, List.count_cons, List.length_cons] at this ⊢
      cases b <;> simp <;> omega
theorem rowL_all (k : Nat) (hk : 1 ≤ k) : rowL (List.replicate k true) = [(0, (k : Int))] := by
  have := rowT_all (List.replicate k true) (fun j hj => by rw [getD_lt _ hj]; simp) k (by omega) (by simp)
  rw [rowL, List.length_replicate]
  exact this
end Go.Proofs.Ytmijbplhmjledaa
