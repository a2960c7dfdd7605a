/-
  A stable sort, plainly: rows that have, of each key, the same elements in the same order; runs; what merging two runs in place comes to. Nothing of the program is named here.
-/
import Derived.Sort.LotA
namespace Go.Proofs.YtnalillebemglaaGreat
open Go.Sort
set_option linter.unusedVariables false
set_option linter.unusedSimpArgs false
set_option linter.unusedSectionVars false
section
variable {α : Type} (key : α → List UInt8)

/-- Of each key the same elements, in the same order. -/
def Alike (a b : List α) : Prop := ∀ k, a.filter (fun x => decide (key x = k)) = b.filter (fun x => decide (key x = k))
/-- No later one is less. -/
def Up (a : List α) : Prop := a.Pairwise (fun x y => ¬ key y < key x)
variable {key}
theorem Alike.refl (a : List α) : Alike key a a := fun _ => rfl
theorem Alike.trans {a b c : List α} (h : Alike key a b) (k : Alike key b c) : Alike key a c := fun q => (h q).trans (k q)
theorem Alike.symm {a b : List α} (h : Alike key a b) : Alike key b a := fun q => (h q).symm
theorem Alike.append {a b c d : List α} (h : Alike key a b) (k : Alike key c d) : Alike key (a ++ c) (b ++ d) := fun q => by
  rw [List.filter_append, List.filter_append, h q, k q]
theorem Alike.mem {a b : List α} (h : Alike key a b) (x : α) (hx : x ∈ a) : x ∈ b := by
  have h1 : x ∈ a.filter (fun y => decide (key y = key x)) := List.mem_filter.2 ⟨hx, by simp⟩
  rw [h] at h1
  exact (List.mem_filter.1 h1).1
theorem Alike.swap (u v : List α) (h : ∀ x ∈ u, ∀ y ∈ v, key x ≠ key y) : Alike key (u ++ v) (v ++ u) := fun q => by
  rw [List.filter_append, List.filter_append]
  by_cases hu : u.filter (fun x => decide (key x = q)) = []
  · rw [hu]; simp
  · have hv : v.filter (fun x => decide (key x = q)) = [] := by
      rw [List.filter_eq_nil_iff]
      intro y hy hq
      apply hu
      rw [List.filter_eq_nil_iff]
      intro x hx hp
      simp at hp hq
      exact h x hx y hy (hp.trans hq.symm)
    rw [hv]; simp
theorem Alike.cancel {a b c d : List α} (h : Alike key (a ++ b ++ c) (a ++ d ++ c)) : Alike key b d := fun q => by
  have := h q
  simp only [List.filter_append] at this
  exact List.append_cancel_left (List.append_cancel_right this)
theorem alike_len {a b : List α} (h : Alike key a b) : ∀ x, x ∈ a ↔ x ∈ b := fun x => ⟨h.mem x, h.symm.mem x⟩

theorem klt_trans {a b c : List UInt8} (h : a < b) (k : b < c) : a < c := by grind
theorem kle_trans {a b c : List UInt8} (h : ¬ b < a) (k : ¬ c < b) : ¬ c < a := by grind

theorem up_append {a b : List α} : Up key (a ++ b) ↔ Up key a ∧ Up key b ∧ ∀ x ∈ a, ∀ y ∈ b, ¬ key y < key x := by
  unfold Up
  rw [List.pairwise_append]
theorem up_nil : Up key ([] : List α) := List.Pairwise.nil
theorem up_one (x : α) : Up key [x] := by simp [Up]
theorem up_at {a : List α} (h : Up key a) {i j : Nat} (hj : j < a.length) (hi : i ≤ j) : ¬ key (a[j]'hj) < key (a[i]'(by omega)) := by
  rcases Nat.lt_or_eq_of_le hi with e | e
  · exact List.pairwise_iff_getElem.1 h i j (by omega) hj e
  · subst e; grind

/-- Both merged runs, when both halves are merged. -/
theorem merged (X Y Z1 Z2 : List α) (s t : Nat) (hX : Up key X) (hY : Up key Y) (hs : s ≤ X.length) (ht : t ≤ Y.length)
    (h1 : ∀ (a : 0 < s) (b : t < Y.length), ¬ key Y[t] < key (X[s - 1]'(by omega))) (h2 : ∀ (a : 0 < t) (b : s < X.length), key (Y[t - 1]'(by omega)) < key X[s])
    (u1 : Up key Z1) (u2 : Up key Z2) (a1 : Alike key Z1 (X.take s ++ Y.take t)) (a2 : Alike key Z2 (X.drop s ++ Y.drop t)) : Up key (Z1 ++ Z2) ∧ Alike key (Z1 ++ Z2) (X ++ Y) := by
  have lo : ∀ y ∈ Y.take t, ∀ x ∈ X.drop s, key y < key x := fun y hy x hx => by
    obtain ⟨i, hi, rfl⟩ := List.getElem_of_mem hy
    obtain ⟨j, hj, rfl⟩ := List.getElem_of_mem hx
    rw [List.length_take] at hi
    rw [List.length_drop] at hj
    rw [List.getElem_take, List.getElem_drop]
    have e1 := h2 (by omega) (by omega)
    have e2 := up_at hY (i := i) (j := t - 1) (by omega) (by omega)
    have e3 := up_at hX (i := s) (j := s + j) (by omega) (by omega)
    grind
  have hi' : ∀ x ∈ X.take s, ∀ y ∈ Y.drop t, ¬ key y < key x := fun x hx y hy => by
    obtain ⟨i, hi, rfl⟩ := List.getElem_of_mem hx
    obtain ⟨j, hj, rfl⟩ := List.getElem_of_mem hy
    rw [List.length_take] at hi
    rw [List.length_drop] at hj
    rw [List.getElem_take, List.getElem_drop]
    have e1 := h1 (by omega) (by omega)
    have e2 := up_at hX (i := i) (j := s - 1) (by omega) (by omega)
    have e3 := up_at hY (i := t) (j := t + j) (by omega) (by omega)
    grind
  have hXX := up_append.1 (show Up key (X.take s ++ X.drop s) by rw [List.take_append_drop]; exact hX)
  have hYY := up_append.1 (show Up key (Y.take t ++ Y.drop t) by rw [List.take_append_drop]; exact hY)
  constructor
  · refine up_append.2 ⟨u1, u2, fun x hx y hy => ?_⟩
    have m1 := a1.mem x hx
    have m2 := a2.mem y hy
    rcases List.mem_append.1 m1 with m1 | m1
    · rcases List.mem_append.1 m2 with m2 | m2
      · exact hXX.2.2 x m1 y m2
      · exact hi' x m1 y m2
    · rcases List.mem_append.1 m2 with m2 | m2
      · have := lo x m1 y m2; grind
      · exact hYY.2.2 x m1 y m2
  · have e : Alike key (Y.take t ++ X.drop s) (X.drop s ++ Y.take t) := Alike.swap _ _ (fun y hy x hx e => by have := lo y hy x hx; rw [e] at this; grind)
    refine (a1.append a2).trans ?_
    have h3 : X.take s ++ Y.take t ++ (X.drop s ++ Y.drop t) = X.take s ++ (Y.take t ++ X.drop s) ++ Y.drop t := by simp
    have h4 : X ++ Y = X.take s ++ (X.drop s ++ Y.take t) ++ Y.drop t := by
      conv => lhs; rw [← List.take_append_drop s X, ← List.take_append_drop t Y]
      simp only [List.append_assoc]
    rw [h3, h4]
    exact ((Alike.refl _).append e).append (Alike.refl _)

/-- One element, laid into a run behind it. -/
theorem merged_left (x : α) (Y : List α) (t : Nat) (hY : Up key Y) (ht : t ≤ Y.length) (h1 : ∀ (b : t < Y.length), ¬ key Y[t] < key x) (h2 : ∀ (a : 0 < t), key (Y[t - 1]'(by omega)) < key x) :
    Up key (Y.take t ++ [x] ++ Y.drop t) ∧ Alike key (Y.take t ++ [x] ++ Y.drop t) ([x] ++ Y) := by
  rcases Nat.eq_zero_or_pos t with e | e
  · subst e
    simp only [List.take_zero, List.drop_zero, List.nil_append]
    refine ⟨up_append.2 ⟨up_one x, hY, fun a ha y hy => ?_⟩, Alike.refl _⟩
    simp at ha
    subst ha
    obtain ⟨j, hj, rfl⟩ := List.getElem_of_mem hy
    have e1 := h1 (by omega)
    have e3 := up_at hY (i := 0) (j := j) (by omega) (by omega)
    grind
  · have hYY := up_append.1 (show Up key (Y.take t ++ Y.drop t) by rw [List.take_append_drop]; exact hY)
    have := merged [x] Y (Y.take t) ([x] ++ Y.drop t) 0 t (up_one x) hY (by simp) ht (fun a _ => absurd a (by omega)) (fun a b => h2 a) hYY.1 ?_ (by simpa using Alike.refl _) (by simpa using Alike.refl _)
    · rwa [List.append_assoc]
    · refine up_append.2 ⟨up_one x, hYY.2.1, fun a ha y hy => ?_⟩
      simp at ha
      subst ha
      obtain ⟨j, hj, rfl⟩ := List.getElem_of_mem hy
      rw [List.length_drop] at hj
      rw [List.getElem_drop]
      have e1 := h1 (by omega)
      have e3 := up_at hY (i := t) (j := t + j) (by omega) (by omega)
      grind
theorem merged_right (X : List α) (y : α) (s : Nat) (hX : Up key X) (hs : s ≤ X.length) (h1 : ∀ (a : 0 < s), ¬ key y < key (X[s - 1]'(by omega))) (h2 : ∀ (b : s < X.length), key y < key X[s]) :
    Up key (X.take s ++ [y] ++ X.drop s) ∧ Alike key (X.take s ++ [y] ++ X.drop s) (X ++ [y]) := by
  have hXX := up_append.1 (show Up key (X.take s ++ X.drop s) by rw [List.take_append_drop]; exact hX)
  refine merged X [y] (X.take s ++ [y]) (X.drop s) s 1 hX (up_one y) hs (by simp) (fun a b => absurd b (by simp)) (fun a b => by simpa using h2 b) ?_ hXX.2.1 (by simpa using Alike.refl _) (by simpa using Alike.refl _)
  refine up_append.2 ⟨hXX.1, up_one y, fun x hx a ha => ?_⟩
  simp at ha
  subst ha
  obtain ⟨j, hj, rfl⟩ := List.getElem_of_mem hx
  rw [List.length_take] at hj
  rw [List.getElem_take]
  have e1 := h1 (by omega)
  have e3 := up_at hX (i := j) (j := s - 1) (by omega) (by omega)
  grind

/-- RunsN of n elements, the last one of n or fewer. -/
def RunsN (key : α → List UInt8) (n : Nat) (l : List α) : Prop := ∃ (xs : List (List α)) (z : List α), l = xs.flatten ++ z ∧ (∀ x ∈ xs, x.length = n ∧ Up key x) ∧ z.length ≤ n ∧ Up key z
theorem RunsN.last {n : Nat} (l : List α) (hl : l.length ≤ n) (hu : Up key l) : RunsN key n l := ⟨[], l, rfl, by simp, hl, hu⟩
theorem RunsN.more {n : Nat} (x l : List α) (hx : x.length = n) (hu : Up key x) (hr : RunsN key n l) : RunsN key n (x ++ l) := by
  obtain ⟨xs, z, rfl, h1, h2, h3⟩ := hr
  refine ⟨x :: xs, z, by simp, fun y hy => ?_, h2, h3⟩
  rcases List.mem_cons.1 hy with rfl | hy
  · exact ⟨hx, hu⟩
  · exact h1 y hy
theorem RunsN.parted {n : Nat} {l : List α} (h : RunsN key n l) : (l.length ≤ n ∧ Up key l) ∨ ∃ x r, l = x ++ r ∧ x.length = n ∧ Up key x ∧ RunsN key n r := by
  obtain ⟨xs, z, rfl, h1, h2, h3⟩ := h
  cases xs with
  | nil => exact .inl ⟨by simpa using h2, by simpa using h3⟩
  | cons x xs => exact .inr ⟨x, xs.flatten ++ z, by simp, (h1 x (by simp)).1, (h1 x (by simp)).2, xs, z, rfl, fun y hy => h1 y (by simp [hy]), h2, h3⟩
theorem RunsN.one {n : Nat} {l : List α} (h : RunsN key n l) (hl : l.length ≤ n) : Up key l := by
  rcases h.parted with ⟨_, h⟩ | ⟨x, r, rfl, hx, hu, hr⟩
  · exact h
  · have : r = [] := List.eq_nil_of_length_eq_zero (by simp at hl; omega)
    subst this
    simpa using hu
theorem RunsN.first {n : Nat} {l : List α} (h : RunsN key n l) (hl : n < l.length) : ∃ x r, l = x ++ r ∧ x.length = n ∧ Up key x ∧ RunsN key n r := by
  rcases h.parted with ⟨h, _⟩ | h
  · omega
  · exact h
theorem RunsN.firstEq {n : Nat} {l : List α} (h : RunsN key n l) (hl : n ≤ l.length) : ∃ x r, l = x ++ r ∧ x.length = n ∧ Up key x ∧ RunsN key n r := by
  rcases Nat.lt_or_eq_of_le hl with e | e
  · exact h.first e
  · exact ⟨l, [], by simp, e.symm, h.one (by omega), .last [] (by simp) up_nil⟩
theorem RunsN.two {n : Nat} {l : List α} (h : RunsN key n l) (hn : 0 < n) (hl : 2 * n ≤ l.length) : ∃ x y r, l = x ++ y ++ r ∧ x.length = n ∧ y.length = n ∧ Up key x ∧ Up key y ∧ RunsN key n r := by
  obtain ⟨x, r, rfl, hx, ux, hr⟩ := h.first (by omega)
  obtain ⟨y, r, rfl, hy, uy, hr⟩ := hr.firstEq (by simp at hl; omega)
  exact ⟨x, y, r, by simp, hx, hy, ux, uy, hr⟩
end

section
variable {α : Type} [Inhabited α]
/-- The elements, as a list. -/
theorem at_toList (d : Array α) (i : Nat) (h : i < d.toList.length) : d[i]! = d.toList[i] := by
  have h2 : i < d.size := by simpa using h
  rw [getElem!_pos d i h2]
  simp
theorem swp_list (d : Array α) (L M S : List α) (x y : α) (h : d.toList = L ++ x :: (M ++ y :: S)) (i j : Nat) (hi : i = L.length) (hj : j = L.length + 1 + M.length) : (swp d i j).toList = L ++ y :: (M ++ x :: S) ∧ (swp d j i).toList = L ++ y :: (M ++ x :: S) := by
  subst hi
  subst hj
  have hx : d[L.length]! = x := by rw [at_toList d _ (by rw [h]; simp)]; simp [h]
  have hy : d[L.length + 1 + M.length]! = y := by
    rw [at_toList d _ (by rw [h]; simp; omega)]
    simp only [h]
    rw [List.getElem_append_right (by omega)]
    simp only [show L.length + 1 + M.length - L.length = M.length + 1 by omega]
    simp
  unfold swp
  rw [hx, hy]
  simp only [Array.toList_setIfInBounds, h]
  constructor
  · rw [List.set_append_right _ _ (Nat.le_refl _)]
    simp only [Nat.sub_self, List.set_cons_zero]
    rw [List.set_append_right _ _ (by omega)]
    simp only [show L.length + 1 + M.length - L.length = M.length + 1 by omega, List.set_cons_succ]
    rw [List.set_append_right _ _ (by omega)]
    simp
  · rw [List.set_append_right _ _ (by omega)]
    simp only [show L.length + 1 + M.length - L.length = M.length + 1 by omega, List.set_cons_succ]
    rw [List.set_append_right (s := M) _ _ (by omega)]
    simp only [Nat.sub_self, List.set_cons_zero]
    rw [List.set_append_right _ _ (by omega)]
    simp
/-- n elements from a on and n from b on change places. -/
def swapN (d : Array α) (a b : Nat) : Nat → Array α
  | 0 => d
  | i + 1 => swp (swapN d a b i) (a + i) (b + i)
theorem swapN_size (d : Array α) (a b n : Nat) : (swapN d a b n).size = d.size := by
  induction n with
  | zero => rfl
  | succ n ih => simp [swapN, swp, ih]
theorem swapN_list (d : Array α) (P X M Y S : List α) (h : d.toList = P ++ X ++ M ++ Y ++ S) (hl : Y.length = X.length) (a b : Nat) (ha : a = P.length) (hb : b = P.length + X.length + M.length) :
    ∀ i, i ≤ X.length → (swapN d a b i).toList = P ++ (Y.take i ++ X.drop i) ++ M ++ (X.take i ++ Y.drop i) ++ S
  | 0, _ => by simpa [swapN] using h
  | i + 1, hi => by
    have ih := swapN_list d P X M Y S h hl a b ha hb i (by omega)
    rw [swapN]
    have e1 : X.drop i = X[i] :: X.drop (i + 1) := List.drop_eq_getElem_cons (by omega)
    have e2 : Y.drop i = Y[i] :: Y.drop (i + 1) := List.drop_eq_getElem_cons (by omega)
    rw [e1, e2] at ih
    have ih2 : (swapN d a b i).toList = (P ++ Y.take i) ++ X[i] :: ((X.drop (i + 1) ++ M ++ X.take i) ++ Y[i] :: (Y.drop (i + 1) ++ S)) := by rw [ih]; simp only [List.append_assoc, List.cons_append, List.nil_append]
    rw [(swp_list _ _ _ _ _ _ ih2 (a + i) (b + i) (by simp; omega) (by simp; omega)).1]
    rw [List.take_succ_eq_append_getElem (show i < X.length by omega), List.take_succ_eq_append_getElem (show i < Y.length by omega)]
    simp only [List.append_assoc, List.cons_append, List.nil_append]
theorem swapN_all (d : Array α) (P X M Y S : List α) (h : d.toList = P ++ X ++ M ++ Y ++ S) (hl : Y.length = X.length) (a b n : Nat) (ha : a = P.length) (hb : b = P.length + X.length + M.length) (hn : n = X.length) : (swapN d a b n).toList = P ++ Y ++ M ++ X ++ S := by
  subst hn
  rw [swapN_list d P X M Y S h hl a b ha hb X.length (Nat.le_refl _)]
  simp [List.take_of_length_le, hl, List.drop_eq_nil_of_le]

/-- A sorted part, as a list. -/
theorem part_list (d : Array α) (a b : Nat) (hab : a ≤ b) (hb : b ≤ d.size) : d.toList = d.toList.take a ++ (d.toList.take b).drop a ++ d.toList.drop b := by
  conv => lhs; rw [← List.take_append_drop b d.toList]
  congr 1
  conv => lhs; rw [← List.take_append_drop a (d.toList.take b)]
  rw [List.take_take, Nat.min_eq_left hab]
theorem up_of_sorted (key : α → List UInt8) (lt : α → α → Bool) (hlt : ∀ x y, lt x y = decide (key x < key y)) (d : Array α) (a b : Nat) (hab : a ≤ b) (hb : b ≤ d.size) (h : SortedIn lt a b d) : Up key ((d.toList.take b).drop a) := by
  unfold Up
  rw [List.pairwise_iff_getElem]
  intro i j hi hj hij
  simp at hi hj
  have := h (a + i) (a + j) (by omega) (by omega) (by omega)
  rw [hlt, at_toList d _ (by simp; omega), at_toList d _ (by simp; omega)] at this
  simp only [decide_eq_false_iff_not] at this
  rw [List.getElem_drop, List.getElem_drop, List.getElem_take, List.getElem_take]
  exact this
theorem swp_alike (key : α → List UInt8) (d : Array α) (j : Nat) (hj : j + 1 < d.size) (hne : key d[j + 1]! ≠ key d[j]!) : Alike key (swp d (j + 1) j).toList d.toList := by
  have hl : j + 1 < d.toList.length := by simpa using hj
  have e : d.toList = d.toList.take j ++ d.toList[j] :: ([] ++ d.toList[j + 1] :: d.toList.drop (j + 2)) := by
    conv => lhs; rw [← List.take_append_drop j d.toList]
    rw [List.drop_eq_getElem_cons (by omega), List.drop_eq_getElem_cons (by omega)]
    simp
  have h2 := (swp_list d _ _ _ _ _ e j (j + 1) (by simp; omega) (by simp; omega)).2
  rw [h2]
  conv => rhs; rw [e]
  rw [at_toList d _ hl, at_toList d _ (by omega)] at hne
  have e1 : d.toList.take j ++ d.toList[j + 1] :: ([] ++ d.toList[j] :: d.toList.drop (j + 2)) = d.toList.take j ++ ([d.toList[j + 1]] ++ [d.toList[j]]) ++ d.toList.drop (j + 2) := by simp
  have e2 : d.toList.take j ++ d.toList[j] :: ([] ++ d.toList[j + 1] :: d.toList.drop (j + 2)) = d.toList.take j ++ ([d.toList[j]] ++ [d.toList[j + 1]]) ++ d.toList.drop (j + 2) := by simp
  rw [e1, e2]
  refine ((Alike.refl _).append (Alike.swap _ _ ?_)).append (Alike.refl _)
  intro x hx y hy
  simp at hx hy
  subst hx
  subst hy
  exact hne
theorem swp_size (d : Array α) (i j : Nat) : (swp d i j).size = d.size := by simp [swp]
theorem insInner_alike (key : α → List UInt8) (lt : α → α → Bool) (hlt : ∀ x y, lt x y = decide (key x < key y)) (a : Nat) : ∀ (j : Nat) (d : Array α), j < d.size → Alike key (insInner lt a j d).toList d.toList
  | 0, d, _ => Alike.refl _
  | j + 1, d, hj => by
    rw [insInner]
    split
    · rename_i h
      simp only [Bool.and_eq_true, hlt, decide_eq_true_eq] at h
      refine (insInner_alike key lt hlt a j _ (by rw [swp_size]; omega)).trans (swp_alike key d j hj ?_)
      intro e
      rw [e] at h
      grind
    · exact Alike.refl _
theorem insInner_size (lt : α → α → Bool) (a : Nat) : ∀ (j : Nat) (d : Array α), (insInner lt a j d).size = d.size
  | 0, d => rfl
  | j + 1, d => by
    rw [insInner]
    split
    · rw [insInner_size lt a j, swp_size]
    · rfl
theorem insOuter_alike (key : α → List UInt8) (lt : α → α → Bool) (hlt : ∀ x y, lt x y = decide (key x < key y)) (a b : Nat) : ∀ (n i : Nat) (d : Array α), b - i ≤ n → b ≤ d.size → Alike key (insOuter lt a b i d).toList d.toList
  | 0, i, d, hn, hb => by
    rw [insOuter, if_neg (by omega)]
    exact Alike.refl _
  | n + 1, i, d, hn, hb => by
    rw [insOuter]
    split
    · exact (insOuter_alike key lt hlt a b n (i + 1) _ (by omega) (by rw [insInner_size]; exact hb)).trans (insInner_alike key lt hlt a i d (by omega))
    · exact Alike.refl _
/-- The insertion sort of a part. -/
theorem ins_part (key : α → List UInt8) (lt : α → α → Bool) (hO : SWO lt) (hlt : ∀ x y, lt x y = decide (key x < key y)) (d : Array α) (A X B : List α) (a b : Nat) (hd : d.toList = A ++ X ++ B) (ha : A.length = a) (hb : a + X.length = b) :
    ∃ Z, (insertionSort lt d a b).toList = A ++ Z ++ B ∧ Z.length = X.length ∧ Up key Z ∧ Alike key Z X := by
  have hsz : d.size = A.length + X.length + B.length := by rw [← Array.length_toList, hd]; simp; omega
  have hbd : b ≤ d.size := by omega
  have H := insertionSort_holds (lt := lt) hO d a b (by omega) hbd
  have hA := insOuter_alike key lt hlt a b (b - (a + 1)) (a + 1) d (Nat.le_refl _) hbd
  change Alike key (insertionSort lt d a b).toList d.toList at hA
  generalize insertionSort lt d a b = d' at H hA
  obtain ⟨⟨h1, h2, _⟩, h3⟩ := H
  have hl : d'.toList.length = d.toList.length := by simp [h1]
  have eA : d'.toList.take a = A := by
    apply List.ext_getElem
    · simp; omega
    · intro i hi1 hi2
      rw [List.getElem_take, ← at_toList d' i (by rw [hl, hd]; simp; omega), h2 i (Or.inl (by omega)), at_toList d i (by rw [hd]; simp; omega)]
      simp [hd, List.getElem_append_left, hi2]
  have eB : d'.toList.drop b = B := by
    apply List.ext_getElem
    · simp; omega
    · intro i hi1 hi2
      rw [List.getElem_drop, ← at_toList d' _ (by rw [hl, hd]; simp; omega), h2 _ (Or.inr (by omega)), at_toList d _ (by rw [hd]; simp; omega)]
      simp only [hd]
      rw [List.getElem_append_right (by simp; omega)]
      congr 1
      simp
      omega
  have e := part_list d' a b (by omega) (by omega)
  rw [eA, eB] at e
  refine ⟨(d'.toList.take b).drop a, e, by simp; omega, up_of_sorted key lt hlt d' a b (by omega) (by omega) h3, ?_⟩
  rw [e, hd] at hA
  exact hA.cancel
end
end Go.Proofs.YtnalillebemglaaGreat
