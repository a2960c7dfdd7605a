/-
  Layer 11 (inner) as plain functions: kids, pivots and messages; which kid is for a key; a kid's place taken by others; parts, and what they are together. Nothing of the program is named here.
-/
import Derived.Test.YtoobelcphcndoaaGreatBuffM
namespace Go.Proofs.YtoobelcphcndoaaGreat
open Go.RowKit
set_option linter.unusedVariables false
set_option linter.unusedSimpArgs false

/-- An inner node. -/
structure Nd where
  kids : List Int
  pivs : List (List UInt8)
  ms : List Mg
/-- The first j of them are keys that rise. -/
def upK (ps : List (List UInt8)) : Nat → Bool
  | 0 => true
  | j + 1 => upK ps j && (isK (ps.getD j []) && (decide (j = 0) || decide (ps.getD (j - 1) [] < ps.getD j [])))
def goodN (ks : List Int) (ps : List (List UInt8)) : Bool := decide (ks ≠ []) && decide (ps.length + 1 = ks.length) && ks.all (fun k => decide (0 ≤ k)) && upK ps ps.length
/-- Which kid is for a key. -/
def kidOf (ps : List (List UInt8)) (k : List UInt8) : Nat := ps.countP (fun p => !decide (k < p))
/-- A kid's part of a range. -/
def rangeN (r : Rg) (ps : List (List UInt8)) (i : Nat) : Rg := (r.cut ps).getD i ⟨[], []⟩

theorem upK_iff (ps : List (List UInt8)) : ∀ j, j ≤ ps.length → (upK ps j = true ↔ (∀ p ∈ ps.take j, isK p = true) ∧ (ps.take j).Pairwise (fun a b => a < b))
  | 0, _ => by simp [upK]
  | j + 1, hj => by
    have ih := upK_iff ps j (by omega)
    have hl : j < ps.length := by omega
    have hg : ps.getD j [] = ps[j] := by simp [List.getD, List.getElem?_eq_getElem hl]
    rw [upK, Bool.and_eq_true, Bool.and_eq_true, Bool.or_eq_true, decide_eq_true_iff, decide_eq_true_iff, ih, List.take_succ_eq_append_getElem hl, List.pairwise_append, hg]
    constructor
    · rintro ⟨⟨h1, h2⟩, h3, h4⟩
      refine ⟨fun p hp => ?_, h2, by simp, fun a ha b hb => ?_⟩
      · rcases List.mem_append.1 hp with hp | hp
        · exact h1 p hp
        · rw [List.mem_singleton.1 hp]; exact h3
      · rw [List.mem_singleton.1 hb]
        obtain ⟨i, hi, e⟩ := List.mem_iff_getElem.1 ha
        have hi' : i < j := by simp at hi; omega
        have h4' : ps.getD (j - 1) [] < ps[j] := by
          rcases h4 with h4 | h4
          · omega
          · exact h4
        have hg2 : ps.getD (j - 1) [] = ps[j - 1]'(by omega) := by simp [List.getD, List.getElem?_eq_getElem (show j - 1 < ps.length by omega)]
        rw [hg2] at h4'
        rw [← e, List.getElem_take]
        rcases Nat.lt_or_eq_of_le (show i ≤ j - 1 by omega) with h | h
        · have := List.pairwise_iff_getElem.1 h2 i (j - 1) (by simp; omega) (by simp; omega) h
          rw [List.getElem_take, List.getElem_take] at this
          exact lt_trans' this h4'
        · subst h; exact h4'
    · rintro ⟨h1, h2, _, h3⟩
      refine ⟨⟨fun p hp => h1 p (List.mem_append_left _ hp), h2⟩, h1 _ (List.mem_append_right _ (List.mem_singleton.2 rfl)), ?_⟩
      by_cases h0 : j = 0
      · exact .inl h0
      · right
        have hg2 : ps.getD (j - 1) [] = ps[j - 1]'(by omega) := by simp [List.getD, List.getElem?_eq_getElem (show j - 1 < ps.length by omega)]
        rw [hg2]
        refine h3 _ ?_ _ (by simp)
        have hm : (ps.take j)[j - 1]'(by simp; omega) ∈ ps.take j := List.getElem_mem _
        rw [List.getElem_take] at hm
        exact hm
theorem upK_all (ps : List (List UInt8)) : upK ps ps.length = true ↔ (∀ p ∈ ps, isK p = true) ∧ ps.Pairwise (fun a b => a < b) := by
  have := upK_iff ps ps.length (Nat.le_refl _)
  rw [List.take_length] at this
  exact this
/-- .. from where one is wrong on, all are. -/
theorem upK_false (ps : List (List UInt8)) (i : Nat) (h : upK ps i = false) : ∀ j, i ≤ j → upK ps j = false
  | 0, hj => by have : i = 0 := by omega
                subst this; exact h
  | j + 1, hj => by
    rcases Nat.lt_or_eq_of_le hj with e | e
    · rw [upK, upK_false ps i h j (by omega), Bool.false_and]
    · subst e; exact h
theorem isK_ne {k : List UInt8} (h : isK k = true) : k ≠ [] := by
  simp [isK] at h
  exact h.1
theorem isK_len {k : List UInt8} (h : isK k = true) : k.length ≤ 8 := by
  simp [isK] at h
  exact h.2
theorem rise_of (ps : List (List UInt8)) : ∀ lo, (∀ p ∈ ps, p ≠ []) → ps.Pairwise (fun a b => a < b) → (lo = [] ∨ ∀ p ∈ ps, lo < p) → Rise lo ps := by
  induction ps with
  | nil => intro lo _ _ _; trivial
  | cons p t ih =>
    intro lo h1 h2 h3
    have h2' := List.pairwise_cons.1 h2
    refine ⟨h1 p (by simp), ?_, ih p (fun q hq => h1 q (by simp [hq])) h2'.2 (.inr h2'.1)⟩
    rcases h3 with h | h
    · exact .inl h
    · exact .inr (h p (by simp))
theorem goodN_iff (ks : List Int) (ps : List (List UInt8)) : goodN ks ps = true ↔ ks ≠ [] ∧ ps.length + 1 = ks.length ∧ (∀ k ∈ ks, 0 ≤ k) ∧ (∀ p ∈ ps, isK p = true) ∧ ps.Pairwise (fun a b => a < b) := by
  unfold goodN
  rw [Bool.and_eq_true, Bool.and_eq_true, Bool.and_eq_true, decide_eq_true_iff, decide_eq_true_iff, List.all_eq_true, upK_all]
  simp only [decide_eq_true_iff]
  constructor
  · rintro ⟨⟨⟨a, b⟩, c⟩, d, e⟩; exact ⟨a, b, c, d, e⟩
  · rintro ⟨a, b, c, d, e⟩; exact ⟨⟨⟨a, b⟩, c⟩, d, e⟩

/- Which kid is for a key. -/
theorem kidOf_le (ps : List (List UInt8)) (k : List UInt8) : kidOf ps k ≤ ps.length := List.countP_le_length
theorem kidOf_take (ps : List (List UInt8)) (k : List UInt8) (j : Nat) (hj : j < ps.length) : kidOf (ps.take (j + 1)) k = kidOf (ps.take j) k + (if k < ps[j] then 0 else 1) := by
  unfold kidOf
  rw [List.take_succ_eq_append_getElem hj, List.countP_append]
  congr 1
  by_cases h : k < ps[j]
  · simp [h]
  · simp [h]
/-- Behind m of them, all stand behind the key: m is the place. -/
theorem kidOf_split (ps : List (List UInt8)) (k : List UInt8) (m : Nat) (hm : m ≤ ps.length) (h1 : ∀ i (h : i < ps.length), i < m → ¬ k < ps[i]) (h2 : ∀ i (h : i < ps.length), m ≤ i → k < ps[i]) : kidOf ps k = m := by
  unfold kidOf
  rw [← List.take_append_drop m ps, List.countP_append]
  have e1 : (ps.take m).countP (fun p => !decide (k < p)) = m := by
    have : (ps.take m).countP (fun p => !decide (k < p)) = (ps.take m).length := by
      rw [List.countP_eq_length]
      intro p hp
      obtain ⟨i, hi, e⟩ := List.mem_iff_getElem.1 hp
      rw [List.getElem_take] at e
      have hi' : i < m ∧ i < ps.length := by simp at hi; omega
      have := h1 i hi'.2 hi'.1
      rw [e] at this
      simp [this]
    rw [this, List.length_take]
    omega
  have e2 : (ps.drop m).countP (fun p => !decide (k < p)) = 0 := by
    rw [List.countP_eq_zero]
    intro p hp
    obtain ⟨i, hi, e⟩ := List.mem_iff_getElem.1 hp
    rw [List.getElem_drop] at e
    have hi' : m + i < ps.length := by simp at hi; omega
    have := h2 (m + i) hi' (by omega)
    rw [e] at this
    simp [this]
  omega
theorem upP_at {ps : List (List UInt8)} (hp : ps.Pairwise (fun a b => a < b)) {i j : Nat} (hj : j < ps.length) (hij : i ≤ j) (k : List UInt8) (hk : k < ps[i]'(by omega)) : k < ps[j] := by
  rcases Nat.lt_or_eq_of_le hij with h | h
  · exact lt_trans' hk (List.pairwise_iff_getElem.1 hp i j (by omega) hj h)
  · subst h; exact hk
/-- The kid's place is above i where the pivot i isn't behind the key. -/
theorem kidOf_gt (ps : List (List UInt8)) (hp : ps.Pairwise (fun a b => a < b)) (k : List UInt8) (i : Nat) (hi : i < ps.length) : i < kidOf ps k ↔ ¬ k < ps[i] := by
  unfold kidOf
  constructor
  · intro h hk
    have e : ps.countP (fun p => !decide (k < p)) = (ps.take i).countP (fun p => !decide (k < p)) := by
      conv => lhs; rw [← List.take_append_drop i ps, List.countP_append]
      have : (ps.drop i).countP (fun p => !decide (k < p)) = 0 := by
        rw [List.countP_eq_zero]
        intro p hpp
        obtain ⟨j, hj, e⟩ := List.mem_iff_getElem.1 hpp
        rw [List.getElem_drop] at e
        have hj' : i + j < ps.length := by simp at hj; omega
        have := upP_at hp hj' (by omega : i ≤ i + j) k hk
        rw [e] at this
        simp [this]
      omega
    have h2 : (ps.take i).countP (fun p => !decide (k < p)) ≤ (ps.take i).length := List.countP_le_length
    rw [List.length_take] at h2
    omega
  · intro hk
    have e : ps.countP (fun p => !decide (k < p)) = (ps.take (i + 1)).countP (fun p => !decide (k < p)) + (ps.drop (i + 1)).countP (fun p => !decide (k < p)) := by
      conv => lhs; rw [← List.take_append_drop (i + 1) ps, List.countP_append]
    have : (ps.take (i + 1)).countP (fun p => !decide (k < p)) = (ps.take (i + 1)).length := by
      rw [List.countP_eq_length]
      intro p hpp
      obtain ⟨j, hj, e⟩ := List.mem_iff_getElem.1 hpp
      rw [List.getElem_take] at e
      have hj' : j < i + 1 := by simp at hj; omega
      have : ¬ k < p := fun h => hk (by rw [← e] at h; exact upP_at hp hi (by omega : j ≤ i) k h)
      simp [this]
    rw [this, List.length_take] at e
    omega
/-- A part of pivots that rise has the keys that are for its kid. -/
theorem part_has (r : Rg) (ps : List (List UInt8)) (hp : ps.Pairwise (fun a b => a < b)) (hk : ∀ p ∈ ps, isK p = true) (i : Nat) (hi : i ≤ ps.length) (k : List UInt8) : (rangeN r ps i).has k = (r.has k && decide (kidOf ps k = i)) := by
  unfold rangeN Rg.cut
  by_cases h0 : ps = []
  · subst h0
    have : i = 0 := by simpa using hi
    subst this
    simp [kidOf]
  · rw [if_neg h0]
    have hl : i < (partsL [] ps).length := by rw [partsL_length]; omega
    have e : ((partsL [] ps).map r.meet).getD i ⟨[], []⟩ = r.meet ⟨([] :: ps).getD i [], ps.getD i []⟩ := by
      rw [List.getD, List.getElem?_map, List.getElem?_eq_getElem hl, partsL_at]
      rfl
    rw [e, meet_has]
    cases hr : r.has k
    · simp
    · have hkk : isK k = true := ((has_iff r k).1 hr).1
      rw [Bool.true_and, Bool.true_and, Bool.eq_iff_iff, has_iff, decide_eq_true_iff]
      have hlo : ¬ k < ([] :: ps).getD i [] ↔ i ≤ kidOf ps k := by
        cases i with
        | zero => simp
        | succ i =>
          have h1 : i < ps.length := by omega
          have := kidOf_gt ps hp k i h1
          rw [show ([] :: ps).getD (i + 1) [] = ps[i] by simp [List.getD, List.getElem?_eq_getElem h1], ← this]
          omega
      have hhi : (ps.getD i [] = [] ∨ k < ps.getD i []) ↔ kidOf ps k ≤ i := by
        rcases Nat.lt_or_eq_of_le hi with h1 | h1
        · have := kidOf_gt ps hp k i h1
          have hg : ps.getD i [] = ps[i] := by simp [List.getD, List.getElem?_eq_getElem h1]
          have hne : ps[i] ≠ [] := isK_ne (hk _ (List.getElem_mem _))
          rw [hg]
          constructor
          · rintro (h | h)
            · exact absurd h hne
            · by_cases hc : kidOf ps k ≤ i
              · exact hc
              · exact absurd h (this.1 (by omega))
          · intro h
            by_cases hc : k < ps[i]
            · exact .inr hc
            · have := this.2 hc
              omega
        · have hg : ps.getD i [] = [] := by simp [List.getD, List.getElem?_eq_none (show ps.length ≤ i by omega)]
          have := kidOf_le ps k
          rw [hg]
          simp
          omega
      show isK k = true ∧ ¬ k < ([] :: ps).getD i [] ∧ (ps.getD i [] = [] ∨ k < ps.getD i []) ↔ _
      rw [hlo, hhi]
      constructor
      · rintro ⟨_, a, b⟩; omega
      · intro h; exact ⟨hkk, by omega, by omega⟩
theorem all_has {k : List UInt8} (h : isK k = true) : (Rg.mk [] []).has k = true := by
  rw [has_iff]
  exact ⟨h, by simp, .inl rfl⟩
/-- A kid's messages. -/
def mineM (ps : List (List UInt8)) (i : Nat) (ms : List Mg) : List Mg := ms.filter (fun m => decide (kidOf ps m.key = i))
theorem take_part (ps : List (List UInt8)) (hp : ps.Pairwise (fun a b => a < b)) (hk : ∀ p ∈ ps, isK p = true) (i : Nat) (hi : i ≤ ps.length) (ms : List Mg) (hg : GoodM ms) : takeM (rangeN ⟨[], []⟩ ps i) ms = mineM ps i ms := by
  unfold takeM mineM
  refine List.filter_congr (fun m hm => ?_)
  rw [part_has _ ps hp hk i hi, all_has (good_key hg m hm), Bool.true_and]
theorem drop_part (ps : List (List UInt8)) (hp : ps.Pairwise (fun a b => a < b)) (hk : ∀ p ∈ ps, isK p = true) (i : Nat) (hi : i ≤ ps.length) (ms : List Mg) (hg : GoodM ms) : dropM (rangeN ⟨[], []⟩ ps i) ms = ms.filter (fun m => !decide (kidOf ps m.key = i)) := by
  unfold dropM
  refine List.filter_congr (fun m hm => ?_)
  rw [part_has _ ps hp hk i hi, all_has (good_key hg m hm), Bool.true_and]

/- Buffers of unlike keys, one put into the other. -/
theorem findM_filter (p : List UInt8 → Bool) (k : List UInt8) : ∀ ms : List Mg, findM k (ms.filter (fun m => p m.key)) = if p k then findM k ms else none
  | [] => by simp [findM]
  | y :: ys => by
    have ih := findM_filter p k ys
    rw [List.filter_cons]
    by_cases hy : p y.key = true
    · rw [if_pos hy, findM, findM, ih]
      by_cases hk : y.key = k
      · rw [if_pos hk, if_pos hk, if_pos (by rw [← hk]; exact hy)]
      · rw [if_neg hk, if_neg hk]
    · rw [if_neg hy, ih, findM]
      by_cases hk : y.key = k
      · rw [if_neg (by rw [← hk]; exact hy), if_neg (by rw [← hk]; exact hy)]
      · rw [if_neg hk]
theorem puts_apart (u : List Mg) (hg : GoodM u) (hr : RisingM u) (p q : List UInt8 → Bool) (h : ∀ m ∈ u, p m.key = true → q m.key = false) : putsM (u.filter (fun m => p m.key)) (u.filter (fun m => q m.key)) = u.filter (fun m => q m.key || p m.key) := by
  have g1 : GoodM (u.filter (fun m => p m.key)) := fun x hx => hg x (List.mem_filter.1 hx).1
  have g2 : GoodM (u.filter (fun m => q m.key)) := fun x hx => hg x (List.mem_filter.1 hx).1
  have r1 : RisingM (u.filter (fun m => p m.key)) := List.Pairwise.filter _ hr
  have r2 : RisingM (u.filter (fun m => q m.key)) := List.Pairwise.filter _ hr
  refine risingM_ext _ _ (putsM_all _ g1 _ g2 r2).2 (List.Pairwise.filter _ hr) (fun k => ?_)
  rw [findM_puts k _ g1 _ g2 r2, ontoAll_self k _ r1, findM_filter, findM_filter, findM_filter (fun k => q k || p k)]
  cases hf : findM k u with
  | none => cases p k <;> cases q k <;> rfl
  | some x =>
    obtain ⟨hx, ek⟩ := findM_mem hf
    have := h x hx
    rw [ek] at this
    cases hp : p k
    · cases q k <;> rfl
    · rw [this hp]; rfl

/- Kids flushed one by one. -/
/-- What the flushed kids had, and what is left. -/
def outM (ps : List (List UInt8)) (L : List Nat) (u : List Mg) : List Mg := u.filter (fun m => L.contains (kidOf ps m.key))
def restM (ps : List (List UInt8)) (L : List Nat) (u : List Mg) : List Mg := u.filter (fun m => !L.contains (kidOf ps m.key))
theorem rest_step (ps : List (List UInt8)) (L : List Nat) (u : List Mg) (i : Nat) : (restM ps L u).filter (fun m => !decide (kidOf ps m.key = i)) = restM ps (i :: L) u := by
  unfold restM
  rw [List.filter_filter]
  refine List.filter_congr (fun m _ => ?_)
  rw [List.contains_cons, Bool.not_or]
  congr 1
theorem out_step (ps : List (List UInt8)) (L : List Nat) (u : List Mg) (hg : GoodM u) (hr : RisingM u) (i : Nat) : putsM (mineM ps i (restM ps L u)) (outM ps L u) = outM ps (i :: L) u := by
  have e : mineM ps i (restM ps L u) = u.filter (fun m => (fun k => decide (kidOf ps k = i) && !L.contains (kidOf ps k)) m.key) := by
    unfold mineM restM
    rw [List.filter_filter]
  rw [e]
  refine (puts_apart u hg hr (fun k => decide (kidOf ps k = i) && !L.contains (kidOf ps k)) (fun k => L.contains (kidOf ps k)) (fun m _ h => ?_)).trans ?_
  · simp only [Bool.and_eq_true, Bool.not_eq_true'] at h
    exact h.2
  · unfold outM
    refine List.filter_congr (fun m _ => ?_)
    rw [List.contains_cons, Bool.eq_iff_iff]
    simp
    grind
theorem rest_good (ps : List (List UInt8)) (L : List Nat) (u : List Mg) (hg : GoodM u) (hr : RisingM u) : GoodM (restM ps L u) ∧ RisingM (restM ps L u) := ⟨fun x hx => hg x (List.mem_filter.1 hx).1, List.Pairwise.filter _ hr⟩
theorem out_good (ps : List (List UInt8)) (L : List Nat) (u : List Mg) (hg : GoodM u) (hr : RisingM u) : GoodM (outM ps L u) ∧ RisingM (outM ps L u) := ⟨fun x hx => hg x (List.mem_filter.1 hx).1, List.Pairwise.filter _ hr⟩
theorem out_all (ps : List (List UInt8)) (L : List Nat) (u : List Mg) (h : ∀ i, i ≤ ps.length → i ∈ L) : outM ps L u = u ∧ restM ps L u = [] := by
  have hc : ∀ m : Mg, L.contains (kidOf ps m.key) = true := fun m => by simpa using h _ (kidOf_le ps m.key)
  constructor
  · unfold outM
    rw [List.filter_eq_self]
    exact fun m _ => hc m
  · unfold restM
    rw [List.filter_eq_nil_iff]
    intro m _
    rw [hc m]
    simp
theorem out_none (ps : List (List UInt8)) (u : List Mg) : outM ps [] u = [] ∧ restM ps [] u = u := by
  constructor
  · unfold outM
    rw [List.filter_eq_nil_iff]
    simp
  · unfold restM
    rw [List.filter_eq_self]
    simp

/- A kid's place taken. -/
def swapKids (ks : List Int) (i : Nat) (refs : List Int) : List Int := ks.take i ++ refs ++ ks.drop (i + 1)
def swapPivs (ps : List (List UInt8)) (i : Nat) (lows : List (List UInt8)) : List (List UInt8) := ps.take i ++ lows.drop 1 ++ ps.drop i
def fuseKids (ks : List Int) (i : Nat) (ref : Int) : List Int := ks.take i ++ [ref] ++ ks.drop (i + 2)
def fusePivs (ps : List (List UInt8)) (i : Nat) : List (List UInt8) := ps.take i ++ ps.drop (i + 1)
theorem fuse_good (ks : List Int) (ps : List (List UInt8)) (h : goodN ks ps = true) (i : Nat) (hi : i + 1 < ks.length) (ref : Int) (hr : 0 ≤ ref) : goodN (fuseKids ks i ref) (fusePivs ps i) = true := by
  obtain ⟨h1, h2, h3, h4, h5⟩ := (goodN_iff _ _).1 h
  refine (goodN_iff _ _).2 ⟨by simp [fuseKids], ?_, ?_, ?_, ?_⟩
  · simp [fuseKids, fusePivs]; omega
  · intro k hk
    simp only [fuseKids, List.mem_append, List.mem_singleton] at hk
    rcases hk with (hk | hk) | hk
    · exact h3 k (List.mem_of_mem_take hk)
    · rw [hk]; exact hr
    · exact h3 k (List.mem_of_mem_drop hk)
  · intro p hp
    simp only [fusePivs, List.mem_append] at hp
    rcases hp with hp | hp
    · exact h4 p (List.mem_of_mem_take hp)
    · exact h4 p (List.mem_of_mem_drop hp)
  · refine List.Pairwise.sublist ?_ h5
    unfold fusePivs
    conv => rhs; rw [← List.take_append_drop i ps]
    refine List.Sublist.append (List.Sublist.refl _) ?_
    exact List.drop_sublist_drop_left _ (by omega)
/-- One kid in two, and back. -/
theorem swap_fuse (ks : List Int) (ps : List (List UInt8)) (i : Nat) (hi : i < ks.length) (a b : Int) (low any : List UInt8) (hl : ps.length + 1 = ks.length) : fuseKids (swapKids ks i [a, b]) i ks[i] = ks ∧ fusePivs (swapPivs ps i [any, low]) i = ps := by
  constructor
  · unfold fuseKids swapKids
    have e1 : (ks.take i ++ [a, b] ++ ks.drop (i + 1)).take i = ks.take i := by
      rw [List.append_assoc, List.take_append_of_le_length (by simp; omega), List.take_take, Nat.min_self]
    have e2 : (ks.take i ++ [a, b] ++ ks.drop (i + 1)).drop (i + 2) = ks.drop (i + 1) := by
      have hh : (ks.take i ++ [a, b]).length = i + 2 := by simp; omega
      rw [← hh, List.drop_left]
    rw [e1, e2]
    conv => rhs; rw [← List.take_append_drop i ks, List.drop_eq_getElem_cons hi]
    simp
  · unfold fusePivs swapPivs
    have hd : ([any, low] : List (List UInt8)).drop 1 = [low] := rfl
    rw [hd]
    have e1 : (ps.take i ++ [low] ++ ps.drop i).take i = ps.take i := by
      rw [List.append_assoc, List.take_append_of_le_length (by simp; omega), List.take_take, Nat.min_self]
    have e2 : (ps.take i ++ [low] ++ ps.drop i).drop (i + 1) = ps.drop i := by
      have hh : (ps.take i ++ [low]).length = i + 1 := by simp; omega
      rw [← hh, List.drop_left]
    rw [e1, e2, List.take_append_drop]
theorem kidOf_swap (ps : List (List UInt8)) (i : Nat) (any low k : List UInt8) : kidOf (swapPivs ps i [any, low]) k = kidOf ps k + (if k < low then 0 else 1) := by
  unfold kidOf swapPivs
  have hd : ([any, low] : List (List UInt8)).drop 1 = [low] := rfl
  rw [hd, List.countP_append, List.countP_append]
  conv => rhs; rw [← List.take_append_drop i ps, List.countP_append]
  by_cases h : k < low
  · simp [h]
  · simp [h]; omega
theorem swap_good (ks : List Int) (ps : List (List UInt8)) (h : goodN ks ps = true) (i : Nat) (hi : i < ks.length) (a b : Int) (ha : 0 ≤ a) (hb : 0 ≤ b) (any low : List UInt8) : goodN (swapKids ks i [a, b]) (swapPivs ps i [any, low]) = true ↔ isK low = true ∧ (∀ p ∈ ps.take i, p < low) ∧ (∀ p ∈ ps.drop i, low < p) := by
  obtain ⟨h1, h2, h3, h4, h5⟩ := (goodN_iff _ _).1 h
  have hd : swapPivs ps i [any, low] = ps.take i ++ [low] ++ ps.drop i := rfl
  rw [goodN_iff, hd]
  have h5' : (ps.take i ++ ps.drop i).Pairwise (fun a b => a < b) := by rw [List.take_append_drop]; exact h5
  obtain ⟨p1, p2, p3⟩ := List.pairwise_append.1 h5'
  constructor
  · rintro ⟨_, _, _, g4, g5⟩
    obtain ⟨q1, q2, q3⟩ := List.pairwise_append.1 g5
    obtain ⟨q4, q5, q6⟩ := List.pairwise_append.1 q1
    exact ⟨g4 low (by simp), fun p hp => q6 p hp low (by simp), fun p hp => q3 low (by simp) p hp⟩
  · rintro ⟨g1, g2, g3⟩
    refine ⟨by simp [swapKids], by simp [swapKids]; omega, ?_, ?_, ?_⟩
    · intro k hk
      simp only [swapKids, List.mem_append, List.mem_cons, List.not_mem_nil, or_false] at hk
      rcases hk with (hk | hk | hk) | hk
      · exact h3 k (List.mem_of_mem_take hk)
      · rw [hk]; exact ha
      · rw [hk]; exact hb
      · exact h3 k (List.mem_of_mem_drop hk)
    · intro p hp
      simp only [List.mem_append, List.mem_singleton] at hp
      rcases hp with (hp | hp) | hp
      · exact h4 p (List.mem_of_mem_take hp)
      · rw [hp]; exact g1
      · exact h4 p (List.mem_of_mem_drop hp)
    · refine List.pairwise_append.2 ⟨List.pairwise_append.2 ⟨p1, by simp, fun x hx y hy => ?_⟩, p2, fun x hx y hy => ?_⟩
      · rw [List.mem_singleton.1 hy]; exact g2 x hx
      · rcases List.mem_append.1 hx with hx | hx
        · exact p3 x hx y hy
        · rw [List.mem_singleton.1 hx]; exact g3 y hy
/-- A low that can't be is no key, is out of the kid's part, or is the pivot ahead of it. -/
theorem swap_bad (ks : List Int) (ps : List (List UInt8)) (h : goodN ks ps = true) (i : Nat) (hi : i < ks.length) (a b : Int) (ha : 0 ≤ a) (hb : 0 ≤ b) (any low : List UInt8) (hbad : goodN (swapKids ks i [a, b]) (swapPivs ps i [any, low]) = false) : isK low = false ∨ (rangeN ⟨[], []⟩ ps i).has low = false ∨ (0 < i ∧ ps.getD (i - 1) [] = low) := by
  obtain ⟨h1, h2, h3, h4, h5⟩ := (goodN_iff _ _).1 h
  cases hk : isK low
  · exact .inl rfl
  · right
    cases hh : (rangeN ⟨[], []⟩ ps i).has low
    · exact .inl rfl
    · right
      rw [part_has _ ps h5 h4 i (by omega), all_has hk, Bool.true_and, decide_eq_true_iff] at hh
      by_cases hc : 0 < i ∧ ps.getD (i - 1) [] = low
      · exact hc
      · exfalso
        have : goodN (swapKids ks i [a, b]) (swapPivs ps i [any, low]) = true := by
          refine (swap_good ks ps h i hi a b ha hb any low).2 ⟨hk, fun p hp => ?_, fun p hp => ?_⟩
          · obtain ⟨j, hj, e⟩ := List.mem_iff_getElem.1 hp
            rw [List.getElem_take] at e
            have hj' : j < i ∧ j < ps.length := by simp at hj; omega
            have hn := (kidOf_gt ps h5 low (i - 1) (by omega)).1 (by omega)
            have hg : ps.getD (i - 1) [] = ps[i - 1]'(by omega) := by simp [List.getD, List.getElem?_eq_getElem (show i - 1 < ps.length by omega)]
            rw [hg] at hc
            have hlt : ps[i - 1]'(by omega) < low := lt_or' hn (fun e => hc ⟨by omega, e.symm⟩)
            rw [← e]
            rcases Nat.lt_or_eq_of_le (show j ≤ i - 1 by omega) with h | h
            · exact lt_trans' (List.pairwise_iff_getElem.1 h5 j (i - 1) (by omega) (by omega) h) hlt
            · subst h; exact hlt
          · obtain ⟨j, hj, e⟩ := List.mem_iff_getElem.1 hp
            rw [List.getElem_drop] at e
            have hj' : i + j < ps.length := by simp at hj; omega
            by_cases hx : low < p
            · exact hx
            · rw [← e] at hx
              have := (kidOf_gt ps h5 low (i + j) hj').2 hx
              omega
        rw [this] at hbad
        cases hbad
/-- Behind a swap each key is where it was, or in one of the two. -/
theorem swap_keeps (ks : List Int) (ps : List (List UInt8)) (h : goodN ks ps = true) (i : Nat) (hi : i < ks.length) (a b : Int) (any low k : List UInt8) (hl : (∀ p ∈ ps.take i, p < low) ∧ (∀ p ∈ ps.drop i, low < p)) :
    (kidOf ps k < i → kidOf (swapPivs ps i [any, low]) k = kidOf ps k ∧ (swapKids ks i [a, b])[kidOf ps k]? = ks[kidOf ps k]?) ∧
    (i < kidOf ps k → kidOf (swapPivs ps i [any, low]) k = kidOf ps k + 1 ∧ (swapKids ks i [a, b])[kidOf ps k + 1]? = ks[kidOf ps k]?) ∧
    (kidOf ps k = i → kidOf (swapPivs ps i [any, low]) k = i + (if k < low then 0 else 1) ∧ (swapKids ks i [a, b])[i]? = some a ∧ (swapKids ks i [a, b])[i + 1]? = some b) := by
  obtain ⟨h1, h2, h3, h4, h5⟩ := (goodN_iff _ _).1 h
  have hti : (ks.take i).length = i := by simp; omega
  refine ⟨fun hlt => ?_, fun hgt => ?_, fun he => ?_⟩
  · have hj : i - 1 < ps.length := by omega
    have hk : k < ps[i - 1] := by
      by_cases hx : k < ps[i - 1]
      · exact hx
      · have := (kidOf_gt ps h5 k (i - 1) hj).2 hx
        omega
    have hlow : k < low := by
      refine lt_trans' hk (hl.1 _ ?_)
      have hm : (ps.take i)[i - 1]'(by simp; omega) ∈ ps.take i := List.getElem_mem _
      rw [List.getElem_take] at hm
      exact hm
    rw [kidOf_swap, if_pos hlow]
    refine ⟨rfl, ?_⟩
    unfold swapKids
    rw [List.append_assoc, List.getElem?_append_left (by rw [hti]; omega), List.getElem?_take_of_lt hlt]
  · have hj : i < ps.length := by have := kidOf_le ps k; omega
    have hk : ¬ k < ps[i] := (kidOf_gt ps h5 k i hj).1 hgt
    have hlow : ¬ k < low := fun hx => hk (lt_trans' hx (hl.2 _ (by rw [List.drop_eq_getElem_cons hj]; exact List.mem_cons_self)))
    rw [kidOf_swap, if_neg hlow]
    refine ⟨rfl, ?_⟩
    unfold swapKids
    have hh : (ks.take i ++ [a, b]).length = i + 2 := by rw [List.length_append, hti]; rfl
    rw [List.getElem?_append_right (by rw [hh]; omega), hh, List.getElem?_drop]
    congr 1
    omega
  · rw [kidOf_swap, he]
    refine ⟨rfl, ?_, ?_⟩
    · unfold swapKids
      rw [List.append_assoc, List.getElem?_append_right (by rw [hti]; exact Nat.le_refl _), hti]
      simp
    · unfold swapKids
      rw [List.append_assoc, List.getElem?_append_right (by rw [hti]; omega), hti]
      simp

/- Parts. -/
/-- Where the part i begins, of c parts of n kids. -/
def cutAt (n c i : Nat) : Nat := i * (n / c) + min i (n % c)
theorem cutAt_zero (n c : Nat) : cutAt n c 0 = 0 := by simp [cutAt]
theorem cutAt_succ (n c i : Nat) : cutAt n c (i + 1) = cutAt n c i + n / c + (if i < n % c then 1 else 0) := by
  unfold cutAt
  rw [Nat.succ_mul]
  split <;> omega
theorem cutAt_all (n c : Nat) (hc : 0 < c) : cutAt n c c = n := by
  unfold cutAt
  have h1 := Nat.div_add_mod n c
  have h2 := Nat.mod_lt n hc
  rw [Nat.min_eq_right (by omega)]
  exact h1
theorem cutAt_mono (n c : Nat) {i j : Nat} (h : i ≤ j) : cutAt n c i ≤ cutAt n c j := by
  unfold cutAt
  have := Nat.mul_le_mul_right (n / c) h
  omega
theorem cutAt_le (n c : Nat) (hc : 0 < c) {i : Nat} (h : i ≤ c) : cutAt n c i ≤ n := by
  have := cutAt_mono n c h
  rw [cutAt_all n c hc] at this
  exact this
theorem cutAt_lt (n c : Nat) (hc : 0 < c) (hn : c ≤ n) (i : Nat) : cutAt n c i < cutAt n c (i + 1) := by
  have h : 0 < n / c := Nat.div_pos hn hc
  rw [cutAt_succ]
  omega
/-- A kid's place in a part. -/
def partKids (ks : List Int) (c i : Nat) : List Int := (ks.take (cutAt ks.length c (i + 1))).drop (cutAt ks.length c i)
def partPivs (n : Nat) (ps : List (List UInt8)) (c i : Nat) : List (List UInt8) := (ps.take (cutAt n c (i + 1) - 1)).drop (cutAt n c i)
def partRg (n : Nat) (ps : List (List UInt8)) (f t : Nat) : Rg := ⟨if 0 < f then ps.getD (f - 1) [] else [], if t < n then ps.getD (t - 1) [] else []⟩
def partN (d : Nd) (c i : Nat) : Nd := ⟨partKids d.kids c i, partPivs d.kids.length d.pivs c i, takeM (partRg d.kids.length d.pivs (cutAt d.kids.length c i) (cutAt d.kids.length c (i + 1))) d.ms⟩
def countN (n : Nat) : Nat := (n + 5) / 6
def partsN (d : Nd) : List Nd := if countN d.kids.length < 2 then [d] else (List.range (countN d.kids.length)).map (partN d (countN d.kids.length))
def betweenN (d : Nd) : List (List UInt8) := if countN d.kids.length < 2 then [] else (List.range (countN d.kids.length - 1)).map (fun i => d.pivs.getD (cutAt d.kids.length (countN d.kids.length) (i + 1) - 1) [])
theorem partsN_len (d : Nd) (h : d.kids ≠ []) : (partsN d).length = countN d.kids.length := by
  have : 0 < d.kids.length := List.length_pos_iff.2 h
  unfold partsN
  split
  · simp [countN] at *; omega
  · simp
theorem betweenN_len (d : Nd) (h : d.kids ≠ []) : (betweenN d).length = countN d.kids.length - 1 := by
  have : 0 < d.kids.length := List.length_pos_iff.2 h
  unfold betweenN
  split
  · simp [countN] at *; omega
  · simp
/-- A part of one or more of the kids has the keys that are for them. -/
theorem partRg_has (n : Nat) (ps : List (List UInt8)) (hl : ps.length + 1 = n) (hp : ps.Pairwise (fun a b => a < b)) (hk : ∀ p ∈ ps, isK p = true) (f t : Nat) (hf : f < t) (ht : t ≤ n) (k : List UInt8) (hkk : isK k = true) : (partRg n ps f t).has k = (decide (f ≤ kidOf ps k) && decide (kidOf ps k < t)) := by
  rw [Bool.eq_iff_iff, has_iff, Bool.and_eq_true, decide_eq_true_iff, decide_eq_true_iff]
  unfold partRg
  simp only
  have hlo : (¬ k < if 0 < f then ps.getD (f - 1) [] else []) ↔ f ≤ kidOf ps k := by
    by_cases h0 : 0 < f
    · rw [if_pos h0]
      have h1 : f - 1 < ps.length := by omega
      rw [show ps.getD (f - 1) [] = ps[f - 1] by simp [List.getD, List.getElem?_eq_getElem h1], ← kidOf_gt ps hp k (f - 1) h1]
      omega
    · rw [if_neg h0]
      simp
      omega
  have hhi : ((if t < n then ps.getD (t - 1) [] else []) = [] ∨ k < if t < n then ps.getD (t - 1) [] else []) ↔ kidOf ps k < t := by
    by_cases h0 : t < n
    · rw [if_pos h0]
      have h1 : t - 1 < ps.length := by omega
      have hg : ps.getD (t - 1) [] = ps[t - 1] := by simp [List.getD, List.getElem?_eq_getElem h1]
      have hne : ps[t - 1] ≠ [] := isK_ne (hk _ (List.getElem_mem _))
      have hgt := kidOf_gt ps hp k (t - 1) h1
      rw [hg]
      constructor
      · rintro (h | h)
        · exact absurd h hne
        · by_cases hc : kidOf ps k < t
          · exact hc
          · exact absurd h (hgt.1 (by omega))
      · intro h
        by_cases hc : k < ps[t - 1]
        · exact .inr hc
        · have := hgt.2 hc
          omega
    · rw [if_neg h0]
      have := kidOf_le ps k
      simp
      omega
  rw [hlo, hhi]
  exact ⟨fun h => h.2, fun h => ⟨hkk, h⟩⟩
theorem part_good (d : Nd) (h : goodN d.kids d.pivs = true) (c i : Nat) (hc : 0 < c) (hn : c ≤ d.kids.length) (hi : i < c) : goodN (partN d c i).kids (partN d c i).pivs = true := by
  obtain ⟨h1, h2, h3, h4, h5⟩ := (goodN_iff _ _).1 h
  have a1 := cutAt_lt d.kids.length c hc hn i
  have a2 := cutAt_le d.kids.length c hc (show i + 1 ≤ c from hi)
  show goodN (partKids d.kids c i) (partPivs d.kids.length d.pivs c i) = true
  have hlen : (partKids d.kids c i).length = cutAt d.kids.length c (i + 1) - cutAt d.kids.length c i := by simp [partKids]; omega
  refine (goodN_iff _ _).2 ⟨?_, ?_, ?_, ?_, ?_⟩
  · intro e
    rw [e] at hlen
    simp at hlen
    omega
  · rw [hlen]
    simp [partPivs]
    omega
  · exact fun k hk => h3 k (List.mem_of_mem_take (List.mem_of_mem_drop hk))
  · exact fun p hp => h4 p (List.mem_of_mem_take (List.mem_of_mem_drop hp))
  · exact h5.sublist ((List.drop_sublist _ _).trans (List.take_sublist _ _))
/-- How many kids a part has. -/
theorem part_size (n : Nat) (hn : 6 < n) (i : Nat) (hi : i < countN n) : 0 < countN n ∧ countN n ≤ n ∧ cutAt n (countN n) (i + 1) - cutAt n (countN n) i = n / countN n + (if i < n % countN n then 1 else 0) ∧ n / countN n + (if i < n % countN n then 1 else 0) ≤ 6 := by
  have hc : 0 < countN n := by unfold countN; omega
  have hcn : countN n ≤ n := by unfold countN; omega
  refine ⟨hc, hcn, ?_, ?_⟩
  · rw [cutAt_succ, Nat.add_assoc, Nat.add_sub_cancel_left]
  · have h1 := Nat.div_add_mod n (countN n)
    have h2 := Nat.mod_lt n hc
    have h3 : n ≤ countN n * 6 := by unfold countN; omega
    split
    · rename_i h
      have : n / countN n < 6 := by
        by_cases hx : n / countN n < 6
        · exact hx
        · have := Nat.mul_le_mul_left (countN n) (show 6 ≤ n / countN n by omega)
          omega
      omega
    · have : n / countN n ≤ 6 := Nat.div_le_of_le_mul (by omega)
      omega
/-- Both, with a pivot between. -/
def joinN (a : Nd) (p : List UInt8) (b : Nd) : Nd := ⟨a.kids ++ b.kids, a.pivs ++ p :: b.pivs, putsM b.ms a.ms⟩
/-- The first i parts together. -/
def headN (d : Nd) (c i : Nat) : Nd := ⟨d.kids.take (cutAt d.kids.length c i), d.pivs.take (cutAt d.kids.length c i - 1), d.ms.filter (fun m => decide (kidOf d.pivs m.key < cutAt d.kids.length c i))⟩
theorem head_step (d : Nd) (h : goodN d.kids d.pivs = true) (hg : GoodM d.ms) (hr : RisingM d.ms) (c i : Nat) (hc : 0 < c) (hn : c ≤ d.kids.length) (h0 : 0 < i) (hi : i < c) : joinN (headN d c i) (d.pivs.getD (cutAt d.kids.length c i - 1) []) (partN d c i) = headN d c (i + 1) := by
  obtain ⟨h1, h2, h3, h4, h5⟩ := (goodN_iff _ _).1 h
  have a1 := cutAt_lt d.kids.length c hc hn i
  have a2 := cutAt_le d.kids.length c hc (show i + 1 ≤ c from hi)
  have a3 : 0 < cutAt d.kids.length c i := by
    have := cutAt_lt d.kids.length c hc hn (i - 1)
    rw [show i - 1 + 1 = i by omega] at this
    omega
  unfold joinN headN partN partKids partPivs
  simp only
  obtain ⟨f, hf⟩ : ∃ f, cutAt d.kids.length c i = f := ⟨_, rfl⟩
  obtain ⟨t, ht⟩ : ∃ t, cutAt d.kids.length c (i + 1) = t := ⟨_, rfl⟩
  simp only [hf, ht] at a1 a2 a3 ⊢
  congr 1
  · conv => rhs; rw [← List.take_append_drop f (d.kids.take t), List.take_take, Nat.min_eq_left (by omega)]
  · have hl : f - 1 < d.pivs.length := by omega
    have e : d.pivs.getD (f - 1) [] = d.pivs[f - 1] := by simp [List.getD, List.getElem?_eq_getElem hl]
    have hf1 : f - 1 < (d.pivs.take (t - 1)).length := by simp; omega
    rw [e]
    conv => rhs; rw [← List.take_append_drop (f - 1) (d.pivs.take (t - 1)), List.take_take, Nat.min_eq_left (by omega), List.drop_eq_getElem_cons hf1, List.getElem_take, show f - 1 + 1 = f by omega]
  · have e1 : takeM (partRg d.kids.length d.pivs f t) d.ms = d.ms.filter (fun m => (fun k => decide (f ≤ kidOf d.pivs k) && decide (kidOf d.pivs k < t)) m.key) := by
      unfold takeM
      exact List.filter_congr (fun m hm => partRg_has _ _ h2 h5 h4 f t a1 a2 m.key (good_key hg m hm))
    rw [e1]
    refine (puts_apart d.ms hg hr (fun k => decide (f ≤ kidOf d.pivs k) && decide (kidOf d.pivs k < t)) (fun k => decide (kidOf d.pivs k < f)) (fun m _ h => ?_)).trans ?_
    · simp at h ⊢; omega
    · refine List.filter_congr (fun m _ => ?_)
      rw [Bool.eq_iff_iff]
      simp
      omega
theorem head_one (d : Nd) (h : goodN d.kids d.pivs = true) (hg : GoodM d.ms) (c : Nat) (hc : 0 < c) (hn : c ≤ d.kids.length) : partN d c 0 = headN d c 1 := by
  obtain ⟨h1, h2, h3, h4, h5⟩ := (goodN_iff _ _).1 h
  have a1 := cutAt_lt d.kids.length c hc hn 0
  have a2 := cutAt_le d.kids.length c hc (show 1 ≤ c from hc)
  unfold headN partN partKids partPivs
  rw [cutAt_zero] at *
  simp only [List.drop_zero]
  congr 1
  unfold takeM
  refine List.filter_congr (fun m hm => ?_)
  rw [partRg_has _ _ h2 h5 h4 0 _ a1 a2 m.key (good_key hg m hm)]
  simp
theorem head_all (d : Nd) (h : goodN d.kids d.pivs = true) (c : Nat) (hc : 0 < c) : headN d c c = d := by
  obtain ⟨h1, h2, h3, h4, h5⟩ := (goodN_iff _ _).1 h
  unfold headN
  rw [cutAt_all _ _ hc, List.take_length, List.take_of_length_le (by omega)]
  have : d.ms.filter (fun m => decide (kidOf d.pivs m.key < d.kids.length)) = d.ms := by
    rw [List.filter_eq_self]
    intro m _
    have := kidOf_le d.pivs m.key
    simp
    omega
  rw [this]
/-- What is together of the first parts can be. -/
theorem head_good (d : Nd) (h : goodN d.kids d.pivs = true) (c i : Nat) (hc : 0 < c) (hn : c ≤ d.kids.length) (h0 : 0 < i) (hi : i ≤ c) : goodN (headN d c i).kids (headN d c i).pivs = true := by
  obtain ⟨h1, h2, h3, h4, h5⟩ := (goodN_iff _ _).1 h
  have a2 := cutAt_le d.kids.length c hc hi
  have a3 : 0 < cutAt d.kids.length c i := by
    have := cutAt_lt d.kids.length c hc hn (i - 1)
    rw [show i - 1 + 1 = i by omega] at this
    omega
  show goodN (d.kids.take (cutAt d.kids.length c i)) (d.pivs.take (cutAt d.kids.length c i - 1)) = true
  refine (goodN_iff _ _).2 ⟨?_, ?_, ?_, ?_, ?_⟩
  · intro e
    have := congrArg List.length e
    rw [List.length_take, List.length_nil] at this
    omega
  · simp; omega
  · exact fun k hk => h3 k (List.mem_of_mem_take hk)
  · exact fun p hp => h4 p (List.mem_of_mem_take hp)
  · exact h5.sublist (List.take_sublist _ _)
/-- What both are can be where the pivots, and the one between, are keys that rise. -/
theorem join_good (a b : Nd) (p : List UInt8) (ha : goodN a.kids a.pivs = true) (hb : goodN b.kids b.pivs = true) : goodN (joinN a p b).kids (joinN a p b).pivs = upK (a.pivs ++ p :: b.pivs) (a.pivs ++ p :: b.pivs).length := by
  obtain ⟨h1, h2, h3, _, _⟩ := (goodN_iff _ _).1 ha
  obtain ⟨g1, g2, g3, _, _⟩ := (goodN_iff _ _).1 hb
  show goodN (a.kids ++ b.kids) (a.pivs ++ p :: b.pivs) = _
  rw [Bool.eq_iff_iff, goodN_iff, upK_all]
  constructor
  · exact fun h => h.2.2.2
  · refine fun h => ⟨?_, ?_, ?_, h.1, h.2⟩
    · intro e
      exact h1 (List.append_eq_nil_iff.1 e).1
    · simp; omega
    · intro k hk
      rcases List.mem_append.1 hk with hk | hk
      · exact h3 k hk
      · exact g3 k hk
end Go.Proofs.YtoobelcphcndoaaGreat
