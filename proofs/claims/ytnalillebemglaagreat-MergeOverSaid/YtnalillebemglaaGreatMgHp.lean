/-
  Runs in a heap, as plain rows: no program is named. What a merger holds, and what comes next of it.
-/
import Derived.Test.YtnalillebemglaaGreatMergeM
namespace Go.Proofs.YtnalillebemglaaGreat
open Go.RowKit Go.Sort
set_option linter.unusedVariables false

/-- A run of the heap: its place, its messages that are left, and where they lie. -/
structure Ent where
  pl : Nat
  ms : List Mg
  g : Nat
  o : Nat
  c : Nat
def Ent.zero : Ent := ⟨0, [], 0, 0, 0⟩
def Ent.low (e : Ent) : List UInt8 := (e.ms.head?.map Mg.key).getD []
abbrev ltE (a b : Ent) : Prop := a.low < b.low ∨ (a.low = b.low ∧ a.pl < b.pl)
theorem ltE_eq (a b : Ent) : decide (ltE a b) = if a.low = b.low then decide (a.pl < b.pl) else decide (a.low < b.low) := by
  by_cases h : a.low = b.low
  · rw [if_pos h, decide_eq_decide]
    unfold ltE
    rw [h]
    constructor
    · rintro (h | h)
      · exact absurd h lt_irrefl'
      · exact h.2
    · intro h; exact .inr ⟨rfl, h⟩
  · rw [if_neg h, decide_eq_decide]
    unfold ltE
    constructor
    · rintro (h2 | h2)
      · exact h2
      · exact absurd h2.1 h
    · intro h; exact .inl h
/-- Not behind. -/
def leE (a b : Ent) : Prop := ¬ ltE b a
theorem leE_refl (a : Ent) : leE a a := by
  rintro (h | h)
  · exact lt_irrefl' h
  · omega
theorem ltE_le {a b : Ent} (h : ltE a b) : leE a b := by
  rintro (h2 | h2)
  · rcases h with h | h
    · exact lt_asymm' h h2
    · rw [h.1] at h2; exact lt_irrefl' h2
  · rcases h with h | h
    · rw [h2.1] at h; exact lt_irrefl' h
    · omega
theorem leE_iff {a b : Ent} : leE a b ↔ a.low < b.low ∨ (a.low = b.low ∧ a.pl ≤ b.pl) := by
  unfold leE ltE
  constructor
  · intro h
    by_cases e : a.low = b.low
    · refine .inr ⟨e, ?_⟩
      exact Classical.byContradiction fun h2 => h (.inr ⟨e.symm, by omega⟩)
    · refine .inl (lt_or' (fun h2 => h (.inl h2)) (fun e2 => e e2.symm))
  · rintro (h | h)
    · rintro (h2 | h2)
      · exact lt_asymm' h h2
      · rw [h2.1] at h; exact lt_irrefl' h
    · rintro (h2 | h2)
      · rw [h.1] at h2; exact lt_irrefl' h2
      · omega
theorem leE_trans {a b c : Ent} (h : leE a b) (k : leE b c) : leE a c := by
  rw [leE_iff] at h k ⊢
  rcases h with h | h
  · rcases k with k | k
    · exact .inl (lt_trans' h k)
    · exact .inl (k.1 ▸ h)
  · rcases k with k | k
    · exact .inl (h.1 ▸ k)
    · exact .inr ⟨h.1.trans k.1, by omega⟩

def atE (es : List Ent) (k : Nat) : Ent := es.getD k Ent.zero
theorem atE_lt {es : List Ent} {k : Nat} (h : k < es.length) : atE es k = es[k] := getD_lt _ h
theorem atE_mem {es : List Ent} {k : Nat} (h : k < es.length) : atE es k ∈ es := by rw [atE_lt h]; exact List.getElem_mem _
/-- A heap over the first n. -/
def hpN (es : List Ent) (n : Nat) : Prop := ∀ k, 0 < k → k < n → leE (atE es ((k - 1) / 2)) (atE es k)
def swapE (es : List Ent) (i j : Nat) : List Ent := (es.set i (atE es j)).set j (atE es i)
theorem swapE_len (es : List Ent) (i j : Nat) : (swapE es i j).length = es.length := by simp [swapE]
theorem swapE_at {es : List Ent} {i j : Nat} (hi : i < es.length) (hj : j < es.length) (k : Nat) : atE (swapE es i j) k = if k = j then atE es i else if k = i then atE es j else atE es k := by
  unfold atE swapE
  rw [getD_set _ _ _ _ _ (by rw [List.length_set]; exact hj), getD_set _ _ _ _ _ hi]
  rfl
theorem swapE_perm {es : List Ent} {i j : Nat} (hi : i < es.length) (hj : j < es.length) : (swapE es i j).Perm es := by
  have := List.set_set_perm hi hj
  rw [swapE, atE_lt hi, atE_lt hj]; exact this
/-- All is right but at j, which may go up. -/
def upE (es : List Ent) (j : Nat) : Prop :=
  (∀ k, 0 < k → k < es.length → k ≠ j → leE (atE es ((k - 1) / 2)) (atE es k)) ∧ (0 < j → ∀ k, 0 < k → k < es.length → (k - 1) / 2 = j → leE (atE es ((j - 1) / 2)) (atE es k))
theorem up_start {es : List Ent} (h : hpN es es.length) (x : Ent) : upE (es ++ [x]) es.length := by
  have hg : ∀ k, k < es.length → atE (es ++ [x]) k = atE es k := fun k hk => by
    rw [atE_lt (by simp; omega), atE_lt hk, List.getElem_append_left hk]
  refine ⟨fun k h0 hk hne => ?_, fun h0 k hk0 hk e => ?_⟩
  · simp at hk
    rw [hg _ (by omega), hg _ (by omega)]
    exact h k h0 (by omega)
  · simp at hk; omega
theorem up_zero {es : List Ent} (h : hpN es es.length) : upE es 0 := ⟨fun k h0 hk _ => h k h0 hk, fun h0 => absurd h0 (by omega)⟩
theorem up_step {es : List Ent} {j : Nat} (h : upE es j) (hj : j < es.length) (h0 : 0 < j) (hlt : ltE (atE es j) (atE es ((j - 1) / 2))) : upE (swapE es ((j - 1) / 2) j) ((j - 1) / 2) := by
  obtain ⟨h1, h2⟩ := h
  have hi : (j - 1) / 2 < es.length := by omega
  have hat := swapE_at hi hj
  refine ⟨fun k k0 hk hne => ?_, fun i0 k k0 hk e => ?_⟩
  · rw [swapE_len] at hk
    rw [hat, hat]
    by_cases kj : k = j
    · subst kj
      rw [if_neg (by omega), if_pos rfl, if_pos rfl]; exact ltE_le hlt
    · rw [if_neg kj, if_neg hne]
      by_cases p1 : (k - 1) / 2 = j
      · rw [if_pos p1]; exact h2 h0 k k0 hk p1
      · rw [if_neg p1]
        have := h1 k k0 hk kj
        by_cases p2 : (k - 1) / 2 = (j - 1) / 2
        · rw [if_pos p2]; rw [p2] at this; exact leE_trans (ltE_le hlt) this
        · rw [if_neg p2]; exact this
  · rw [swapE_len] at hk
    rw [hat, hat, if_neg (by omega), if_neg (by omega)]
    have a1 := h1 ((j - 1) / 2) i0 hi (by omega)
    by_cases kj : k = j
    · rw [if_pos kj]; exact a1
    · rw [if_neg kj, if_neg (by omega)]
      have a2 := h1 k k0 hk kj
      rw [e] at a2
      exact leE_trans a1 a2
theorem up_stop {es : List Ent} {j : Nat} (h : upE es j) (hs : j = 0 ∨ ¬ ltE (atE es j) (atE es ((j - 1) / 2))) : hpN es es.length := by
  intro k k0 hk
  by_cases kj : k = j
  · subst kj
    rcases hs with hs | hs
    · omega
    · exact hs
  · exact h.1 k k0 hk kj
/-- All of the first n is right but at j, which may go down. -/
def dnE (es : List Ent) (j n : Nat) : Prop :=
  (∀ k, 0 < k → k < n → (k - 1) / 2 ≠ j → leE (atE es ((k - 1) / 2)) (atE es k)) ∧ (0 < j → ∀ k, 0 < k → k < n → (k - 1) / 2 = j → leE (atE es ((j - 1) / 2)) (atE es k))
theorem dn_start {es qs : List Ent} {n : Nat} (h : hpN es n) (he : ∀ k, 0 < k → k < n → atE qs k = atE es k) : dnE qs 0 n := by
  refine ⟨fun k k0 hk hne => ?_, fun h0 => absurd h0 (by omega)⟩
  rw [he _ (by omega) (by omega), he _ k0 hk]
  exact h k k0 hk
theorem dn_step {es : List Ent} {i j n : Nat} (h : dnE es i n) (hn : n ≤ es.length) (hj : j < n) (hji : j = 2 * i + 1 ∨ j = 2 * i + 2) (hlt : ltE (atE es j) (atE es i)) (hmin : ∀ q, q < n → (q = 2 * i + 1 ∨ q = 2 * i + 2) → leE (atE es j) (atE es q)) : dnE (swapE es i j) j n := by
  obtain ⟨h1, h2⟩ := h
  have hi : i < es.length := by omega
  have hjl : j < es.length := by omega
  have hat := swapE_at hi hjl
  have hpj : (j - 1) / 2 = i := by omega
  refine ⟨fun k k0 hk hne => ?_, fun j0 k k0 hk e => ?_⟩
  · rw [hat, hat]
    by_cases kj : k = j
    · subst kj
      rw [if_neg hne, if_pos hpj, if_pos rfl]; exact ltE_le hlt
    · rw [if_neg kj, if_neg hne]
      by_cases p1 : (k - 1) / 2 = i
      · rw [if_pos p1, if_neg (by omega)]
        exact hmin k hk (by omega)
      · rw [if_neg p1]
        by_cases ki : k = i
        · rw [if_pos ki]
          subst ki
          exact h2 k0 j (by omega) hj hpj
        · rw [if_neg ki]
          exact h1 k k0 hk p1
  · rw [hat, hat, hpj, if_neg (by omega), if_pos rfl, if_neg (by omega), if_neg (by omega)]
    have := h1 k k0 hk (by omega)
    rw [e] at this
    exact this
theorem dn_stop {es : List Ent} {i n : Nat} (h : dnE es i n) (hs : ∀ q, q < n → (q = 2 * i + 1 ∨ q = 2 * i + 2) → leE (atE es i) (atE es q)) : hpN es n := by
  intro k k0 hk
  by_cases kj : (k - 1) / 2 = i
  · rw [kj]; exact hs k hk (by omega)
  · exact h.1 k k0 hk kj
theorem hp_min {es : List Ent} {n : Nat} (h : hpN es n) : ∀ k, k < n → leE (atE es 0) (atE es k) := by
  intro k
  induction k using Nat.strongRecOn with
  | _ k ih =>
    intro hk
    by_cases k0 : k = 0
    · subst k0; exact leE_refl _
    · exact leE_trans (ih ((k - 1) / 2) (by omega) (by omega)) (h k (by omega) hk)

/-- The heap's runs are those that have a message left. -/
def Holds (rs : List (List Mg)) (es : List Ent) : Prop := (es.map Ent.pl).Nodup ∧ (∀ e ∈ es, rs[e.pl]? = some e.ms ∧ e.ms ≠ []) ∧ ∀ (i : Nat) (r : List Mg), rs[i]? = some r → r ≠ [] → ∃ e ∈ es, e.pl = i
theorem holds_nil : Holds [] [] := ⟨List.nodup_nil, fun e he => by simp at he, fun i r h => by simp at h⟩
theorem Holds.perm {rs : List (List Mg)} {es qs : List Ent} (h : Holds rs es) (hp : qs.Perm es) : Holds rs qs := by
  refine ⟨((hp.map Ent.pl).nodup_iff).2 h.1, fun e he => h.2.1 e (hp.mem_iff.1 he), fun i r h1 h2 => ?_⟩
  obtain ⟨e, he, h3⟩ := h.2.2 i r h1 h2
  exact ⟨e, hp.mem_iff.2 he, h3⟩
theorem Holds.skip {rs : List (List Mg)} {es : List Ent} (h : Holds rs es) : Holds (rs ++ [[]]) es := by
  refine ⟨h.1, fun e he => ?_, fun i r h1 h2 => ?_⟩
  · obtain ⟨h1, h2⟩ := h.2.1 e he
    obtain ⟨hl, _⟩ := List.getElem?_eq_some_iff.1 h1
    refine ⟨?_, h2⟩
    rw [List.getElem?_append_left hl]; exact h1
  · by_cases hl : i < rs.length
    · rw [List.getElem?_append_left hl] at h1; exact h.2.2 i r h1 h2
    · rw [List.getElem?_append_right (by omega)] at h1
      cases hi : i - rs.length with
      | zero => rw [hi] at h1; simp at h1; exact absurd h1 h2
      | succ n => rw [hi] at h1; simp at h1
theorem Holds.add {rs : List (List Mg)} {es : List Ent} (h : Holds rs es) (e : Ent) (hp : e.pl = rs.length) (hn : e.ms ≠ []) : Holds (rs ++ [e.ms]) (es ++ [e]) := by
  have hlt : ∀ x ∈ es, x.pl < rs.length := fun x hx => by
    obtain ⟨hl, _⟩ := List.getElem?_eq_some_iff.1 (h.2.1 x hx).1
    exact hl
  refine ⟨?_, fun x hx => ?_, fun i r h1 h2 => ?_⟩
  · rw [List.map_append, List.nodup_append]
    refine ⟨h.1, by simp, fun a ha b hb => ?_⟩
    obtain ⟨x, hx, rfl⟩ := List.mem_map.1 ha
    simp at hb
    have := hlt x hx
    omega
  · rcases List.mem_append.1 hx with hx | hx
    · refine ⟨?_, (h.2.1 x hx).2⟩
      rw [List.getElem?_append_left (hlt x hx)]; exact (h.2.1 x hx).1
    · rw [List.mem_singleton] at hx
      subst hx
      refine ⟨?_, hn⟩
      rw [hp, List.getElem?_append_right (Nat.le_refl _)]
      simp
  · by_cases hl : i < rs.length
    · rw [List.getElem?_append_left hl] at h1
      obtain ⟨x, hx, h3⟩ := h.2.2 i r h1 h2
      exact ⟨x, by simp [hx], h3⟩
    · rw [List.getElem?_append_right (by omega)] at h1
      refine ⟨e, by simp, ?_⟩
      cases hi : i - rs.length with
      | zero => omega
      | succ n => rw [hi] at h1; simp at h1
/-- The heap's head: the least key, of several the eldest run. -/
theorem Holds.head {rs : List (List Mg)} {es : List Ent} (h : Holds rs es) (hh : hpN es es.length) (h0 : 0 < es.length) :
    ∃ m t, rs[(atE es 0).pl]? = some (m :: t) ∧ (atE es 0).ms = m :: t ∧ (atE es 0).low = m.key ∧ ∀ (q : Nat) (m' : Mg) (t' : List Mg), rs[q]? = some (m' :: t') → m.key < m'.key ∨ (m.key = m'.key ∧ (atE es 0).pl ≤ q) := by
  obtain ⟨h1, h2⟩ := h.2.1 _ (atE_mem h0)
  cases hm : (atE es 0).ms with
  | nil => exact absurd hm h2
  | cons m t =>
    have hlow : (atE es 0).low = m.key := by unfold Ent.low; rw [hm]; rfl
    refine ⟨m, t, by rw [h1, hm], rfl, hlow, fun q m' t' hq => ?_⟩
    obtain ⟨e, he, hpl⟩ := h.2.2 q _ hq (by simp)
    obtain ⟨k, hk, rfl⟩ := List.getElem_of_mem he
    have hmin := hp_min hh k hk
    rw [atE_lt hk, leE_iff, hlow] at hmin
    have h3 := (h.2.1 _ he).1
    rw [hpl, hq] at h3
    have h4 : es[k].low = m'.key := by unfold Ent.low; injection h3 with h3; rw [← h3]; rfl
    rw [h4, hpl] at hmin
    exact hmin
theorem Holds.pop {rs : List (List Mg)} {es qs : List Ent} {x : Ent} (h : Holds rs es) (hp : es.Perm (qs ++ [x])) : Holds (rs.set x.pl []) qs := by
  have h' := h.perm hp.symm
  have hn := h'.1
  rw [List.map_append, List.nodup_append] at hn
  have hne : ∀ e ∈ qs, e.pl ≠ x.pl := fun e he => hn.2.2 _ (List.mem_map_of_mem he) _ (by simp)
  refine ⟨hn.1, fun e he => ?_, fun i r h1 h2 => ?_⟩
  · rw [List.getElem?_set_ne (fun e2 => hne e he e2.symm)]
    exact h'.2.1 e (by simp [he])
  · by_cases hi : x.pl = i
    · subst hi
      rw [List.getElem?_set_self' ] at h1
      cases hx : rs[x.pl]? with
      | none => rw [hx] at h1; cases h1
      | some y => rw [hx] at h1; injection h1 with h1; exact absurd h1.symm h2
    · rw [List.getElem?_set_ne hi] at h1
      obtain ⟨e, he, h3⟩ := h'.2.2 i r h1 h2
      rcases List.mem_append.1 he with he | he
      · exact ⟨e, he, h3⟩
      · rw [List.mem_singleton] at he; subst he; exact absurd h3 hi
/-- The head's run goes on. -/
def Ent.next (e : Ent) (t : List Mg) : Ent := ⟨e.pl, t, e.g, e.o + 3, e.c - 1⟩
theorem Holds.fix {rs : List (List Mg)} {es : List Ent} (h : Holds rs es) (h0 : 0 < es.length) (t : List Mg) (ht : t ≠ []) : Holds (rs.set (atE es 0).pl t) (es.set 0 ((atE es 0).next t)) := by
  cases es with
  | nil => simp at h0
  | cons x qs =>
    have hat : atE (x :: qs) 0 = x := rfl
    rw [hat, List.set_cons_zero]
    have hn := h.1
    rw [List.map_cons, List.nodup_cons] at hn
    have hne : ∀ e ∈ qs, e.pl ≠ x.pl := fun e he e2 => hn.1 (by rw [← e2]; exact List.mem_map_of_mem he)
    have hx : x.pl < rs.length := by
      obtain ⟨hl, _⟩ := List.getElem?_eq_some_iff.1 (h.2.1 x (List.mem_cons_self ..)).1
      exact hl
    refine ⟨h.1, fun e he => ?_, fun i r h1 h2 => ?_⟩
    · rw [List.mem_cons] at he
      rcases he with rfl | he
      · refine ⟨?_, ht⟩
        show (rs.set x.pl t)[x.pl]? = some t
        rw [List.getElem?_set_self hx]
      · rw [List.getElem?_set_ne (fun e2 => hne e he e2.symm)]
        exact h.2.1 e (List.mem_cons_of_mem _ he)
    · by_cases hi : x.pl = i
      · exact ⟨_, List.mem_cons_self .., hi⟩
      · rw [List.getElem?_set_ne hi] at h1
        obtain ⟨e, he, h3⟩ := h.2.2 i r h1 h2
        rw [List.mem_cons] at he
        rcases he with rfl | he
        · exact absurd h3 hi
        · exact ⟨e, List.mem_cons_of_mem _ he, h3⟩
theorem Holds.none {rs : List (List Mg)} {es : List Ent} (h : Holds rs es) : es = [] ↔ leftR rs = 0 := by
  rw [left_none0]
  constructor
  · rintro rfl r hr
    obtain ⟨i, hi, rfl⟩ := List.getElem_of_mem hr
    exact Classical.byContradiction fun hn => by
      obtain ⟨e, he, _⟩ := h.2.2 i _ (List.getElem?_eq_getElem hi) hn
      simp at he
  · intro hr
    cases es with
    | nil => rfl
    | cons x qs =>
      obtain ⟨h1, h2⟩ := h.2.1 x (List.mem_cons_self ..)
      exact absurd (hr _ (List.mem_of_getElem? h1)) h2

theorem left_give {rs : List (List Mg)} (i : Nat) (m : Mg) (t : List Mg) (h : rs[i]? = some (m :: t)) : leftR rs = leftR (rs.set i t) + 1 := by
  obtain ⟨hl, h2⟩ := List.getElem?_eq_some_iff.1 h
  unfold leftR
  have e1 : rs = rs.take i ++ (m :: t) :: rs.drop (i + 1) := by rw [← h2, ← List.drop_eq_getElem_cons hl, List.take_append_drop]
  have e2 : rs.set i t = rs.take i ++ t :: rs.drop (i + 1) := List.set_eq_take_append_cons_drop.trans (if_pos hl)
  rw [e2]
  conv => lhs; rw [e1]
  simp
  omega
/-- The runs, when those ahead of place j have given their message of key k. -/
def midR (k : List UInt8) (j : Nat) (rs : List (List Mg)) : List (List Mg) := tailsR k (rs.take j) ++ rs.drop j
theorem mid_zero (k : List UInt8) (rs : List (List Mg)) : midR k 0 rs = rs := by simp [midR, tailsR]
theorem mid_len (k : List UInt8) (j : Nat) (rs : List (List Mg)) : (midR k j rs).length = rs.length := by
  unfold midR tailsR
  rw [List.length_append, List.length_map, ← List.length_append, List.take_append_drop]
theorem mid_get (k : List UInt8) (j : Nat) (rs : List (List Mg)) (i : Nat) : (midR k j rs)[i]? = if i < j then rs[i]?.map (tailR k) else rs[i]? := by
  have e : ∀ l : List (List Mg), tailsR k l = l.map (tailR k) := fun _ => rfl
  unfold midR
  rw [e]
  by_cases hl : i < rs.length
  · by_cases hj : i < j
    · rw [if_pos hj, List.getElem?_append_left (by simp; omega), List.getElem?_map, List.getElem?_take, if_pos hj]
    · rw [if_neg hj, List.getElem?_append_right (by simp; omega), List.length_map, List.length_take, List.getElem?_drop]
      congr 1
      omega
  · have h1 : rs[i]? = none := List.getElem?_eq_none (by omega)
    rw [List.getElem?_eq_none (by simp; omega), h1]
    simp
theorem tailR_none (k : List UInt8) (r : List Mg) (h : headR k r = []) : tailR k r = r := by
  have := head_tail k r
  rw [h] at this
  exact this
theorem mid_ext {a b : List (List Mg)} (h : ∀ i : Nat, a[i]? = b[i]?) : a = b := List.ext_getElem? h
/-- The next of key k is given. -/
theorem mid_set (k : List UInt8) (rs : List (List Mg)) (j i : Nat) (hj : j ≤ i) (m : Mg) (t : List Mg) (hi : rs[i]? = some (m :: t)) (hk : m.key = k) (hb : ∀ q r, j ≤ q → q < i → rs[q]? = some r → headR k r = []) :
    (midR k j rs).set i t = midR k (i + 1) rs ∧ headsR k (rs.take (i + 1)) = headsR k (rs.take j) ++ [m] := by
  obtain ⟨hl, h2⟩ := List.getElem?_eq_some_iff.1 hi
  constructor
  · refine mid_ext (fun q => ?_)
    rw [mid_get]
    by_cases hq : q = i
    · subst hq
      rw [List.getElem?_set_self (by rw [mid_len]; exact hl), if_pos (by omega), hi]
      show some t = some (tailR k (m :: t))
      rw [tailR_cons, if_pos hk]
    · rw [List.getElem?_set_ne (fun e => hq e.symm), mid_get]
      by_cases h1 : q < j
      · rw [if_pos h1, if_pos (by omega)]
      · rw [if_neg h1]
        by_cases h3 : q < i + 1
        · rw [if_pos h3]
          cases hr : rs[q]? with
          | none => rfl
          | some r => rw [Option.map_some, tailR_none k r (hb q r (by omega) (by omega) hr)]
        · rw [if_neg h3]
  · have e : ∀ a b : List (List Mg), headsR k (a ++ b) = headsR k a ++ headsR k b := fun a b => by simp [headsR]
    have e1 : rs.take (i + 1) = rs.take j ++ ((rs.take i).drop j ++ [m :: t]) := by
      rw [List.take_add_one, hi, ← List.append_assoc]
      congr 1
      conv => lhs; rw [← List.take_append_drop j (rs.take i)]
      rw [List.take_take, Nat.min_eq_left hj]
    rw [e1, e, e]
    congr 1
    have h3 : headsR k ((rs.take i).drop j) = [] := by
      unfold headsR
      rw [List.flatMap_eq_nil_iff]
      intro r hr
      obtain ⟨q, hq, rfl⟩ := List.getElem_of_mem hr
      rw [List.length_drop, List.length_take] at hq
      exact hb (j + q) _ (by omega) (by omega) (by rw [List.getElem_drop, List.getElem_take]; exact List.getElem?_eq_getElem _)
    rw [h3, List.nil_append]
    simp [headsR, headR_cons, hk]
/-- No more of key k is left. -/
theorem mid_end (k : List UInt8) (rs : List (List Mg)) (j : Nat) (hb : ∀ q r, j ≤ q → rs[q]? = some r → headR k r = []) : midR k j rs = tailsR k rs ∧ headsR k (rs.take j) = headsR k rs := by
  constructor
  · refine mid_ext (fun q => ?_)
    rw [mid_get]
    show _ = (rs.map (tailR k))[q]?
    rw [List.getElem?_map]
    by_cases h1 : q < j
    · rw [if_pos h1]
    · rw [if_neg h1]
      cases hr : rs[q]? with
      | none => rfl
      | some r => rw [Option.map_some, tailR_none k r (hb q r (by omega) hr)]
  · have e : rs = rs.take j ++ rs.drop j := (List.take_append_drop ..).symm
    have e2 : headsR k (rs.take j ++ rs.drop j) = headsR k (rs.take j) ++ headsR k (rs.drop j) := by unfold headsR; exact List.flatMap_append ..
    rw [List.take_append_drop] at e2
    have h3 : headsR k (rs.drop j) = [] := by
      unfold headsR
      rw [List.flatMap_eq_nil_iff]
      intro r hr
      obtain ⟨q, hq, rfl⟩ := List.getElem_of_mem hr
      rw [List.length_drop] at hq
      exact hb (j + q) _ (by omega) (by rw [List.getElem_drop]; exact List.getElem?_eq_getElem _)
    rw [e2, h3, List.append_nil]
/-- A run ahead of place j has no more of key k. -/
theorem mid_ahead {rs : List (List Mg)} (h : OkR rs) {k : List UInt8} (hk : ∀ r ∈ rs, ∀ m, r.head? = some m → ¬ m.key < k) (j i : Nat) (m : Mg) (t : List Mg) (hi : (midR k j rs)[i]? = some (m :: t)) : ¬ m.key < k ∧ (m.key = k → j ≤ i ∧ rs[i]? = some (m :: t)) := by
  rw [mid_get] at hi
  by_cases hj : i < j
  · rw [if_pos hj] at hi
    cases hr : rs[i]? with
    | none => rw [hr] at hi; cases hi
    | some r =>
      rw [hr, Option.map_some] at hi
      injection hi with hi
      have hmem := List.mem_of_getElem? hr
      have := tailR_above k r (h r hmem).2 (hk r hmem) m (by rw [hi]; simp)
      refine ⟨lt_asymm' this, fun e => ?_⟩
      rw [e] at this
      exact absurd this lt_irrefl'
  · rw [if_neg hj] at hi
    exact ⟨hk _ (List.mem_of_getElem? hi) m rfl, fun _ => ⟨by omega, hi⟩⟩
end Go.Proofs.YtnalillebemglaaGreat
