/-
  Layer 9 (leaf) as plain functions: items (held as pairs of texts: lo the key, hi the value), in the order of their keys. Nothing of the program is named here.
-/
import Derived.Test.YtnalillebemglaaGreatKeyM
import Derived.Test.YtnalillebemglaaGreatKeyJ
namespace Go.Proofs.YtnalillebemglaaGreat
open Go.RowKit
set_option linter.unusedVariables false
set_option linter.unusedSimpArgs false

/-- An item: its key (lo) and its value (hi). -/
abbrev It := Rg
theorem It.ext' {a b : It} (h1 : a.lo = b.lo) (h2 : a.hi = b.hi) : a = b := by
  cases a
  cases b
  simp_all
def itOk (x : It) : Bool := isK x.lo && decide (x.hi.length ≤ 16)
def itW (x : It) : Nat := 2 + x.lo.length + x.hi.length
def wtL (xs : List It) : Nat := (xs.map itW).sum
/-- The keys rise. -/
def Rising (xs : List It) : Prop := xs.Pairwise (fun a b => a.lo < b.lo)
/-- How many keys at the head stand ahead of k. -/
def belowN (k : List UInt8) : List It → Nat
  | [] => 0
  | x :: xs => if x.lo < k then belowN k xs + 1 else 0
def insL (x : It) : List It → List It
  | [] => [x]
  | y :: ys => if y.lo < x.lo then y :: insL x ys else x :: y :: ys
def hasKey (k : List UInt8) (xs : List It) : Prop := ∃ x ∈ xs, x.lo = k
def sortL (xs : List It) : List It := xs.foldl (fun acc x => insL x acc) []

theorem wtL_append (a b : List It) : wtL (a ++ b) = wtL a + wtL b := by simp [wtL]
theorem wtL_cons (x : It) (b : List It) : wtL (x :: b) = itW x + wtL b := by simp [wtL]
theorem lt_trans' {a b c : List UInt8} (h : a < b) (k : b < c) : a < c := by grind
theorem lt_irrefl' {a : List UInt8} : ¬ a < a := by grind
theorem lt_asymm' {a b : List UInt8} (h : a < b) : ¬ b < a := by grind
theorem lt_or' {a b : List UInt8} (h : ¬ a < b) (k : a ≠ b) : b < a := by grind

theorem belowN_le (k : List UInt8) : ∀ xs : List It, belowN k xs ≤ xs.length
  | [] => Nat.le_refl _
  | x :: xs => by
    rw [belowN]
    have := belowN_le k xs
    split <;> simp <;> omega
theorem below_lt (k : List UInt8) : ∀ (xs : List It) (j : Nat) (h : j < xs.length), j < belowN k xs → xs[j].lo < k
  | [], j, h, _ => by simp at h
  | x :: xs, j, h, hb => by
    rw [belowN] at hb
    split at hb
    · rename_i hx
      cases j with
      | zero => exact hx
      | succ j => exact below_lt k xs j (by simpa using h) (by omega)
    · omega
theorem below_ge (k : List UInt8) : ∀ (xs : List It), Rising xs → ∀ (j : Nat) (h : j < xs.length), belowN k xs ≤ j → ¬ xs[j].lo < k
  | [], _, j, h, _ => by simp at h
  | x :: xs, hr, j, h, hb => by
    have hr' := List.pairwise_cons.1 hr
    rw [belowN] at hb
    split at hb
    · cases j with
      | zero => omega
      | succ j => exact below_ge k xs hr'.2 j (by simpa using h) (by omega)
    · rename_i hx
      cases j with
      | zero => exact hx
      | succ j =>
        have h2 : j < xs.length := by simpa using h
        have := hr'.1 xs[j] (List.getElem_mem h2)
        intro hc
        exact hx (lt_trans' this hc)
theorem insL_eq (x : It) : ∀ xs : List It, insL x xs = xs.take (belowN x.lo xs) ++ x :: xs.drop (belowN x.lo xs)
  | [] => rfl
  | y :: ys => by
    rw [insL, belowN]
    split
    · rw [insL_eq x ys]; simp
    · simp
theorem insL_length (x : It) (xs : List It) : (insL x xs).length = xs.length + 1 := by
  have := belowN_le x.lo xs
  rw [insL_eq]
  simp
  omega
theorem insL_perm (x : It) : ∀ xs : List It, (insL x xs).Perm (x :: xs)
  | [] => List.Perm.refl _
  | y :: ys => by
    rw [insL]
    split
    · exact ((insL_perm x ys).cons y).trans (List.Perm.swap x y ys)
    · exact List.Perm.refl _
theorem insL_mem (x y : It) (xs : List It) : y ∈ insL x xs ↔ y = x ∨ y ∈ xs := by
  rw [(insL_perm x xs).mem_iff]
  simp
theorem insL_rising (x : It) : ∀ xs : List It, Rising xs → ¬ hasKey x.lo xs → Rising (insL x xs)
  | [], _, _ => by simp [insL, Rising]
  | y :: ys, hr, hn => by
    have hr' := List.pairwise_cons.1 hr
    rw [insL]
    split
    · rename_i hy
      refine List.pairwise_cons.2 ⟨fun z hz => ?_, insL_rising x ys hr'.2 (fun ⟨z, hz, e⟩ => hn ⟨z, List.mem_cons_of_mem _ hz, e⟩)⟩
      rcases (insL_mem x z ys).1 hz with rfl | hz
      · exact hy
      · exact hr'.1 z hz
    · rename_i hy
      have hxy : x.lo < y.lo := lt_or' hy (fun e => hn ⟨y, by simp, e⟩)
      refine List.pairwise_cons.2 ⟨fun z hz => ?_, hr⟩
      rcases List.mem_cons.1 hz with rfl | hz
      · exact hxy
      · exact lt_trans' hxy (hr'.1 z hz)

/-- Rows whose keys rise, with the same items, are the same. -/
theorem rising_unique : ∀ (a b : List It), Rising a → Rising b → (∀ x, x ∈ a ↔ x ∈ b) → a = b
  | [], [], _, _, _ => rfl
  | [], y :: b, _, _, h => absurd ((h y).2 (by simp)) (by simp)
  | x :: a, [], _, _, h => absurd ((h x).1 (by simp)) (by simp)
  | x :: a, y :: b, ha, hb, h => by
    have ha' := List.pairwise_cons.1 ha
    have hb' := List.pairwise_cons.1 hb
    have hxy : x = y := by
      rcases List.mem_cons.1 ((h x).1 (by simp)) with e | e
      · exact e
      · rcases List.mem_cons.1 ((h y).2 (by simp)) with e2 | e2
        · exact e2.symm
        · exact absurd (ha'.1 y e2) (lt_asymm' (hb'.1 x e))
    subst hxy
    rw [rising_unique a b ha'.2 hb'.2 (fun z => ?_)]
    have h1 : z = x → z ∉ a := fun e hz => lt_irrefl' (by have := ha'.1 z hz; rw [e] at this; exact this)
    have h2 : z = x → z ∉ b := fun e hz => lt_irrefl' (by have := hb'.1 z hz; rw [e] at this; exact this)
    have := h z
    simp only [List.mem_cons] at this
    grind

/-- Items told in whatever order. -/
def keysL (xs : List It) : List (List UInt8) := xs.map Rg.lo
theorem sortL_snoc (xs : List It) (x : It) : sortL (xs ++ [x]) = insL x (sortL xs) := by simp [sortL]
theorem sortL_take (xs : List It) (j : Nat) (hj : j < xs.length) : sortL (xs.take (j + 1)) = insL xs[j] (sortL (xs.take j)) := by
  rw [List.take_succ_eq_append_getElem hj, sortL_snoc]
theorem sortL_perm (xs : List It) : (sortL xs).Perm xs := by
  rw [← List.reverse_reverse xs]
  induction xs.reverse with
  | nil => exact List.Perm.refl _
  | cons x ys ih =>
    rw [List.reverse_cons, sortL_snoc]
    refine (insL_perm x _).trans ((ih.cons x).trans ?_)
    exact (List.perm_append_comm (l₁ := [x]))
theorem sortL_length (xs : List It) : (sortL xs).length = xs.length := (sortL_perm xs).length_eq
theorem sortL_mem (xs : List It) (x : It) : x ∈ sortL xs ↔ x ∈ xs := (sortL_perm xs).mem_iff
theorem hasKey_sort (k : List UInt8) (xs : List It) : hasKey k (sortL xs) ↔ hasKey k xs := by
  unfold hasKey
  constructor
  · rintro ⟨x, h, e⟩; exact ⟨x, (sortL_mem xs x).1 h, e⟩
  · rintro ⟨x, h, e⟩; exact ⟨x, (sortL_mem xs x).2 h, e⟩
theorem hasKey_mem (k : List UInt8) (xs : List It) : hasKey k xs ↔ k ∈ keysL xs := by
  unfold hasKey keysL
  simp
theorem nodup_snoc (xs : List It) (x : It) : (keysL (xs ++ [x])).Nodup ↔ (keysL xs).Nodup ∧ ¬ hasKey x.lo xs := by
  rw [hasKey_mem]
  unfold keysL
  rw [List.map_append, List.nodup_append]
  simp
theorem sortL_rising (xs : List It) : (keysL xs).Nodup → Rising (sortL xs) := by
  rw [← List.reverse_reverse xs]
  induction xs.reverse with
  | nil => intro _; simp [sortL, Rising]
  | cons x ys ih =>
    rw [List.reverse_cons, sortL_snoc]
    intro h
    obtain ⟨h1, h2⟩ := (nodup_snoc _ _).1 h
    exact insL_rising x _ (ih h1) (fun hk => h2 ((hasKey_sort _ _).1 hk))
theorem rising_nodup (xs : List It) (h : Rising xs) : (keysL xs).Nodup := by
  unfold keysL
  rw [List.Nodup, List.pairwise_map]
  refine List.Pairwise.imp (R := fun a b : It => a.lo < b.lo) ?_ h
  intro a b hab e
  rw [e] at hab
  exact lt_irrefl' hab
theorem sortL_of_rising (xs : List It) (h : Rising xs) : sortL xs = xs :=
  rising_unique _ _ (sortL_rising xs (rising_nodup xs h)) h (sortL_mem xs)
/-- What Of answers. -/
def ofE (xs : List It) : Int := if xs.all itOk then (if (keysL xs).Nodup then 0 else 11) else 1
end Go.Proofs.YtnalillebemglaaGreat
namespace Go.Proofs.YtnalillebemglaaGreat
open Go.RowKit
set_option linter.unusedVariables false
set_option linter.unusedSimpArgs false

/-- A key's value. -/
def findL (k : List UInt8) : List It → Option (List UInt8)
  | [] => none
  | x :: xs => if x.lo = k then some x.hi else findL k xs
def restL (k : List UInt8) (xs : List It) : List It := xs.filter (fun x => decide (x.lo ≠ k))
/-- What a message makes of what a key has. -/
def Mg.appO (m : Mg) (o : Option (List UInt8)) : Option (List UInt8) := if m.appH o.isSome then some (m.appV (o.getD []) o.isSome) else none
def putO (k : List UInt8) (o : Option (List UInt8)) (xs : List It) : List It :=
  match o with
  | none => xs
  | some v => insL ⟨k, v⟩ xs
def withOne (m : Mg) (xs : List It) : List It := putO m.key (m.appO (findL m.key xs)) (restL m.key xs)
def withL (ms : List Mg) (xs : List It) : List It := ms.foldl (fun acc m => withOne m acc) xs
def withinL (r : Rg) (xs : List It) : List It := xs.filter (fun x => r.has x.lo)

theorem findL_none (k : List UInt8) : ∀ xs : List It, ¬ hasKey k xs → findL k xs = none
  | [], _ => rfl
  | x :: xs, h => by
    rw [findL, if_neg (fun e => h ⟨x, by simp, e⟩)]
    exact findL_none k xs (fun ⟨z, hz, e⟩ => h ⟨z, List.mem_cons_of_mem _ hz, e⟩)
theorem findL_some {k v : List UInt8} : ∀ {xs : List It}, findL k xs = some v → (⟨k, v⟩ : It) ∈ xs
  | [], h => by simp [findL] at h
  | x :: xs, h => by
    rw [findL] at h
    split at h
    · rename_i e
      have : x = ⟨k, v⟩ := It.ext' e (by injection h)
      rw [this]
      simp
    · exact List.mem_cons_of_mem _ (findL_some h)
theorem findL_mem : ∀ (xs : List It), Rising xs → ∀ x ∈ xs, findL x.lo xs = some x.hi
  | [], _, x, h => by simp at h
  | y :: xs, hr, x, h => by
    have hr' := List.pairwise_cons.1 hr
    rw [findL]
    rcases List.mem_cons.1 h with rfl | h
    · rw [if_pos rfl]
    · rw [if_neg (fun e => lt_irrefl' (by have := hr'.1 x h; rw [e] at this; exact this))]
      exact findL_mem xs hr'.2 x h
theorem rising_ext (a b : List It) (ha : Rising a) (hb : Rising b) (h : ∀ k, findL k a = findL k b) : a = b := by
  refine rising_unique a b ha hb (fun x => ⟨fun hx => ?_, fun hx => ?_⟩)
  · have h1 := findL_mem a ha x hx
    rw [h] at h1
    exact findL_some h1
  · have h1 := findL_mem b hb x hx
    rw [← h] at h1
    exact findL_some h1
theorem restL_rising (k : List UInt8) (xs : List It) (h : Rising xs) : Rising (restL k xs) := List.Pairwise.filter _ h
theorem restL_has (k : List UInt8) (xs : List It) : ¬ hasKey k (restL k xs) := by
  rintro ⟨x, hx, e⟩
  simp [restL] at hx
  exact hx.2 e
theorem findL_rest (k q : List UInt8) : ∀ xs : List It, findL k (restL q xs) = if k = q then none else findL k xs
  | [] => by simp [restL, findL]
  | x :: xs => by
    have ih := findL_rest k q xs
    unfold restL at ih ⊢
    rw [List.filter_cons]
    by_cases hx : x.lo = q
    · rw [if_neg (by simp [hx]), ih, findL]
      by_cases hk : k = q
      · rw [if_pos hk, if_pos hk]
      · rw [if_neg hk, if_neg hk, if_neg (fun e => hk (by rw [← e, hx]))]
    · rw [if_pos (by simp [hx]), findL, findL, ih]
      by_cases hk : k = q
      · rw [if_pos hk, if_pos hk, if_neg (fun e => hx (by rw [e, hk]))]
      · rw [if_neg hk, if_neg hk]
theorem findL_ins (k : List UInt8) (x : It) : ∀ xs : List It, ¬ hasKey x.lo xs → findL k (insL x xs) = if k = x.lo then some x.hi else findL k xs
  | [], _ => by
    simp only [insL, findL]
    by_cases h : k = x.lo
    · rw [if_pos h, if_pos h.symm]
    · rw [if_neg h, if_neg (fun e => h e.symm)]
  | y :: ys, hn => by
    have hy : y.lo ≠ x.lo := fun e => hn ⟨y, by simp, e⟩
    rw [insL]
    split
    · rw [findL, findL_ins k x ys (fun ⟨z, hz, e⟩ => hn ⟨z, List.mem_cons_of_mem _ hz, e⟩), findL]
      by_cases h : k = x.lo
      · rw [if_pos h, if_pos h, if_neg (fun e => hy (by rw [e, h]))]
      · rw [if_neg h, if_neg h]
    · rw [findL]
      by_cases h : k = x.lo
      · rw [if_pos h, if_pos h.symm]
      · rw [if_neg h, if_neg (fun e => h e.symm)]
theorem withOne_rising (m : Mg) (xs : List It) (h : Rising xs) : Rising (withOne m xs) := by
  unfold withOne putO
  split
  · exact restL_rising _ _ h
  · exact insL_rising _ _ (restL_rising _ _ h) (restL_has _ _)
theorem findL_one (k : List UInt8) (m : Mg) (xs : List It) : findL k (withOne m xs) = if k = m.key then m.appO (findL k xs) else findL k xs := by
  unfold withOne putO
  by_cases hk : k = m.key
  · subst hk
    rw [if_pos rfl]
    split
    · rename_i h
      rw [findL_rest, if_pos rfl, h]
    · rename_i v h
      rw [findL_ins _ _ _ (restL_has _ _), if_pos rfl, h]
  · rw [if_neg hk]
    split
    · rw [findL_rest, if_neg hk]
    · rw [findL_ins _ _ _ (restL_has _ _), if_neg hk, findL_rest, if_neg hk]
theorem withL_rising (ms : List Mg) : ∀ xs : List It, Rising xs → Rising (withL ms xs) := by
  induction ms with
  | nil => intro xs h; exact h
  | cons m ms ih => intro xs h; exact ih _ (withOne_rising m xs h)
/-- What the messages of a key make of what it has. -/
def appAll (k : List UInt8) (ms : List Mg) (o : Option (List UInt8)) : Option (List UInt8) := (ms.filter (fun m => decide (m.key = k))).foldl (fun o m => m.appO o) o
theorem findL_with (k : List UInt8) (ms : List Mg) : ∀ xs : List It, findL k (withL ms xs) = appAll k ms (findL k xs) := by
  induction ms with
  | nil => intro xs; rfl
  | cons m ms ih =>
    intro xs
    have e : withL (m :: ms) xs = withL ms (withOne m xs) := rfl
    rw [e, ih, findL_one]
    unfold appAll
    rw [List.filter_cons]
    by_cases hk : k = m.key
    · rw [if_pos hk, if_pos (by simp [hk])]
      rfl
    · rw [if_neg hk, if_neg (by simp; exact fun e => hk e.symm)]
theorem withL_snoc (ms : List Mg) (m : Mg) (xs : List It) : withL (ms ++ [m]) xs = withOne m (withL ms xs) := by simp [withL]
/-- Messages of unlike keys may change places. -/
theorem withL_same (us bs : List Mg) (xs : List It) (h : Rising xs) (hk : ∀ k, us.filter (fun m => decide (m.key = k)) = bs.filter (fun m => decide (m.key = k))) : withL us xs = withL bs xs := by
  refine rising_ext _ _ (withL_rising us xs h) (withL_rising bs xs h) (fun k => ?_)
  rw [findL_with, findL_with]
  unfold appAll
  rw [hk]
theorem withOne_ok (m : Mg) (hm : m.is = true) (xs : List It) (h : ∀ x ∈ xs, itOk x = true) : ∀ x ∈ withOne m xs, itOk x = true := by
  have hv : ∀ v, findL m.key xs = some v → v.length ≤ 16 := fun v e => by
    have := h _ (findL_some e)
    simp [itOk] at this
    exact this.2
  have hres : ∀ v, m.appO (findL m.key xs) = some v → v.length ≤ 16 := fun v e => by
    have hval := Mg.val_le hm
    unfold Mg.appO at e
    split at e
    · injection e with e
      rw [← e]
      unfold Mg.appV
      rw [if_pos hm]
      split
      · simp
      · split
        · rename_i h3
          refine moreL_length _ _ ?_
          cases hf : findL m.key xs with
          | none => simp
          | some u => simpa using hv u hf
        · exact hval
    · cases e
  intro x hx
  unfold withOne putO at hx
  split at hx
  · exact h x ((List.mem_filter.1 hx).1)
  · rename_i v e
    rcases (insL_mem _ _ _).1 hx with rfl | hx
    · have hk := ((is_iff m).1 hm).1
      simp [itOk, hk]
      exact hres v e
    · exact h x ((List.mem_filter.1 hx).1)
theorem withL_ok (ms : List Mg) (hms : ∀ m ∈ ms, m.is = true) : ∀ xs : List It, (∀ x ∈ xs, itOk x = true) → ∀ x ∈ withL ms xs, itOk x = true := by
  induction ms with
  | nil => intro xs h; exact h
  | cons m ms ih => intro xs h; exact ih (fun q hq => hms q (by simp [hq])) _ (withOne_ok m (hms m (by simp)) xs h)

/-- A range's items, parted at a key. -/
theorem filter_parted (p q : It → Bool) (at_ : List UInt8) (f : It → Bool) (hp : ∀ x, p x = (f x && decide (x.lo < at_))) (hq : ∀ x, q x = (f x && !decide (x.lo < at_))) : ∀ xs : List It, Rising xs → xs.filter p ++ xs.filter q = xs.filter f
  | [], _ => rfl
  | x :: xs, hr => by
    have hr' := List.pairwise_cons.1 hr
    have ih := filter_parted p q at_ f hp hq xs hr'.2
    by_cases hx : x.lo < at_
    · have h1 : p x = f x := by rw [hp]; simp [hx]
      have h2 : q x = false := by rw [hq]; simp [hx]
      rw [List.filter_cons, List.filter_cons, List.filter_cons, h1, h2]
      cases hf : f x
      · simpa using ih
      · simp [ih]
    · have h0 : xs.filter p = [] := by
        rw [List.filter_eq_nil_iff]
        intro y hy
        rw [hp]
        have := hr'.1 y hy
        simp
        intro _ h
        exact hx (lt_trans' this h)
      have h1 : p x = false := by rw [hp]; simp [hx]
      have h2 : q x = f x := by rw [hq]; simp [hx]
      rw [List.filter_cons, List.filter_cons, List.filter_cons, h1, h2, h0]
      rw [h0, List.nil_append] at ih
      cases hf : f x
      · simpa using ih
      · simp [ih]

/-- A leaf's half: the fewest items from the least on that have half of its weight or more. -/
def halfFrom (all : Nat) : Nat → List It → Nat
  | _, [] => 0
  | acc, x :: xs => if all ≤ 2 * acc then 0 else halfFrom all (acc + itW x) xs + 1
def halfN (xs : List It) : Nat := halfFrom (wtL xs) 0 xs
theorem halfFrom_le (all : Nat) : ∀ (xs : List It) (acc : Nat), halfFrom all acc xs ≤ xs.length
  | [], _ => Nat.le_refl _
  | x :: xs, acc => by
    rw [halfFrom]
    have := halfFrom_le all xs (acc + itW x)
    split <;> simp <;> omega
theorem halfFrom_lt (all : Nat) : ∀ (xs : List It) (acc n : Nat), n < halfFrom all acc xs → 2 * (acc + wtL (xs.take n)) < all
  | [], _, n, h => by simp [halfFrom] at h
  | x :: xs, acc, n, h => by
    rw [halfFrom] at h
    split at h
    · omega
    · cases n with
      | zero => simp [wtL]; omega
      | succ n =>
        have := halfFrom_lt all xs (acc + itW x) n (by omega)
        rw [List.take_succ_cons, wtL_cons]
        omega
theorem halfFrom_ge (all : Nat) : ∀ (xs : List It) (acc : Nat), all ≤ 2 * (acc + wtL xs) → all ≤ 2 * (acc + wtL (xs.take (halfFrom all acc xs)))
  | [], acc, h => by simpa [halfFrom] using h
  | x :: xs, acc, h => by
    rw [halfFrom]
    split
    · simp [wtL]; omega
    · rw [List.take_succ_cons, wtL_cons]
      have := halfFrom_ge all xs (acc + itW x) (by rw [wtL_cons] at h; omega)
      omega
theorem half_le (xs : List It) : halfN xs ≤ xs.length := halfFrom_le _ _ _
theorem half_lt (xs : List It) (n : Nat) (h : n < halfN xs) : 2 * wtL (xs.take n) < wtL xs := by
  have := halfFrom_lt (wtL xs) xs 0 n h
  omega
theorem half_ge (xs : List It) : wtL xs ≤ 2 * wtL (xs.take (halfN xs)) := by
  have := halfFrom_ge (wtL xs) xs 0 (by omega)
  unfold halfN
  omega
theorem itW_le {x : It} (h : itOk x = true) : itW x ≤ 26 := by
  simp [itOk, isK] at h
  unfold itW
  omega
theorem half_pos (xs : List It) (h : 240 < wtL xs) : 0 < halfN xs := by
  rcases Nat.eq_zero_or_pos (halfN xs) with e | e
  · have := half_ge xs
    rw [e] at this
    simp [wtL] at this h
    omega
  · exact e
theorem half_small (xs : List It) (hok : ∀ x ∈ xs, itOk x = true) (h : 240 < wtL xs) : halfN xs < xs.length := by
  rcases Nat.lt_or_ge (halfN xs) xs.length with e | e
  · exact e
  · have hne : xs ≠ [] := fun e => by rw [e] at h; simp [wtL] at h
    have hlen : 0 < xs.length := List.length_pos_iff.2 hne
    have h1 := half_lt xs (xs.length - 1) (by omega)
    have h2 : wtL xs = wtL (xs.take (xs.length - 1)) + itW (xs[xs.length - 1]'(by omega)) := by
      have e1 : xs = xs.take (xs.length - 1 + 1) := (List.take_of_length_le (by omega)).symm
      conv => lhs; rw [e1, List.take_succ_eq_append_getElem (by omega), wtL_append]
      simp [wtL]
    have h3 := itW_le (hok (xs[xs.length - 1]'(by omega)) (List.getElem_mem _))
    omega
/-- A leaf's parts. -/
def partsF : Nat → List It → List (List It)
  | 0, xs => [xs]
  | f + 1, xs => if wtL xs ≤ 240 then [xs] else partsF f (xs.take (halfN xs)) ++ partsF f (xs.drop (halfN xs))
def partsIt (xs : List It) : List (List It) := partsF xs.length xs
theorem partsF_fuel : ∀ (f g : Nat) (xs : List It), (∀ x ∈ xs, itOk x = true) → xs.length ≤ f → xs.length ≤ g → partsF f xs = partsF g xs
  | 0, 0, xs, _, _, _ => rfl
  | 0, g + 1, xs, _, hf, _ => by
    have : xs = [] := List.eq_nil_of_length_eq_zero (by omega)
    subst this
    simp [partsF, wtL]
  | f + 1, 0, xs, _, _, hg => by
    have : xs = [] := List.eq_nil_of_length_eq_zero (by omega)
    subst this
    simp [partsF, wtL]
  | f + 1, g + 1, xs, hok, hf, hg => by
    rw [partsF, partsF]
    split
    · rfl
    · rename_i h
      have h1 := half_pos xs (by omega)
      have h2 := half_small xs hok (by omega)
      rw [partsF_fuel f g (xs.take (halfN xs)) (fun x hx => hok x (List.mem_of_mem_take hx)) (by rw [List.length_take]; omega) (by rw [List.length_take]; omega)]
      rw [partsF_fuel f g (xs.drop (halfN xs)) (fun x hx => hok x (List.mem_of_mem_drop hx)) (by rw [List.length_drop]; omega) (by rw [List.length_drop]; omega)]
theorem parts_light (xs : List It) (h : wtL xs ≤ 240) : partsIt xs = [xs] := by
  unfold partsIt
  cases xs.length with
  | zero => rfl
  | succ n => rw [partsF, if_pos h]
theorem parts_heavy (xs : List It) (hok : ∀ x ∈ xs, itOk x = true) (h : 240 < wtL xs) : partsIt xs = partsIt (xs.take (halfN xs)) ++ partsIt (xs.drop (halfN xs)) := by
  have h1 := half_pos xs h
  have h2 := half_small xs hok h
  unfold partsIt
  obtain ⟨n, hn⟩ : ∃ n, xs.length = n + 1 := ⟨xs.length - 1, by omega⟩
  conv => lhs; rw [hn, partsF, if_neg (by omega)]
  rw [partsF_fuel n (xs.take (halfN xs)).length _ (fun x hx => hok x (List.mem_of_mem_take hx)) (by rw [List.length_take]; omega) (Nat.le_refl _)]
  rw [partsF_fuel n (xs.drop (halfN xs)).length _ (fun x hx => hok x (List.mem_of_mem_drop hx)) (by rw [List.length_drop]; omega) (Nat.le_refl _)]
/-- The three things that the document says of parts. -/
theorem parts_good : ∀ (n : Nat) (xs : List It), xs.length ≤ n → (∀ x ∈ xs, itOk x = true) → (partsIt xs).flatten = xs ∧ (∀ p ∈ partsIt xs, wtL p ≤ 240 ∧ (xs ≠ [] → p ≠ [])) ∧ partsIt xs ≠ [] ∧ ((partsIt xs).length = 1 ↔ wtL xs ≤ 240)
  | n, xs, hn, hok => by
    by_cases h : wtL xs ≤ 240
    · rw [parts_light xs h]
      refine ⟨by simp, fun p hp => ?_, by simp, by simp [h]⟩
      simp at hp
      subst hp
      exact ⟨h, fun e => e⟩
    · have h1 := half_pos xs (by omega)
      have h2 := half_small xs hok (by omega)
      cases n with
      | zero => omega
      | succ n =>
        obtain ⟨a1, a2, a3, a4⟩ := parts_good n (xs.take (halfN xs)) (by rw [List.length_take]; omega) (fun x hx => hok x (List.mem_of_mem_take hx))
        obtain ⟨b1, b2, b3, b4⟩ := parts_good n (xs.drop (halfN xs)) (by rw [List.length_drop]; omega) (fun x hx => hok x (List.mem_of_mem_drop hx))
        have ha : xs.take (halfN xs) ≠ [] := fun e => by have := congrArg List.length e; rw [List.length_take, List.length_nil] at this; omega
        have hb : xs.drop (halfN xs) ≠ [] := fun e => by have := congrArg List.length e; rw [List.length_drop, List.length_nil] at this; omega
        rw [parts_heavy xs hok (by omega)]
        refine ⟨?_, fun p hp => ?_, ?_, ?_⟩
        · rw [List.flatten_append, a1, b1, List.take_append_drop]
        · rcases List.mem_append.1 hp with hp | hp
          · exact ⟨(a2 p hp).1, fun _ => (a2 p hp).2 ha⟩
          · exact ⟨(b2 p hp).1, fun _ => (b2 p hp).2 hb⟩
        · simp [a3]
        · have e1 := List.length_pos_iff.2 a3
          have e2 := List.length_pos_iff.2 b3
          rw [List.length_append]
          omega
/-- Two rows may be joined: all keys of the one stand ahead of those of the other. -/
def joinOk (a b : List It) : Prop := ∀ x ∈ a, ∀ y ∈ b, x.lo < y.lo
theorem join_rising (a b : List It) (ha : Rising a) (hb : Rising b) (h : joinOk a b) : Rising (a ++ b) := List.pairwise_append.2 ⟨ha, hb, h⟩
theorem rising_join {a b : List It} (h : Rising (a ++ b)) : Rising a ∧ Rising b ∧ joinOk a b := List.pairwise_append.1 h
end Go.Proofs.YtnalillebemglaaGreat
namespace Go.Proofs.YtnalillebemglaaGreat
open Go.RowKit
set_option linter.unusedVariables false
set_option linter.unusedSimpArgs false

theorem cut_two (r : Rg) (k : List UInt8) : r.cut [k] = [r.meet ⟨[], k⟩, r.meet ⟨k, []⟩] := by simp [Rg.cut, partsL]
theorem has_low (r : Rg) (k : List UInt8) (hk : k ≠ []) (q : List UInt8) : (r.meet ⟨[], k⟩).has q = (r.has q && decide (q < k)) := by
  rw [meet_has, Bool.eq_iff_iff]
  simp [Rg.has, hk]
  grind
theorem has_high (r : Rg) (k : List UInt8) (q : List UInt8) : (r.meet ⟨k, []⟩).has q = (r.has q && !decide (q < k)) := by
  rw [meet_has, Bool.eq_iff_iff]
  simp [Rg.has]
  grind
/-- What is cut out of a leaf is in just one part. -/
theorem within_cut (r : Rg) (k : List UInt8) (hk : k ≠ []) (xs : List It) (h : Rising xs) : withinL (r.meet ⟨[], k⟩) xs ++ withinL (r.meet ⟨k, []⟩) xs = withinL r xs := by
  unfold withinL
  exact filter_parted _ _ k _ (fun x => has_low r k hk x.lo) (fun x => has_high r k x.lo) xs h
theorem within_rising (r : Rg) (xs : List It) (h : Rising xs) : Rising (withinL r xs) := List.Pairwise.filter _ h
theorem within_ok (r : Rg) (xs : List It) (h : ∀ x ∈ xs, itOk x = true) : ∀ x ∈ withinL r xs, itOk x = true := fun x hx => h x (List.mem_filter.1 hx).1
theorem within_all (xs : List It) (h : ∀ x ∈ xs, itOk x = true) : withinL ⟨[], []⟩ xs = xs := by
  unfold withinL
  rw [List.filter_eq_self]
  intro x hx
  have := h x hx
  simp [itOk] at this
  simp [Rg.has, this.1]
/-- A key's own messages first, or last. -/
theorem with_mine (k : List UInt8) (ms : List Mg) (xs : List It) (h : Rising xs) :
    withL (ms.filter (fun m => decide (m.key = k)) ++ ms.filter (fun m => !decide (m.key = k))) xs = withL ms xs ∧ withL (ms.filter (fun m => !decide (m.key = k)) ++ ms.filter (fun m => decide (m.key = k))) xs = withL ms xs := by
  constructor
  · refine withL_same _ _ xs h (fun q => ?_)
    rw [List.filter_append, List.filter_filter, List.filter_filter]
    by_cases e : q = k
    · subst e
      have e1 : ms.filter (fun m => decide (m.key = q) && !decide (m.key = q)) = [] := by
        rw [List.filter_eq_nil_iff]
        intro m _
        simp
      simp [e1]
    · have e1 : ms.filter (fun m => decide (m.key = q) && decide (m.key = k)) = [] := by
        rw [List.filter_eq_nil_iff]
        intro m _
        simp
        intro h1 h2
        exact e (h1.symm.trans h2)
      rw [e1, List.nil_append]
      refine List.filter_congr (fun m _ => ?_)
      rw [Bool.eq_iff_iff]
      simp
      intro h1 h2
      exact e (h1.symm.trans h2)
  · refine withL_same _ _ xs h (fun q => ?_)
    rw [List.filter_append, List.filter_filter, List.filter_filter]
    by_cases e : q = k
    · subst e
      have e1 : ms.filter (fun m => decide (m.key = q) && !decide (m.key = q)) = [] := by
        rw [List.filter_eq_nil_iff]
        intro m _
        simp
      simp [e1]
    · have e1 : ms.filter (fun m => decide (m.key = q) && decide (m.key = k)) = [] := by
        rw [List.filter_eq_nil_iff]
        intro m _
        simp
        intro h1 h2
        exact e (h1.symm.trans h2)
      rw [e1, List.append_nil]
      refine List.filter_congr (fun m _ => ?_)
      rw [Bool.eq_iff_iff]
      simp
      intro h1 h2
      exact e (h1.symm.trans h2)
end Go.Proofs.YtnalillebemglaaGreat
