/-
  Layer 10 (buff) as plain functions: messages by rising keys, one a key; put, found, taken out, weighed. Nothing of the program is named here.
  Layer 10 (buff): the reference's Put, step by step; parts by pivots; weights. Nothing of the program is named here.
  A heap in a row of pairs (a part's place, what it weighs), the heaviest first: what an exchange on the way up keeps; and a list sorted by keys, put message by message at the end. Nothing of the program is named here.
-/
import Derived.Test.YtnalillebemglaaGreatLeafM
import Derived.Test.YtnalillebemglaaGreatRowIn
import Derived.Test.YtnalillebemglaaGreatStable
namespace Go.Proofs.YtnalillebemglaaGreat
open Go.RowKit
set_option linter.unusedVariables false
set_option linter.unusedSimpArgs false

/-- The keys rise. -/
def RisingM (ms : List Mg) : Prop := ms.Pairwise (fun a b => a.key < b.key)
def GoodM (ms : List Mg) : Prop := ∀ m ∈ ms, m.is = true
def findM (k : List UInt8) : List Mg → Option Mg
  | [] => none
  | x :: xs => if x.key = k then some x else findM k xs
/-- A message is put into a buffer. -/
def putM (m : Mg) : List Mg → List Mg
  | [] => [m]
  | x :: xs => if x.key = m.key then x.then m :: xs else if x.key < m.key then x :: putM m xs else m :: x :: xs
def putsM (ms : List Mg) (b : List Mg) : List Mg := ms.foldl (fun b m => putM m b) b
/-- What a key has behind one more. -/
def Mg.onto (m : Mg) : Option Mg → Mg
  | none => m
  | some x => x.then m
def takeM (r : Rg) (ms : List Mg) : List Mg := ms.filter (fun m => r.has m.key)
def dropM (r : Rg) (ms : List Mg) : List Mg := ms.filter (fun m => !r.has m.key)
def mgW (m : Mg) : Nat := 3 + m.key.length + m.val.length
def wtM (ms : List Mg) : Nat := (ms.map mgW).sum
def loadsM (ps : List (List UInt8)) (ms : List Mg) : List Nat := ((Rg.mk [] []).cut ps).map (fun c => wtM (takeM c ms))

theorem wtM_append (a b : List Mg) : wtM (a ++ b) = wtM a + wtM b := by simp [wtM]
theorem wtM_cons (m : Mg) (b : List Mg) : wtM (m :: b) = mgW m + wtM b := by simp [wtM]
theorem putsM_snoc (ms : List Mg) (m : Mg) (b : List Mg) : putsM (ms ++ [m]) b = putM m (putsM ms b) := by simp [putsM]
theorem putsM_append (a c : List Mg) (b : List Mg) : putsM (a ++ c) b = putsM c (putsM a b) := by simp [putsM]
theorem findM_mem {k : List UInt8} {x : Mg} : ∀ {ms : List Mg}, findM k ms = some x → x ∈ ms ∧ x.key = k
  | [], h => by simp [findM] at h
  | y :: ys, h => by
    rw [findM] at h
    split at h
    · rename_i e
      injection h with h
      subst h
      exact ⟨by simp, e⟩
    · obtain ⟨h1, h2⟩ := findM_mem h
      exact ⟨List.mem_cons_of_mem _ h1, h2⟩
theorem findM_some : ∀ {ms : List Mg}, RisingM ms → ∀ x ∈ ms, findM x.key ms = some x
  | [], _, x, h => by simp at h
  | y :: ys, hr, x, h => by
    have hr' := List.pairwise_cons.1 hr
    rw [findM]
    rcases List.mem_cons.1 h with rfl | h
    · rw [if_pos rfl]
    · rw [if_neg (fun e => lt_irrefl' (by have := hr'.1 x h; rw [e] at this; exact this))]
      exact findM_some hr'.2 x h
theorem findM_none {k : List UInt8} : ∀ {ms : List Mg}, (∀ x ∈ ms, x.key ≠ k) → findM k ms = none
  | [], _ => rfl
  | y :: ys, h => by
    rw [findM, if_neg (h y (by simp))]
    exact findM_none (fun x hx => h x (by simp [hx]))
theorem risingM_unique : ∀ (a b : List Mg), RisingM a → RisingM b → (∀ x, x ∈ a ↔ x ∈ b) → a = b
  | [], [], _, _, _ => rfl
  | [], y :: b, _, _, h => absurd ((h y).2 (by simp)) (by simp)
  | x :: a, [], _, _, h => absurd ((h x).1 (by simp)) (by simp)
  | x :: a, y :: b, ha, hb, h => by
    have ha' := List.pairwise_cons.1 ha
    have hb' := List.pairwise_cons.1 hb
    have hxy : x = y := by
      rcases List.mem_cons.1 ((h x).1 (by simp)) with e | e
      · exact e
      · rcases List.mem_cons.1 ((h y).2 (by simp)) with e2 | e2
        · exact e2.symm
        · exact absurd (ha'.1 y e2) (lt_asymm' (hb'.1 x e))
    subst hxy
    rw [risingM_unique a b ha'.2 hb'.2 (fun z => ?_)]
    have h1 : z = x → z ∉ a := fun e hz => lt_irrefl' (by have := ha'.1 z hz; rw [e] at this; exact this)
    have h2 : z = x → z ∉ b := fun e hz => lt_irrefl' (by have := hb'.1 z hz; rw [e] at this; exact this)
    have := h z
    simp only [List.mem_cons] at this
    grind
/-- Buffers in which each key has the same are the same. -/
theorem risingM_ext (a b : List Mg) (ha : RisingM a) (hb : RisingM b) (h : ∀ k, findM k a = findM k b) : a = b := by
  refine risingM_unique a b ha hb (fun x => ⟨fun hx => ?_, fun hx => ?_⟩)
  · have h1 := findM_some ha x hx
    rw [h] at h1
    exact (findM_mem h1).1
  · have h1 := findM_some hb x hx
    rw [← h] at h1
    exact (findM_mem h1).1

theorem onto_good {m : Mg} (hm : m.is = true) {o : Option Mg} (ho : ∀ x, o = some x → x.is = true ∧ x.key = m.key) : (m.onto o).is = true ∧ (m.onto o).key = m.key := by
  cases o with
  | none => exact ⟨hm, rfl⟩
  | some x =>
    obtain ⟨h1, h2⟩ := ho x rfl
    obtain ⟨g1, g2⟩ := then_good h1 hm h2.symm
    exact ⟨g1, g2.trans h2⟩
theorem putM_good (m : Mg) (hm : m.is = true) : ∀ b : List Mg, GoodM b → GoodM (putM m b)
  | [], _ => by intro x hx; simp [putM] at hx; rw [hx]; exact hm
  | y :: ys, h => by
    have h1 : y.is = true := h y (by simp)
    have h2 : GoodM ys := fun x hx => h x (by simp [hx])
    rw [putM]
    split
    · rename_i e
      intro x hx
      rcases List.mem_cons.1 hx with rfl | hx
      · exact (then_good h1 hm e.symm).1
      · exact h2 x hx
    · split
      · intro x hx
        rcases List.mem_cons.1 hx with rfl | hx
        · exact h1
        · exact putM_good m hm ys h2 x hx
      · intro x hx
        rcases List.mem_cons.1 hx with rfl | hx
        · exact hm
        · exact h x hx
theorem putM_keys (m : Mg) (hm : m.is = true) : ∀ b : List Mg, GoodM b → ∀ x ∈ putM m b, x.key = m.key ∨ ∃ y ∈ b, y.key = x.key
  | [], _ => by intro x hx; simp [putM] at hx; rw [hx]; exact .inl rfl
  | y :: ys, h => by
    have h1 : y.is = true := h y (by simp)
    have h2 : GoodM ys := fun x hx => h x (by simp [hx])
    rw [putM]
    split
    · rename_i e
      intro x hx
      rcases List.mem_cons.1 hx with rfl | hx
      · exact .inl ((then_good h1 hm e.symm).2.trans e)
      · exact .inr ⟨x, by simp [hx], rfl⟩
    · split
      · intro x hx
        rcases List.mem_cons.1 hx with rfl | hx
        · exact .inr ⟨x, by simp, rfl⟩
        · rcases putM_keys m hm ys h2 x hx with e | ⟨z, hz, e⟩
          · exact .inl e
          · exact .inr ⟨z, by simp [hz], e⟩
      · intro x hx
        rcases List.mem_cons.1 hx with rfl | hx
        · exact .inl rfl
        · exact .inr ⟨x, hx, rfl⟩
theorem putM_rising (m : Mg) (hm : m.is = true) : ∀ b : List Mg, GoodM b → RisingM b → RisingM (putM m b)
  | [], _, _ => by simp [putM, RisingM]
  | y :: ys, h, hr => by
    have hr' := List.pairwise_cons.1 hr
    have h1 : y.is = true := h y (by simp)
    have h2 : GoodM ys := fun x hx => h x (by simp [hx])
    rw [putM]
    split
    · rename_i e
      refine List.pairwise_cons.2 ⟨fun z hz => ?_, hr'.2⟩
      rw [(then_good h1 hm e.symm).2]
      exact hr'.1 z hz
    · rename_i hne
      split
      · rename_i hlt
        refine List.pairwise_cons.2 ⟨fun z hz => ?_, putM_rising m hm ys h2 hr'.2⟩
        rcases putM_keys m hm ys h2 z hz with e | ⟨q, hq, e⟩
        · rw [e]; exact hlt
        · rw [← e]; exact hr'.1 q hq
      · rename_i hge
        have hlt : m.key < y.key := lt_or' hge hne
        refine List.pairwise_cons.2 ⟨fun z hz => ?_, hr⟩
        rcases List.mem_cons.1 hz with rfl | hz
        · exact hlt
        · exact lt_trans' hlt (hr'.1 z hz)
/-- What a key has behind a put. -/
theorem findM_put (m : Mg) (hm : m.is = true) (k : List UInt8) : ∀ b : List Mg, GoodM b → RisingM b → findM k (putM m b) = if k = m.key then some (m.onto (findM k b)) else findM k b
  | [], _, _ => by
    by_cases e : k = m.key
    · rw [if_pos e]; simp [putM, findM, e, Mg.onto]
    · rw [if_neg e]; simp [putM, findM]; exact fun h => e h.symm
  | y :: ys, h, hr => by
    have hr' := List.pairwise_cons.1 hr
    have h1 : y.is = true := h y (by simp)
    have h2 : GoodM ys := fun x hx => h x (by simp [hx])
    rw [putM]
    split
    · rename_i e
      have ek := (then_good h1 hm e.symm).2
      rw [findM, findM, ek]
      by_cases hk : y.key = k
      · rw [if_pos hk, if_pos (hk.symm.trans e), if_pos hk]; rfl
      · rw [if_neg hk, if_neg (fun h => hk (e.trans h.symm)), if_neg hk]
    · rename_i hne
      split
      · rename_i hlt
        rw [findM, findM, findM_put m hm k ys h2 hr'.2]
        by_cases hk : y.key = k
        · rw [if_pos hk, if_neg (fun e => hne (hk.trans e)), if_pos hk]
        · rw [if_neg hk, if_neg hk]
      · rename_i hge
        have hlt : m.key < y.key := lt_or' hge hne
        rw [findM]
        by_cases hk : m.key = k
        · rw [if_pos hk, if_pos hk.symm]
          have : findM k (y :: ys) = none := findM_none (fun x hx e => by
            rcases List.mem_cons.1 hx with rfl | hx
            · rw [e, hk] at hlt; exact lt_irrefl' hlt
            · have := lt_trans' hlt (hr'.1 x hx)
              rw [e, hk] at this
              exact lt_irrefl' this)
          rw [this]
          rfl
        · rw [if_neg hk, if_neg (fun e => hk e.symm)]
theorem putsM_all (ms : List Mg) (hms : GoodM ms) : ∀ b : List Mg, GoodM b → RisingM b → GoodM (putsM ms b) ∧ RisingM (putsM ms b) := by
  induction ms with
  | nil => intro b h1 h2; exact ⟨h1, h2⟩
  | cons m ms ih =>
    intro b h1 h2
    have hm := hms m (by simp)
    exact ih (fun x hx => hms x (by simp [hx])) (putM m b) (putM_good m hm b h1) (putM_rising m hm b h1 h2)
/-- All messages of a key, one behind the other. -/
def ontoAll (k : List UInt8) (ms : List Mg) (o : Option Mg) : Option Mg := (ms.filter (fun m => decide (m.key = k))).foldl (fun o m => some (m.onto o)) o
theorem findM_puts (k : List UInt8) (ms : List Mg) (hms : GoodM ms) : ∀ b : List Mg, GoodM b → RisingM b → findM k (putsM ms b) = ontoAll k ms (findM k b) := by
  induction ms with
  | nil => intro b _ _; rfl
  | cons m ms ih =>
    intro b h1 h2
    have hm := hms m (by simp)
    have e : putsM (m :: ms) b = putsM ms (putM m b) := rfl
    rw [e, ih (fun x hx => hms x (by simp [hx])) (putM m b) (putM_good m hm b h1) (putM_rising m hm b h1 h2), findM_put m hm k b h1 h2]
    unfold ontoAll
    rw [List.filter_cons]
    by_cases hk : k = m.key
    · rw [if_pos hk, if_pos (by simp [hk])]
      rfl
    · rw [if_neg hk, if_neg (by simp; exact fun e => hk e.symm)]

/-- What a buffer does to what a key has. -/
def Mg.appOO (o : Option Mg) (v : Option (List UInt8)) : Option (List UInt8) :=
  match o with
  | none => v
  | some m => m.appO v
theorem appO_onto {m : Mg} (hm : m.is = true) {o : Option Mg} (ho : ∀ x, o = some x → x.is = true ∧ x.key = m.key) (v : Option (List UInt8)) : Mg.appOO (some (m.onto o)) v = m.appO (Mg.appOO o v) := by
  cases o with
  | none => rfl
  | some x =>
    obtain ⟨h1, h2⟩ := ho x rfl
    have hh := fun u b => app_then h1 hm h2.symm u b
    have hg := (then_good h1 hm h2.symm).1
    show (x.then m).appO v = m.appO (x.appO v)
    unfold Mg.appO
    obtain ⟨a1, a2⟩ := hh (v.getD []) v.isSome
    rw [← a2]
    by_cases hx : x.appH v.isSome = true
    · rw [if_pos hx]
      simp only [Option.isSome_some, Option.getD_some]
      rw [← a1, hx]
    · have hx0 : x.appH v.isSome = false := by simpa using hx
      rw [if_neg hx]
      simp only [Option.isSome_none, Option.getD_none]
      rw [hx0] at a1 ⊢
      have ex : x.appV (v.getD []) v.isSome = [] := by
        unfold Mg.appH at hx0
        rw [if_pos h1] at hx0
        unfold Mg.appV
        rw [if_pos h1, if_pos (by simpa using hx0)]
      rw [ex] at a1
      rw [← a1]
/-- What a buffer does to a key is what all that was put into it does. -/
theorem appAll_find (k : List UInt8) : ∀ b : List Mg, RisingM b → ∀ v, appAll k b v = Mg.appOO (findM k b) v
  | [], _, v => rfl
  | y :: ys, hr, v => by
    have hr' := List.pairwise_cons.1 hr
    have ih := appAll_find k ys hr'.2
    unfold appAll at ih ⊢
    rw [List.filter_cons, findM]
    by_cases hk : y.key = k
    · rw [if_pos (by simp [hk]), if_pos hk]
      have e : ys.filter (fun m => decide (m.key = k)) = [] := by
        rw [List.filter_eq_nil_iff]
        intro x hx
        have := hr'.1 x hx
        simp
        intro e
        rw [hk, e] at this
        exact lt_irrefl' this
      rw [e]
      rfl
    · rw [if_neg (by simp [hk]), if_neg hk]
      exact ih v
theorem appAll_onto (k : List UInt8) (ms : List Mg) (hms : GoodM ms) : ∀ o : Option Mg, (∀ x, o = some x → x.is = true ∧ x.key = k) → ∀ v, Mg.appOO (ontoAll k ms o) v = appAll k ms (Mg.appOO o v) := by
  induction ms with
  | nil => intro o _ v; rfl
  | cons m ms ih =>
    intro o ho v
    have hm := hms m (by simp)
    have ih' := ih (fun x hx => hms x (by simp [hx]))
    unfold ontoAll appAll at ih' ⊢
    rw [List.filter_cons]
    by_cases hk : m.key = k
    · rw [if_pos (by simp [hk])]
      rw [List.foldl_cons, List.foldl_cons]
      have ho2 : ∀ x, o = some x → x.is = true ∧ x.key = m.key := fun x hx => by rw [hk]; exact ho x hx
      rw [← appO_onto hm ho2]
      obtain ⟨g1, g2⟩ := onto_good hm ho2
      exact ih' (some (m.onto o)) (fun x hx => by injection hx with hx; subst hx; exact ⟨g1, g2.trans hk⟩) v
    · rw [if_neg (by simp [hk])]
      exact ih' o ho v
theorem appAll_puts (k : List UInt8) (ms : List Mg) (hms : GoodM ms) (v : Option (List UInt8)) : appAll k (putsM ms []) v = appAll k ms v := by
  obtain ⟨h1, h2⟩ := putsM_all ms hms [] (by intro x hx; simp at hx) (by simp [RisingM])
  rw [appAll_find k _ h2, findM_puts k ms hms [] (by intro x hx; simp at hx) (by simp [RisingM]), appAll_onto k ms hms _ (by intro x hx; simp [findM] at hx)]
  rfl
/-- To a leaf a buffer does what all that was put into it does. -/
theorem withL_puts (ms : List Mg) (hms : GoodM ms) (xs : List It) (h : Rising xs) : withL (putsM ms []) xs = withL ms xs := by
  refine rising_ext _ _ (withL_rising _ xs h) (withL_rising _ xs h) (fun k => ?_)
  rw [findL_with, findL_with, appAll_puts k ms hms]
end Go.Proofs.YtnalillebemglaaGreat
namespace Go.Proofs.YtnalillebemglaaGreat
open Go.RowKit
set_option linter.unusedVariables false
set_option linter.unusedSimpArgs false

/-- How many keys at the head stand ahead of k. -/
def belowM (k : List UInt8) : List Mg → Nat
  | [] => 0
  | x :: xs => if x.key < k then belowM k xs + 1 else 0
theorem belowM_le (k : List UInt8) : ∀ xs : List Mg, belowM k xs ≤ xs.length
  | [] => Nat.le_refl _
  | x :: xs => by
    rw [belowM]
    have := belowM_le k xs
    split <;> simp <;> omega
theorem putM_len (m : Mg) : ∀ b : List Mg, (putM m b).length ≤ b.length + 1
  | [] => by simp [putM]
  | y :: ys => by
    rw [putM]
    have := putM_len m ys
    split
    · simp
    · split <;> simp <;> omega
theorem putsM_len (ms : List Mg) : ∀ b : List Mg, (putsM ms b).length ≤ b.length + ms.length := by
  induction ms with
  | nil => intro b; exact Nat.le_refl _
  | cons m ms ih =>
    intro b
    have h1 := ih (putM m b)
    have h2 := putM_len m b
    have e : putsM (m :: ms) b = putsM ms (putM m b) := rfl
    rw [e, List.length_cons]
    omega
/-- The reference's Put, up to a place: what is put out, and whether m is done. -/
def putStep (m : Mg) (s : List Mg × Bool) (x : Mg) : List Mg × Bool :=
  if x.key = m.key then (s.1 ++ [x.then m], true) else if s.2 = false ∧ m.key < x.key then (s.1 ++ [m, x], true) else (s.1 ++ [x], s.2)
def putRow (m : Mg) (b : List Mg) : List Mg × Bool := b.foldl (putStep m) ([], false)
theorem putRow_take (m : Mg) (b : List Mg) (j : Nat) (hj : j < b.length) : putRow m (b.take (j + 1)) = putStep m (putRow m (b.take j)) b[j] := by
  unfold putRow
  rw [List.take_succ_eq_append_getElem hj, List.foldl_append]
  rfl
theorem putStep_done (m : Mg) : ∀ (b : List Mg) (out : List Mg), (∀ x ∈ b, m.key < x.key) → b.foldl (putStep m) (out, true) = (out ++ b, true)
  | [], out, _ => by simp
  | x :: xs, out, h => by
    have hx := h x (by simp)
    have hne : ¬ x.key = m.key := fun e => by rw [e] at hx; exact lt_irrefl' hx
    rw [List.foldl_cons, putStep, if_neg hne, if_neg (by simp)]
    rw [putStep_done m xs (out ++ [x]) (fun y hy => h y (by simp [hy]))]
    simp
theorem putRow_from (m : Mg) : ∀ (b : List Mg) (out : List Mg), RisingM b → let s := b.foldl (putStep m) (out, false); (if s.2 then s.1 else s.1 ++ [m]) = out ++ putM m b
  | [], out, _ => by simp [putM]
  | x :: xs, out, hr => by
    have hr' := List.pairwise_cons.1 hr
    rw [List.foldl_cons, putStep, putM]
    by_cases hk : x.key = m.key
    · rw [if_pos hk, if_pos hk, putStep_done m xs _ (fun y hy => by rw [← hk]; exact hr'.1 y hy)]
      simp
    · rw [if_neg hk, if_neg hk]
      by_cases hl : m.key < x.key
      · rw [if_pos ⟨rfl, hl⟩, if_neg (lt_asymm' hl), putStep_done m xs _ (fun y hy => lt_trans' hl (hr'.1 y hy))]
        simp
      · rw [if_neg (fun h => hl h.2), if_pos (lt_or' hl (fun e => hk e.symm))]
        have := putRow_from m xs (out ++ [x]) hr'.2
        simp only at this ⊢
        rw [this]
        simp
/-- The reference's Put is put. -/
theorem putRow_put (m : Mg) (b : List Mg) (hr : RisingM b) : (if (putRow m b).2 then (putRow m b).1 else (putRow m b).1 ++ [m]) = putM m b := by
  have h : (if (b.foldl (putStep m) ([], false)).2 then (b.foldl (putStep m) ([], false)).1 else (b.foldl (putStep m) ([], false)).1 ++ [m]) = [] ++ putM m b := putRow_from m b [] hr
  rw [List.nil_append] at h
  exact h
theorem putRow_len (m : Mg) : ∀ (b : List Mg) (s : List Mg × Bool), (b.foldl (putStep m) s).1.length ≤ s.1.length + 2 * b.length
  | [], s => by simp
  | x :: xs, s => by
    rw [List.foldl_cons]
    have h1 := putRow_len m xs (putStep m s x)
    have h2 : (putStep m s x).1.length ≤ s.1.length + 2 := by
      unfold putStep
      split
      · simp
      · split <;> simp
    rw [List.length_cons]
    omega

theorem takeM_rising (r : Rg) (ms : List Mg) (h : RisingM ms) : RisingM (takeM r ms) := List.Pairwise.filter _ h
theorem dropM_rising (r : Rg) (ms : List Mg) (h : RisingM ms) : RisingM (dropM r ms) := List.Pairwise.filter _ h
theorem takeM_good (r : Rg) (ms : List Mg) (h : GoodM ms) : GoodM (takeM r ms) := fun x hx => h x (List.mem_filter.1 hx).1
theorem dropM_good (r : Rg) (ms : List Mg) (h : GoodM ms) : GoodM (dropM r ms) := fun x hx => h x (List.mem_filter.1 hx).1
theorem takeM_take (r : Rg) (ms : List Mg) (j : Nat) (hj : j < ms.length) : takeM r (ms.take (j + 1)) = takeM r (ms.take j) ++ (if r.has ms[j].key then [ms[j]] else []) := by
  unfold takeM
  rw [List.take_succ_eq_append_getElem hj, List.filter_append]
  congr 1
  by_cases h : r.has ms[j].key = true
  · simp [h]
  · simp [h]
theorem dropM_take (r : Rg) (ms : List Mg) (j : Nat) (hj : j < ms.length) : dropM r (ms.take (j + 1)) = dropM r (ms.take j) ++ (if r.has ms[j].key then [] else [ms[j]]) := by
  unfold dropM
  rw [List.take_succ_eq_append_getElem hj, List.filter_append]
  congr 1
  by_cases h : r.has ms[j].key = true
  · simp [h]
  · simp [h]
theorem takeM_len (r : Rg) (ms : List Mg) : (takeM r ms).length ≤ ms.length := List.length_filter_le _ _
theorem dropM_len (r : Rg) (ms : List Mg) : (dropM r ms).length ≤ ms.length := List.length_filter_le _ _
/-- Of a buffer a range's weight and the others' are the whole's. -/
theorem wtM_split (p : Mg → Bool) : ∀ ms : List Mg, wtM (ms.filter p) + wtM (ms.filter (fun m => !p m)) = wtM ms
  | [] => rfl
  | x :: xs => by
    have ih := wtM_split p xs
    rw [List.filter_cons, List.filter_cons, wtM_cons]
    cases p x
    · simp [wtM_cons]; omega
    · simp [wtM_cons]; omega
theorem good_key {ms : List Mg} (h : GoodM ms) : ∀ m ∈ ms, isK m.key = true := fun m hm => ((is_iff m).1 (h m hm)).1
theorem mgW_pos (m : Mg) : 0 < mgW m := by unfold mgW; omega
theorem wtM_zero {ms : List Mg} (h : wtM ms = 0) : ms = [] := by
  cases ms with
  | nil => rfl
  | cons x xs =>
    rw [wtM_cons] at h
    have := mgW_pos x
    omega
/-- What is left behind the first j ranges. -/
def leftM (rs : List Rg) (ms : List Mg) : List Mg := rs.foldl (fun b r => dropM r b) ms
theorem leftM_take (rs : List Rg) (ms : List Mg) (j : Nat) (hj : j < rs.length) : leftM (rs.take (j + 1)) ms = dropM rs[j] (leftM (rs.take j) ms) := by
  unfold leftM
  rw [List.take_succ_eq_append_getElem hj, List.foldl_append]
  rfl
theorem leftM_eq : ∀ (rs : List Rg) (ms : List Mg), leftM rs ms = ms.filter (fun m => rs.all (fun r => !r.has m.key))
  | [], ms => by
    show ms = _
    symm
    rw [List.filter_eq_self]
    intro x _
    rfl
  | r :: rs, ms => by
    have e : leftM (r :: rs) ms = leftM rs (dropM r ms) := rfl
    rw [e, leftM_eq rs]
    unfold dropM
    rw [List.filter_filter]
    congr 1
    funext m
    simp [Bool.and_comm]
/-- What lies in the first j ranges. -/
theorem wtM_parts : ∀ (rs : List Rg) (ms : List Mg), (∀ m ∈ ms, rs.countP (fun r => r.has m.key) ≤ 1) → ((rs.map fun r => wtM (takeM r ms)).sum + wtM (leftM rs ms)) = wtM ms
  | [], ms, _ => by simp [leftM]
  | r :: rs, ms, h => by
    have e : leftM (r :: rs) ms = leftM rs (dropM r ms) := rfl
    have ih := wtM_parts rs (dropM r ms) (fun m hm => by
      have := h m (List.mem_filter.1 hm).1
      rw [List.countP_cons] at this
      omega)
    have hsame : (rs.map fun q => wtM (takeM q ms)) = rs.map fun q => wtM (takeM q (dropM r ms)) := by
      refine List.map_congr_left (fun q hq => ?_)
      congr 1
      unfold takeM dropM
      rw [List.filter_filter]
      refine List.filter_congr (fun m hm => ?_)
      have := h m hm
      rw [List.countP_cons] at this
      by_cases hqm : q.has m.key = true
      · have h1 : 0 < rs.countP (fun r => r.has m.key) := List.countP_pos_iff.2 ⟨q, hq, hqm⟩
        have h2 : r.has m.key = false := by
          cases hr : r.has m.key
          · rfl
          · simp only [hr, if_true] at this
            omega
        simp [hqm, h2]
      · simp [hqm]
    have hw := wtM_split (fun m => r.has m.key) ms
    rw [e, List.map_cons, List.sum_cons, hsame]
    unfold takeM dropM at *
    omega
/-- The pivots of a buffer: keys that rise. -/
def PivOk (ps : List (List UInt8)) : Prop := Rise [] ps
theorem parts_once (ps : List (List UInt8)) (hp : Rise [] ps) (ms : List Mg) (hg : GoodM ms) : ∀ m ∈ ms, (((Rg.mk [] []).cut ps).countP fun r => r.has m.key) = 1 := by
  intro m hm
  rw [count_cut _ _ ps hp, if_pos]
  have := good_key hg m hm
  have h2 : m.key ≠ [] := by simp [isK] at this; exact this.1
  rw [has_iff]
  exact ⟨this, by simp, .inl rfl⟩
theorem left_none (ps : List (List UInt8)) (hp : Rise [] ps) (ms : List Mg) (hg : GoodM ms) : leftM ((Rg.mk [] []).cut ps) ms = [] := by
  rw [leftM_eq, List.filter_eq_nil_iff]
  intro m hm h
  have h1 := parts_once ps hp ms hg m hm
  have h2 : 0 < (((Rg.mk [] []).cut ps).countP fun r => r.has m.key) := by omega
  obtain ⟨r, hr, hk⟩ := List.countP_pos_iff.1 h2
  have := List.all_eq_true.1 h r hr
  rw [hk] at this
  cases this
theorem loads_sum (ps : List (List UInt8)) (hp : Rise [] ps) (ms : List Mg) (hg : GoodM ms) : (loadsM ps ms).sum = wtM ms := by
  have h1 := wtM_parts ((Rg.mk [] []).cut ps) ms (fun m hm => by rw [parts_once ps hp ms hg m hm]; exact Nat.le_refl _)
  rw [left_none ps hp ms hg] at h1
  simpa [loadsM, wtM] using h1
/-- The heaviest part's place, of the first j: of several the first; none where no part weighs anything. -/
def heavier (ns : List Nat) (b : Option Nat) (i : Nat) : Bool := match b with
  | none => true
  | some p => decide (ns.getD p 0 < ns.getD i 0)
def bestN (ns : List Nat) : Nat → Option Nat
  | 0 => none
  | j + 1 => if decide (0 < ns.getD j 0) && heavier ns (bestN ns j) j then some j else bestN ns j
def bestZ (ns : List Nat) (j : Nat) : Int := match bestN ns j with
  | none => -1
  | some p => p
def BestOk (ns : List Nat) (j : Nat) (b : Option Nat) : Prop := match b with
  | none => ∀ i, i < j → ns.getD i 0 = 0
  | some p => p < j ∧ 0 < ns.getD p 0 ∧ ∀ i, i < j → ns.getD i 0 ≤ ns.getD p 0
theorem bestN_ok (ns : List Nat) : ∀ j, BestOk ns j (bestN ns j)
  | 0 => fun i hi => absurd hi (by omega)
  | j + 1 => by
    have ih := bestN_ok ns j
    rw [bestN]
    cases hb : bestN ns j with
    | none =>
      rw [hb] at ih
      have ih' : ∀ i, i < j → ns.getD i 0 = 0 := ih
      by_cases h : 0 < ns.getD j 0
      · have e : (decide (0 < ns.getD j 0) && heavier ns none j) = true := by rw [decide_eq_true h]; rfl
        rw [if_pos e]
        refine ⟨by omega, h, fun i hi => ?_⟩
        rcases Nat.lt_or_eq_of_le (Nat.le_of_lt_succ hi) with e | e
        · rw [ih' i e]; omega
        · subst e; exact Nat.le_refl _
      · have e : ¬ (decide (0 < ns.getD j 0) && heavier ns none j) = true := by rw [decide_eq_false h]; simp
        rw [if_neg e]
        intro i hi
        rcases Nat.lt_or_eq_of_le (Nat.le_of_lt_succ hi) with e | e
        · exact ih' i e
        · subst e; omega
    | some p =>
      rw [hb] at ih
      obtain ⟨h1, h2, h3⟩ : p < j ∧ 0 < ns.getD p 0 ∧ ∀ i, i < j → ns.getD i 0 ≤ ns.getD p 0 := ih
      by_cases h : ns.getD p 0 < ns.getD j 0
      · have h0 : 0 < ns.getD j 0 := by omega
        have e : (decide (0 < ns.getD j 0) && heavier ns (some p) j) = true := by
          rw [decide_eq_true h0]
          show (true && decide (ns.getD p 0 < ns.getD j 0)) = true
          rw [decide_eq_true h]
          rfl
        rw [if_pos e]
        refine ⟨by omega, h0, fun i hi => ?_⟩
        rcases Nat.lt_or_eq_of_le (Nat.le_of_lt_succ hi) with e | e
        · have := h3 i e; omega
        · subst e; exact Nat.le_refl _
      · have e : ¬ (decide (0 < ns.getD j 0) && heavier ns (some p) j) = true := by
          have : heavier ns (some p) j = false := decide_eq_false h
          rw [this]
          simp
        rw [if_neg e]
        refine ⟨by omega, h2, fun i hi => ?_⟩
        rcases Nat.lt_or_eq_of_le (Nat.le_of_lt_succ hi) with e | e
        · exact h3 i e
        · subst e; omega
/-- The taken parts, put together again. -/
theorem puts_new (m : Mg) : ∀ b : List Mg, (∀ x ∈ b, x.key < m.key) → putM m b = b ++ [m]
  | [], _ => rfl
  | x :: xs, h => by
    have hx := h x (by simp)
    rw [putM, if_neg (fun e => by rw [e] at hx; exact lt_irrefl' hx), if_pos hx, puts_new m xs (fun y hy => h y (by simp [hy]))]
    rfl
theorem ontoAll_self (k : List UInt8) : ∀ ms : List Mg, RisingM ms → ∀ o, ontoAll k ms o = match findM k ms with | none => o | some x => some (x.onto o)
  | [], _, o => rfl
  | y :: ys, hr, o => by
    have hr' := List.pairwise_cons.1 hr
    have ih := ontoAll_self k ys hr'.2
    unfold ontoAll at ih ⊢
    rw [List.filter_cons, findM]
    by_cases hk : y.key = k
    · rw [if_pos (by simp [hk]), if_pos hk]
      have e : ys.filter (fun m => decide (m.key = k)) = [] := by
        rw [List.filter_eq_nil_iff]
        intro x hx
        have := hr'.1 x hx
        simp
        intro e
        rw [hk, e] at this
        exact lt_irrefl' this
      rw [e]
      rfl
    · rw [if_neg (by simp [hk]), if_neg hk]
      exact ih o
theorem ontoAll_append (k : List UInt8) (a b : List Mg) (o : Option Mg) : ontoAll k (a ++ b) o = ontoAll k b (ontoAll k a o) := by
  unfold ontoAll
  rw [List.filter_append, List.foldl_append]
theorem findM_take (r : Rg) (k : List UInt8) : ∀ ms : List Mg, findM k (takeM r ms) = if r.has k then findM k ms else none
  | [] => by simp [takeM, findM]
  | y :: ys => by
    have ih := findM_take r k ys
    unfold takeM at ih ⊢
    rw [List.filter_cons]
    by_cases hy : r.has y.key = true
    · rw [if_pos hy, findM, findM, ih]
      by_cases hk : y.key = k
      · rw [if_pos hk, if_pos hk, if_pos (by rw [← hk]; exact hy)]
      · rw [if_neg hk, if_neg hk]
    · rw [if_neg hy, ih, findM]
      by_cases hk : y.key = k
      · rw [if_neg (by rw [← hk]; exact hy), if_neg (by rw [← hk]; exact hy)]
      · rw [if_neg hk]
/-- What is put together of the first parts has of a key what the buffer has, where one of them has the key. -/
theorem joined_find (k : List UInt8) (ms : List Mg) (hr : RisingM ms) : ∀ rs : List Rg, rs.countP (fun r => r.has k) ≤ 1 → ontoAll k (rs.flatMap fun r => takeM r ms) none = if 0 < rs.countP (fun r => r.has k) then findM k ms else none
  | [], _ => by simp [ontoAll]
  | r :: rs, h => by
    rw [List.flatMap_cons, ontoAll_append, ontoAll_self k _ (takeM_rising r ms hr), findM_take]
    rw [List.countP_cons] at h ⊢
    by_cases hk : r.has k = true
    · simp only [hk, if_true] at h ⊢
      have h0 : rs.countP (fun r => r.has k) = 0 := by omega
      rw [if_pos (by omega)]
      have hrest : ∀ o, ontoAll k (rs.flatMap fun r => takeM r ms) o = o := by
        intro o
        unfold ontoAll
        have e : (rs.flatMap fun r => takeM r ms).filter (fun m => decide (m.key = k)) = [] := by
          rw [List.filter_eq_nil_iff]
          intro x hx
          obtain ⟨q, hq, hxq⟩ := List.mem_flatMap.1 hx
          have h1 := (List.mem_filter.1 hxq).2
          simp
          intro e
          have h2 := List.countP_eq_zero.1 h0 q hq
          rw [← e] at h2
          exact h2 h1
        rw [e]
        rfl
      rw [hrest]
      cases findM k ms <;> rfl
    · have hk0 : r.has k = false := by simpa using hk
      simp only [hk0] at h ⊢
      simp only [Bool.false_eq_true, if_false, Nat.add_zero] at h ⊢
      exact joined_find k ms hr rs h
/-- A buffer's parts, put together again, are the buffer. -/
theorem joined (ps : List (List UInt8)) (hp : Rise [] ps) (ms : List Mg) (hg : GoodM ms) (hr : RisingM ms) : putsM (((Rg.mk [] []).cut ps).flatMap fun r => takeM r ms) [] = ms := by
  have hgf : GoodM (((Rg.mk [] []).cut ps).flatMap fun r => takeM r ms) := fun m hm => by
    obtain ⟨q, _, hq⟩ := List.mem_flatMap.1 hm
    exact hg m (List.mem_filter.1 hq).1
  obtain ⟨h1, h2⟩ := putsM_all _ hgf [] (by intro x hx; simp at hx) (by simp [RisingM])
  refine risingM_ext _ _ h2 hr (fun k => ?_)
  rw [findM_puts k _ hgf [] (by intro x hx; simp at hx) (by simp [RisingM])]
  show ontoAll k _ none = _
  by_cases hk : isK k = true
  · have hk2 : k ≠ [] := by simp [isK] at hk; exact hk.1
    have hc : (((Rg.mk [] []).cut ps).countP fun r => r.has k) = 1 := by
      rw [count_cut _ _ ps hp, if_pos]
      rw [has_iff]
      exact ⟨hk, by simp, .inl rfl⟩
    rw [joined_find k ms hr _ (by omega), if_pos (by omega)]
  · have hnone : findM k ms = none := findM_none (fun x hx e => hk (by rw [← e]; exact good_key hg x hx))
    rw [hnone]
    unfold ontoAll
    have e : (((Rg.mk [] []).cut ps).flatMap fun r => takeM r ms).filter (fun m => decide (m.key = k)) = [] := by
      rw [List.filter_eq_nil_iff]
      intro x hx
      have := good_key hgf x hx
      simp
      intro e
      rw [e] at this
      exact hk this
    rw [e]
    rfl
/-- .. step by step: what is put together of the first j parts. -/
def joinM (rs : List Rg) (ms : List Mg) : List Mg := putsM (rs.flatMap fun r => takeM r ms) []
theorem joinM_take (rs : List Rg) (ms : List Mg) (j : Nat) (hj : j < rs.length) : joinM (rs.take (j + 1)) ms = putsM (takeM rs[j] ms) (joinM (rs.take j) ms) := by
  unfold joinM
  rw [List.take_succ_eq_append_getElem hj, List.flatMap_append, putsM_append]
  simp
/-- What the rest has of a range is what the whole has of it, where no range ahead meets it. -/
theorem take_left (rs : List Rg) (r : Rg) (ms : List Mg) (h : ∀ m ∈ ms, r.has m.key = true → ∀ q ∈ rs, q.has m.key = false) : takeM r (leftM rs ms) = takeM r ms := by
  rw [leftM_eq]
  unfold takeM
  rw [List.filter_filter]
  refine List.filter_congr (fun m hm => ?_)
  by_cases hr : r.has m.key = true
  · have : rs.all (fun q => !q.has m.key) = true := List.all_eq_true.2 (fun q hq => by rw [h m hm hr q hq]; rfl)
    rw [this, hr]
    rfl
  · have : r.has m.key = false := by simpa using hr
    rw [this]
    rfl
theorem once_apart {rs : List Rg} {k : List UInt8} (h : rs.countP (fun r => r.has k) ≤ 1) (j : Nat) (hj : j < rs.length) (hk : rs[j].has k = true) : ∀ q ∈ rs.take j, q.has k = false := by
  intro q hq
  cases hc : q.has k
  · rfl
  · have e : rs = rs.take j ++ rs[j] :: rs.drop (j + 1) := by rw [← List.drop_eq_getElem_cons hj, List.take_append_drop]
    rw [e, List.countP_append, List.countP_cons] at h
    have h1 : 0 < (rs.take j).countP (fun r => r.has k) := List.countP_pos_iff.2 ⟨q, hq, hc⟩
    simp only [hk, if_true] at h
    omega
end Go.Proofs.YtnalillebemglaaGreat
namespace Go.Proofs.YtnalillebemglaaGreat
open Go.RowKit
set_option linter.unusedVariables false

/-- What stands ahead has the lesser rank. -/
def rank (x : Int × Int) : Int := x.1 - x.2 * 4294967296
def rk (ps : List (Int × Int)) (k : Nat) : Int := rank (ps.getD k (0, 0))
/-- The places are few. -/
def FewP (ps : List (Int × Int)) : Prop := ∀ x ∈ ps, 0 ≤ x.1 ∧ x.1 < 4294967296
theorem rank_lt {x y : Int × Int} (hx : 0 ≤ x.1 ∧ x.1 < 4294967296) (hy : 0 ≤ y.1 ∧ y.1 < 4294967296) : decide (rank x < rank y) = if x.2 = y.2 then decide (x.1 < y.1) else decide (y.2 < x.2) := by
  unfold rank
  by_cases e : x.2 = y.2
  · rw [if_pos e, decide_eq_decide, e]; omega
  · rw [if_neg e, decide_eq_decide]; omega
def PpHp (ps : List (Int × Int)) : Prop := ∀ k, 0 < k → k < ps.length → rk ps ((k - 1) / 2) ≤ rk ps k
def swapP (ps : List (Int × Int)) (i j : Nat) : List (Int × Int) := (ps.set i (ps.getD j (0, 0))).set j (ps.getD i (0, 0))
theorem swapP_len (ps : List (Int × Int)) (i j : Nat) : (swapP ps i j).length = ps.length := by simp [swapP]
theorem swapP_at {ps : List (Int × Int)} {i j : Nat} (hi : i < ps.length) (hj : j < ps.length) (k : Nat) : (swapP ps i j).getD k (0, 0) = if k = j then ps.getD i (0, 0) else if k = i then ps.getD j (0, 0) else ps.getD k (0, 0) := by
  rw [swapP, getD_set _ _ _ _ _ (by rw [List.length_set]; exact hj), getD_set _ _ _ _ _ hi]
theorem swapP_rk {ps : List (Int × Int)} {i j : Nat} (hi : i < ps.length) (hj : j < ps.length) (k : Nat) : rk (swapP ps i j) k = if k = j then rk ps i else if k = i then rk ps j else rk ps k := by
  unfold rk
  rw [swapP_at hi hj]
  split
  · rfl
  · split <;> rfl
theorem swapP_perm {ps : List (Int × Int)} {i j : Nat} (hi : i < ps.length) (hj : j < ps.length) : (swapP ps i j).Perm ps := by
  have := List.set_set_perm hi hj
  rw [swapP, getD_lt _ hi, getD_lt _ hj]; exact this
/-- All is right but at j. -/
def PpUp (ps : List (Int × Int)) (j : Nat) : Prop :=
  (∀ k, 0 < k → k < ps.length → k ≠ j → rk ps ((k - 1) / 2) ≤ rk ps k) ∧ (0 < j → ∀ k, 0 < k → k < ps.length → (k - 1) / 2 = j → rk ps ((j - 1) / 2) ≤ rk ps k)
theorem pp_start {ps : List (Int × Int)} (h : PpHp ps) (x : Int × Int) : PpUp (ps ++ [x]) ps.length := by
  have hg : ∀ k, k < ps.length → rk (ps ++ [x]) k = rk ps k := fun k hk => by
    unfold rk
    rw [getD_lt _ (by simp; omega), getD_lt _ hk, List.getElem_append_left hk]
  refine ⟨fun k h0 hk hne => ?_, fun h0 k hk0 hk e => ?_⟩
  · simp at hk
    rw [hg _ (by omega), hg _ (by omega)]
    exact h k h0 (by omega)
  · simp at hk; omega
theorem pp_step {ps : List (Int × Int)} {j : Nat} (h : PpUp ps j) (hj : j < ps.length) (h0 : 0 < j) (hlt : rk ps j < rk ps ((j - 1) / 2)) : PpUp (swapP ps ((j - 1) / 2) j) ((j - 1) / 2) := by
  obtain ⟨h1, h2⟩ := h
  have hi : (j - 1) / 2 < ps.length := by omega
  have hat := swapP_rk hi hj
  refine ⟨fun k k0 hk hne => ?_, fun i0 k k0 hk e => ?_⟩
  · rw [swapP_len] at hk
    rw [hat, hat]
    by_cases kj : k = j
    · subst kj
      rw [if_neg (by omega), if_pos rfl, if_pos rfl]; omega
    · rw [if_neg kj, if_neg hne]
      by_cases p1 : (k - 1) / 2 = j
      · rw [if_pos p1]; exact h2 h0 k k0 hk p1
      · rw [if_neg p1]
        have := h1 k k0 hk kj
        by_cases p2 : (k - 1) / 2 = (j - 1) / 2
        · rw [if_pos p2]; rw [p2] at this; omega
        · rw [if_neg p2]; exact this
  · rw [swapP_len] at hk
    rw [hat, hat, if_neg (by omega), if_neg (by omega)]
    have a1 := h1 ((j - 1) / 2) i0 hi (by omega)
    by_cases kj : k = j
    · rw [if_pos kj]; exact a1
    · rw [if_neg kj, if_neg (by omega)]
      have a2 := h1 k k0 hk kj
      rw [e] at a2
      omega
theorem pp_stop {ps : List (Int × Int)} {j : Nat} (h : PpUp ps j) (hs : j = 0 ∨ ¬ rk ps j < rk ps ((j - 1) / 2)) : PpHp ps := by
  intro k k0 hk
  by_cases kj : k = j
  · subst kj
    rcases hs with hs | hs
    · omega
    · omega
  · exact h.1 k k0 hk kj
theorem pp_min {ps : List (Int × Int)} (h : PpHp ps) : ∀ k, k < ps.length → rk ps 0 ≤ rk ps k := by
  intro k
  induction k using Nat.strongRecOn with
  | _ k ih =>
    intro hk
    by_cases k0 : k = 0
    · subst k0; exact Int.le_refl _
    · have := ih ((k - 1) / 2) (by omega) (by omega)
      have := h k (by omega) hk
      omega

/-- The parts of the first j that have messages. -/
def heavP (ns : List Nat) : Nat → List (Int × Int)
  | 0 => []
  | j + 1 => if 0 < ns.getD j 0 then heavP ns j ++ [((j : Int), (ns.getD j 0 : Int))] else heavP ns j
theorem heavP_len (ns : List Nat) : ∀ j, (heavP ns j).length ≤ j
  | 0 => Nat.le_refl _
  | j + 1 => by
    have := heavP_len ns j
    rw [heavP]
    split
    · rw [List.length_append]; simp; omega
    · omega
theorem heavP_mem (ns : List Nat) (x : Int × Int) : ∀ j, x ∈ heavP ns j ↔ ∃ i : Nat, i < j ∧ 0 < ns.getD i 0 ∧ x = ((i : Int), (ns.getD i 0 : Int))
  | 0 => by simp [heavP]
  | j + 1 => by
    have ih := heavP_mem ns x j
    rw [heavP]
    by_cases h : 0 < ns.getD j 0
    · rw [if_pos h, List.mem_append, ih, List.mem_singleton]
      constructor
      · rintro (⟨i, h1, h2, h3⟩ | h3)
        · exact ⟨i, by omega, h2, h3⟩
        · exact ⟨j, by omega, h, h3⟩
      · rintro ⟨i, h1, h2, h3⟩
        by_cases e : i = j
        · subst e; exact .inr h3
        · exact .inl ⟨i, by omega, h2, h3⟩
    · rw [if_neg h, ih]
      constructor
      · rintro ⟨i, h1, h2, h3⟩; exact ⟨i, by omega, h2, h3⟩
      · rintro ⟨i, h1, h2, h3⟩
        have : i ≠ j := fun e => h (e ▸ h2)
        exact ⟨i, by omega, h2, h3⟩
theorem heavP_few (ns : List Nat) (j : Nat) (hj : j ≤ 1000000) : FewP (heavP ns j) := fun x hx => by
  obtain ⟨i, h1, _, rfl⟩ := (heavP_mem ns x j).1 hx
  simp only
  omega
theorem FewP.perm {a b : List (Int × Int)} (h : FewP a) (hp : b.Perm a) : FewP b := fun x hx => h x (hp.mem_iff.1 hx)
theorem FewP.at {a : List (Int × Int)} (h : FewP a) (k : Nat) (hk : k < a.length) : 0 ≤ (a.getD k (0, 0)).1 ∧ (a.getD k (0, 0)).1 < 4294967296 := by
  rw [getD_lt _ hk]; exact h _ (List.getElem_mem _)
/-- Of several the first. -/
theorem bestN_first (ns : List Nat) : ∀ j p, bestN ns j = some p → ∀ i, i < p → ns.getD i 0 < ns.getD p 0
  | 0, p, h => by simp [bestN] at h
  | j + 1, p, h => by
    rw [bestN] at h
    have ih := bestN_first ns j
    have ok := bestN_ok ns j
    intro i hi
    cases hb : bestN ns j with
    | none =>
      rw [hb] at h ok
      have ok' : ∀ i, i < j → ns.getD i 0 = 0 := ok
      split at h
      · rename_i hc
        injection h with h
        subst h
        rw [ok' i hi]
        simp at hc
        exact hc.1
      · cases h
    | some q =>
      rw [hb] at h ok
      obtain ⟨o1, o2, o3⟩ : q < j ∧ 0 < ns.getD q 0 ∧ ∀ i, i < j → ns.getD i 0 ≤ ns.getD q 0 := ok
      split at h
      · rename_i hc
        injection h with h
        subst h
        have hc2 : ns.getD q 0 < ns.getD j 0 := by
          have := (Bool.and_eq_true _ _ ▸ hc).2
          exact of_decide_eq_true this
        have := o3 i hi
        omega
      · injection h with h
        subst h
        exact ih q hb i hi
/-- The heap's head is the heaviest part. -/
theorem heavP_best (ns : List Nat) (j : Nat) (hj : j ≤ 1000000) (ps : List (Int × Int)) (hp : ps.Perm (heavP ns j)) (hh : PpHp ps) (h0 : 0 < ps.length) : bestZ ns j = (ps.getD 0 (0, 0)).1 := by
  have ok := bestN_ok ns j
  have hm : ps.getD 0 (0, 0) ∈ heavP ns j := hp.mem_iff.1 (by rw [getD_lt _ h0]; exact List.getElem_mem _)
  obtain ⟨i, hi, hn, he⟩ := (heavP_mem ns _ j).1 hm
  have hmin : ∀ q : Nat, q < j → 0 < ns.getD q 0 → rank ((i : Int), (ns.getD i 0 : Int)) ≤ rank ((q : Int), (ns.getD q 0 : Int)) := fun q hq hq0 => by
    have : ((q : Int), (ns.getD q 0 : Int)) ∈ ps := hp.mem_iff.2 ((heavP_mem ns _ j).2 ⟨q, hq, hq0, rfl⟩)
    obtain ⟨t, ht, e⟩ := List.getElem_of_mem this
    have := pp_min hh t ht
    unfold rk at this
    rw [he, getD_lt _ ht, e] at this
    exact this
  rw [he]
  unfold bestZ
  cases hb : bestN ns j with
  | none =>
    rw [hb] at ok
    have ok' : ∀ i, i < j → ns.getD i 0 = 0 := ok
    have := ok' i hi
    omega
  | some p =>
    have hf := bestN_first ns j p hb
    rw [hb] at ok
    obtain ⟨o1, o2, o3⟩ : p < j ∧ 0 < ns.getD p 0 ∧ ∀ i, i < j → ns.getD i 0 ≤ ns.getD p 0 := ok
    have h1 := hmin p o1 o2
    have h2 := o3 i hi
    unfold rank at h1
    simp only at h1
    have : i = p := by
      by_cases hip : i < p
      · have := hf i hip
        omega
      · omega
    subst this
    rfl
theorem heavP_none (ns : List Nat) (j : Nat) (h : heavP ns j = []) : bestZ ns j = -1 := by
  have ok := bestN_ok ns j
  unfold bestZ
  cases hb : bestN ns j with
  | none => rfl
  | some p =>
    rw [hb] at ok
    obtain ⟨o1, o2, o3⟩ : p < j ∧ 0 < ns.getD p 0 ∧ ∀ i, i < j → ns.getD i 0 ≤ ns.getD p 0 := ok
    have := (heavP_mem ns ((p : Int), (ns.getD p 0 : Int)) j).2 ⟨p, o1, o2, rfl⟩
    rw [h] at this
    simp at this

/-- A message that comes in the order of the keys is put at the end. -/
def endM (d : List Mg) (m : Mg) : List Mg := match d.getLast? with
  | none => [m]
  | some x => if x.key = m.key then d.dropLast ++ [x.then m] else d ++ [m]
theorem endM_put (d : List Mg) (m : Mg) (hr : RisingM d) (hu : ∀ x ∈ d, ¬ m.key < x.key) : endM d m = putM m d := by
  unfold endM
  cases hl : d.getLast? with
  | none =>
    rw [List.getLast?_eq_none_iff] at hl
    subst hl
    rfl
  | some x =>
    obtain ⟨ys, rfl⟩ := List.getLast?_eq_some_iff.1 hl
    simp only
    have hlt : ∀ y ∈ ys, y.key < x.key := fun y hy => (List.pairwise_append.1 hr).2.2 y hy x (by simp)
    by_cases he : x.key = m.key
    · rw [if_pos he, List.dropLast_concat]
      have : ∀ zs : List Mg, (∀ y ∈ zs, y.key < m.key) → putM m (zs ++ [x]) = zs ++ [x.then m] := by
        intro zs
        induction zs with
        | nil => intro _; rw [List.nil_append, putM, if_pos he]; rfl
        | cons z zs ih =>
          intro hz
          have h1 := hz z (by simp)
          rw [List.cons_append, putM, if_neg (fun e => by rw [e] at h1; exact lt_irrefl' h1), if_pos h1, ih (fun y hy => hz y (by simp [hy]))]
          rfl
      rw [this ys (fun y hy => he ▸ hlt y hy)]
    · rw [if_neg he]
      have hx : x.key < m.key := by
        have := hu x (by simp)
        exact Classical.byContradiction fun h => he (Classical.byContradiction fun e => by
          rcases lt_or' h (fun e2 => e e2) with h3
          exact this h3)
      rw [puts_new m (ys ++ [x]) (fun y hy => by
        rcases List.mem_append.1 hy with h | h
        · exact lt_trans' (hlt y h) hx
        · rw [List.mem_singleton] at h; subst h; exact hx)]
theorem puts_keys (ms : List Mg) (hms : GoodM ms) : ∀ b, GoodM b → RisingM b → ∀ x ∈ putsM ms b, (∃ m ∈ ms, x.key = m.key) ∨ ∃ y ∈ b, y.key = x.key := by
  induction ms with
  | nil => intro b _ _ x hx; exact .inr ⟨x, hx, rfl⟩
  | cons m ms ih =>
    intro b hb hr x hx
    have hm := hms m (by simp)
    have hms' : GoodM ms := fun y hy => hms y (by simp [hy])
    rcases ih hms' (putM m b) (putM_good m hm b hb) (putM_rising m hm b hb hr) x hx with ⟨y, hy, e⟩ | ⟨y, hy, e⟩
    · exact .inl ⟨y, by simp [hy], e⟩
    · rcases putM_keys m hm b hb y hy with e2 | ⟨z, hz, e2⟩
      · exact .inl ⟨m, by simp, e ▸ e2⟩
      · exact .inr ⟨z, hz, e2.trans e⟩
/-- The first j of sorted messages, each put at the end. -/
theorem endM_take (ys : List Mg) (hg : GoodM ys) (hu : Up Mg.key ys) (j : Nat) (hj : j < ys.length) : endM (putsM (ys.take j) []) ys[j] = putsM (ys.take (j + 1)) [] := by
  have hgt : GoodM (ys.take j) := fun x hx => hg x (List.mem_of_mem_take hx)
  have hr : RisingM (putsM (ys.take j) []) := (putsM_all _ hgt [] (fun _ h => by simp at h) List.Pairwise.nil).2
  rw [endM_put _ _ hr ?_]
  · rw [← List.take_append_getElem hj, putsM_snoc]
  · intro x hx
    rcases puts_keys _ hgt [] (fun _ h => by simp at h) List.Pairwise.nil x hx with ⟨m, hm, e⟩ | ⟨y, hy, _⟩
    · obtain ⟨t, ht, rfl⟩ := List.getElem_of_mem hm
      rw [e, List.getElem_take]
      exact up_at hu hj (by simp at ht; omega)
    · simp at hy
/-- Sorted or not, all messages come to the same. -/
theorem puts_alike (ys ms : List Mg) (hy : GoodM ys) (hm : GoodM ms) (h : Alike Mg.key ys ms) : putsM ys [] = putsM ms [] := by
  have e0 : GoodM ([] : List Mg) := fun _ h => by simp at h
  have r0 : RisingM ([] : List Mg) := List.Pairwise.nil
  refine risingM_ext _ _ (putsM_all ys hy [] e0 r0).2 (putsM_all ms hm [] e0 r0).2 (fun k => ?_)
  rw [findM_puts k ys hy [] e0 r0, findM_puts k ms hm [] e0 r0]
  unfold ontoAll
  rw [h k]
theorem puts_self (b : List Mg) (hr : RisingM b) (hg : GoodM b) : putsM b [] = b := by
  have e0 : GoodM ([] : List Mg) := fun _ h => by simp at h
  have r0 : RisingM ([] : List Mg) := List.Pairwise.nil
  refine risingM_ext _ _ (putsM_all b hg [] e0 r0).2 hr (fun k => ?_)
  rw [findM_puts k b hg [] e0 r0, ontoAll_self k b hr]
  cases h : findM k b <;> simp [findM, Mg.onto]
/-- The buffer's own messages ahead, sorted with the new ones. -/
theorem puts_sorted (b ms ys : List Mg) (hr : RisingM b) (hb : GoodM b) (hm : GoodM ms) (h : Alike Mg.key ys (b ++ ms)) : GoodM ys ∧ putsM ys [] = putsM ms b := by
  have hbm : GoodM (b ++ ms) := fun x hx => (List.mem_append.1 hx).elim (hb x) (hm x)
  have hy : GoodM ys := fun x hx => hbm x (h.mem x hx)
  refine ⟨hy, ?_⟩
  rw [puts_alike ys _ hy hbm h, putsM_append, puts_self b hr hb]

/-- How many messages stand ahead of a range, and how many of it. -/
theorem span_take (r : Rg) (ms : List Mg) (hr : RisingM ms) (hg : GoodM ms) (f s : Nat) (hf : f + s ≤ ms.length)
    (h1 : ∀ t (h : t < ms.length), t < f → ms[t].key < r.lo) (h2 : ∀ (h : f < ms.length), ¬ ms[f].key < r.lo)
    (h3 : ∀ t (h : f + t < ms.length), t < s → r.has ms[f + t].key = true) (h4 : ∀ (h : f + s < ms.length), r.has ms[f + s].key = false) :
    (ms.take (f + s)).drop f = takeM r ms ∧ ms.take f ++ ms.drop (f + s) = dropM r ms := by
  have e1 : ms = ms.take f ++ ((ms.take (f + s)).drop f ++ ms.drop (f + s)) := by
    conv => lhs; rw [← List.take_append_drop (f + s) ms, ← List.take_append_drop f (ms.take (f + s))]
    rw [List.take_take, Nat.min_eq_left (by omega), List.append_assoc]
  have a1 : ∀ x ∈ ms.take f, r.has x.key = false := fun x hx => by
    obtain ⟨t, ht, rfl⟩ := List.getElem_of_mem hx
    rw [List.getElem_take]
    simp at ht
    have := h1 t (by omega) (by omega)
    simp [Rg.has, this]
  have a2 : ∀ x ∈ (ms.take (f + s)).drop f, r.has x.key = true := fun x hx => by
    obtain ⟨t, ht, rfl⟩ := List.getElem_of_mem hx
    simp at ht
    rw [List.getElem_drop, List.getElem_take]
    exact h3 t (by omega) (by omega)
  have a3 : ∀ x ∈ ms.drop (f + s), r.has x.key = false := fun x hx => by
    obtain ⟨t, ht, rfl⟩ := List.getElem_of_mem hx
    simp at ht
    rw [List.getElem_drop]
    have hfs : f + s < ms.length := by omega
    have h5 := h4 hfs
    have hle : ¬ ms[f + s + t].key < ms[f + s].key := by
      by_cases t0 : t = 0
      · subst t0; exact lt_irrefl'
      · have := List.pairwise_iff_getElem.1 hr (f + s) (f + s + t) hfs (by omega) (by omega)
        exact lt_asymm' this
    have hlo : ¬ ms[f + s].key < r.lo := by
      have hff : f < ms.length := by omega
      have := h2 hff
      by_cases s0 : s = 0
      · subst s0; exact this
      · have h6 := List.pairwise_iff_getElem.1 hr f (f + s) hff hfs (by omega)
        intro h7
        exact this (lt_trans' h6 h7)
    have hk : isK ms[f + s].key = true := ((is_iff _).1 (hg _ (List.getElem_mem _))).1
    have hk2 : isK ms[f + s + t].key = true := ((is_iff _).1 (hg _ (List.getElem_mem _))).1
    cases hh : r.has ms[f + s + t].key with
    | false => rfl
    | true =>
      exfalso
      simp [Rg.has, hk, hlo] at h5 hh
      grind
  have f1 : ∀ l : List Mg, (∀ x ∈ l, r.has x.key = false) → takeM r l = [] ∧ dropM r l = l := fun l h => by
    unfold takeM dropM
    exact ⟨List.filter_eq_nil_iff.2 (fun x hx => by simp [h x hx]), List.filter_eq_self.2 (fun x hx => by simp [h x hx])⟩
  have f2 : ∀ l : List Mg, (∀ x ∈ l, r.has x.key = true) → takeM r l = l ∧ dropM r l = [] := fun l h => by
    unfold takeM dropM
    exact ⟨List.filter_eq_self.2 (fun x hx => by simp [h x hx]), List.filter_eq_nil_iff.2 (fun x hx => by simp [h x hx])⟩
  constructor
  · conv => rhs; rw [e1]
    rw [takeM, List.filter_append, List.filter_append]
    have b1 := (f1 _ a1).1
    have b2 := (f2 _ a2).1
    have b3 := (f1 _ a3).1
    unfold takeM at b1 b2 b3
    rw [b1, b2, b3]
    simp
  · conv => rhs; rw [e1]
    rw [dropM, List.filter_append, List.filter_append]
    have b1 := (f1 _ a1).2
    have b2 := (f2 _ a2).2
    have b3 := (f1 _ a3).2
    unfold dropM at b1 b2 b3
    rw [b1, b2, b3]
    simp
end Go.Proofs.YtnalillebemglaaGreat
