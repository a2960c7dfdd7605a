/-
  Within; half and Parts.
  Parts.
-/
import Derived.Test.YtnalillebemglaaGreatLfG
import Derived.BigRegion
namespace Go.Proofs.YtnalillebemglaaGreat
open Go.RowKit Go.Sort
set_option linter.unusedVariables false
set_option linter.unusedSimpArgs false
set_option maxRecDepth 20000

theorem within_take (r : Rg) (xs : List Rg) (j : Nat) (hj : j < xs.length) : withinL r (xs.take (j + 1)) = withinL r (xs.take j) ++ (if r.has xs[j].lo then [xs[j]] else []) := by
  unfold withinL
  rw [List.take_succ_eq_append_getElem hj, List.filter_append]
  congr 1
  by_cases h : r.has xs[j].lo = true
  · simp [h]
  · simp [h]
theorem within_len (r : Rg) (xs : List Rg) : (withinL r xs).length ≤ xs.length := List.length_filter_le _ _

theorem half_eq (xs : List Rg) (n : Nat) (hn : n ≤ xs.length) (h1 : ∀ m, m < n → 2 * wtL (xs.take m) < wtL xs) (h2 : wtL xs ≤ 2 * wtL (xs.take n)) : halfN xs = n := by
  rcases Nat.lt_trichotomy (halfN xs) n with h | h | h
  · have := h1 _ h
    have := half_ge xs
    omega
  · exact h
  · have := half_lt xs n h
    omega
end Go.Proofs.YtnalillebemglaaGreat
namespace Go.Proofs.YtnalillebemglaaGreat
open Go.RowKit Go.Sort
set_option linter.unusedVariables false
set_option linter.unusedSimpArgs false
set_option maxRecDepth 20000

def ptrs (qs : List Nat) : List Value := qs.map (fun q => Value.pointer (some ⟨q, 0, none⟩))
/-- A leaf whose items lie in block g. -/
def LeafIn (w : World) (g p : Nat) (xs : List Rg) : Prop := ∃ off c, w.heap[p]? = some (.cells #[.slice (some ⟨g, off, none⟩) xs.length c] 86 (0, 0)) ∧ xs.length ≤ c ∧ g < w.heap.size ∧ ∀ j (h : j < xs.length), w.cell? ⟨g, off + j * 2, none⟩ = some (.string (str xs[j].lo)) ∧ w.cell? ⟨g, off + j * 2 + 1, none⟩ = some (.string (str xs[j].hi))
theorem LeafIn.at {w : World} {g p : Nat} {xs : List Rg} (h : LeafIn w g p xs) : LeafAt w p xs := by
  obtain ⟨off, c, h1, h2, h3, h4⟩ := h
  exact ⟨_, c, h1, h2, ⟨(fun e => by cases e), fun ad e => ⟨g, off, (Option.some.inj e).symm, h3⟩⟩, .inr ⟨g, off, rfl, h3, h4⟩⟩
theorem LeafAt.in {w : World} {p : Nat} {xs : List Rg} (h : LeafAt w p xs) (hx : xs ≠ []) : ∃ g, LeafIn w g p xs := by
  obtain ⟨a, c, h1, h2, h3, h4⟩ := h
  rcases h4 with h4 | ⟨g, off, rfl, h5, h6⟩
  · exact absurd h4 hx
  · exact ⟨g, off, c, h1, h2, h5, h6⟩
theorem LeafIn.keep {w w' : World} {F : Nat → Prop} {g p : Nat} {xs : List Rg} (h : LeafIn w g p xs) (hs : Step F w w') (hp : ¬ F p) (hg : ¬ F g) : LeafIn w' g p xs := by
  obtain ⟨off, c, h1, h2, h3, h4⟩ := h
  refine ⟨off, c, (hs.block p (lt_of_block h1) hp).trans h1, h2, Nat.lt_of_lt_of_le h3 hs.size, fun j hj => ?_⟩
  obtain ⟨a1, a2⟩ := h4 j hj
  exact ⟨(hs.cell (p := ⟨g, _, none⟩) hg h3).trans a1, (hs.cell (p := ⟨g, _, none⟩) hg h3).trans a2⟩
theorem LeafIn.step {w w' : World} {g p : Nat} {xs : List Rg} (h : LeafIn w g p xs) (hs : Step noF w w') : LeafIn w' g p xs := h.keep hs (fun x => x) (fun x => x)
theorem LeafIn.lt {w : World} {g p : Nat} {xs : List Rg} (h : LeafIn w g p xs) : p < w.heap.size ∧ g < w.heap.size := by
  obtain ⟨off, c, h1, h2, h3, h4⟩ := h
  exact ⟨lt_of_block h1, h3⟩
/-- A part of a leaf's items, as a leaf. -/
theorem leafIn_part {w w' : World} {g off c p n : Nat} {xs : List Rg} (hs : Step noF w w') (hg : g < w.heap.size) (h : ∀ j (h : j < xs.length), w.cell? ⟨g, off + j * 2, none⟩ = some (.string (str xs[j].lo)) ∧ w.cell? ⟨g, off + j * 2 + 1, none⟩ = some (.string (str xs[j].hi))) (hc : xs.length ≤ c) (hn : n ≤ xs.length) :
    (w'.heap[p]? = some (.cells #[.slice (some ⟨g, off, none⟩) n c] 86 (0, 0)) → LeafIn w' g p (xs.take n)) ∧ (w'.heap[p]? = some (.cells #[.slice (some ⟨g, off + n * 2, none⟩) (xs.length - n) (c - n)] 86 (0, 0)) → LeafIn w' g p (xs.drop n)) := by
  have hc2 : ∀ j (h : j < xs.length), w'.cell? ⟨g, off + j * 2, none⟩ = some (.string (str xs[j].lo)) ∧ w'.cell? ⟨g, off + j * 2 + 1, none⟩ = some (.string (str xs[j].hi)) := fun j hj => ⟨hs.after (h j hj).1, hs.after (h j hj).2⟩
  constructor
  · intro hp
    have e : (xs.take n).length = n := by simp; omega
    refine ⟨off, c, by rw [e]; exact hp, by omega, Nat.lt_of_lt_of_le hg hs.size, fun j hj => ?_⟩
    rw [List.getElem_take]
    exact hc2 j (by omega)
  · intro hp
    have e : (xs.drop n).length = xs.length - n := by simp
    refine ⟨off + n * 2, c - n, by rw [e]; exact hp, by omega, Nat.lt_of_lt_of_le hg hs.size, fun j hj => ?_⟩
    rw [List.getElem_drop]
    have := hc2 (n + j) (by omega)
    rw [show off + (n + j) * 2 = off + n * 2 + j * 2 by omega] at this
    exact this
/-- Leaves, one by one, their items in block g. -/
def LeavesIn (w : World) (g : Nat) (qs : List Nat) (ps : List (List Rg)) : Prop := qs.length = ps.length ∧ ∀ i (h : i < qs.length) (h2 : i < ps.length), LeafIn w g qs[i] ps[i]
theorem LeavesIn.append {w : World} {g : Nat} {qs rs : List Nat} {ps us : List (List Rg)} (h : LeavesIn w g qs ps) (k : LeavesIn w g rs us) : LeavesIn w g (qs ++ rs) (ps ++ us) := by
  refine ⟨by simp [h.1, k.1], fun i h1 h2 => ?_⟩
  have hl := h.1
  by_cases hi : i < qs.length
  · rw [List.getElem_append_left hi, List.getElem_append_left (by omega)]
    exact h.2 i hi (by omega)
  · rw [List.getElem_append_right (by omega), List.getElem_append_right (by omega)]
    have := k.2 (i - qs.length) (by simp at h1; omega) (by simp at h2; omega)
    simpa [hl] using this
theorem LeavesIn.keep {w w' : World} {g : Nat} {F : Nat → Prop} {qs : List Nat} {ps : List (List Rg)} (h : LeavesIn w g qs ps) (hs : Step F w w') (hq : ∀ q ∈ qs, ¬ F q) (hg : ¬ F g) : LeavesIn w' g qs ps := ⟨h.1, fun i h1 h2 => (h.2 i h1 h2).keep hs (hq _ (List.getElem_mem h1)) hg⟩
theorem LeavesIn.lt {w : World} {g : Nat} {qs : List Nat} {ps : List (List Rg)} (h : LeavesIn w g qs ps) : ∀ q ∈ qs, q < w.heap.size := fun q hq => by
  obtain ⟨i, hi, rfl⟩ := List.getElem_of_mem hq
  exact (h.2 i hi (by have := h.1; omega)).lt.1
/-- Leaves, one by one. -/
def Leaves (w : World) (qs : List Nat) (ps : List (List Rg)) : Prop := qs.length = ps.length ∧ ∀ i (h : i < qs.length) (h2 : i < ps.length), LeafAt w qs[i] ps[i]
theorem Leaves.step {w w' : World} {qs : List Nat} {ps : List (List Rg)} (h : Leaves w qs ps) (hs : Step noF w w') : Leaves w' qs ps := ⟨h.1, fun i h1 h2 => (h.2 i h1 h2).step hs⟩
theorem Leaves.append {w : World} {qs rs : List Nat} {ps us : List (List Rg)} (h : Leaves w qs ps) (k : Leaves w rs us) : Leaves w (qs ++ rs) (ps ++ us) := by
  refine ⟨by simp [h.1, k.1], fun i h1 h2 => ?_⟩
  have hl := h.1
  by_cases hi : i < qs.length
  · rw [List.getElem_append_left hi, List.getElem_append_left (by omega)]
    exact h.2 i hi (by omega)
  · rw [List.getElem_append_right (by omega), List.getElem_append_right (by omega)]
    have := k.2 (i - qs.length) (by simp at h1; omega) (by simp at h2; omega)
    simpa [hl] using this
theorem ptrs_one (qs : List Nat) : ∀ u ∈ ptrs qs, u.oneCell' = true := by
  intro u hu
  simp only [ptrs, List.mem_map] at hu
  obtain ⟨x, _, rfl⟩ := hu
  rfl
/-- No more parts than items. -/
theorem parts_count (xs : List Rg) (hx : xs ≠ []) (hok : ∀ x ∈ xs, itOk x = true) : (partsIt xs).length ≤ xs.length := by
  obtain ⟨a1, a2, a3, a4⟩ := parts_good xs.length xs (Nat.le_refl _) hok
  have h : ∀ p ∈ partsIt xs, 1 ≤ p.length := fun p hp => List.length_pos_iff.2 ((a2 p hp).2 hx)
  have key : ∀ ps : List (List Rg), (∀ p ∈ ps, 1 ≤ p.length) → ps.length ≤ ps.flatten.length := by
    intro ps
    induction ps with
    | nil => intro _; simp
    | cons p ps ih =>
      intro hp
      have h1 := hp p (by simp)
      have h2 := ih (fun q hq => hp q (by simp [hq]))
      rw [List.flatten_cons, List.length_append, List.length_cons]
      omega
  have := key _ h
  rw [a1] at this
  exact this
theorem infoPt0 : (Tryz.prog.info? 51).map (fun i => (i.zero, i.size, i.bytes)) = some (some (.pointer none), 1, 8) := by kernel_rfl
/-- What Parts answers, the items lying in block g. -/
def PartsIn (w : World) (g p : Nat) (ps : List (List Rg)) (e : Ending) (w' : World) : Prop := ∃ v qs, e = .returned v ∧ w'.ownsRow w.heap.size 51 1 v qs.length (ptrs qs) ∧ LeavesIn w' g qs ps ∧ (∀ q ∈ qs, (q = p ∨ w.heap.size ≤ q) ∧ v.ownBlock ≠ some q) ∧ Step noF w w'
/-- What Parts answers. -/
def PartsPost (w : World) (ps : List (List Rg)) (e : Ending) (w' : World) : Prop := ∃ v qs, e = .returned v ∧ w'.ownsRow w.heap.size 51 1 v qs.length (ptrs qs) ∧ Leaves w' qs ps ∧ Step noF w w'
theorem owns_up {w : World} {base : Nat} {e : TypeId} {size : Nat} {v : Value} {n : Nat} {xs : List Value} (h : w.ownsRow 0 e size v n xs) (hb : ∀ k, v.ownBlock = some k → base ≤ k) : w.ownsRow base e size v n xs := by
  refine ⟨h.1, ?_⟩
  rcases h.2 with h | ⟨g, cap, cur, rfl, _, h2⟩
  · exact .inl h
  · exact .inr ⟨g, cap, cur, rfl, hb g rfl, h2⟩
end Go.Proofs.YtnalillebemglaaGreat
