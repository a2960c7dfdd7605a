/-
  A row at the head of a block; rows of bools; rows of pairs of numbers. Nothing of the program is named here.
-/
import Derived.Test.YtoobelcphcndoaaGreatFrame
namespace Go.Proofs.YtoobelcphcndoaaGreat
open Go.RowKit
set_option linter.unusedVariables false

def bools (ks : List Bool) : List Value := ks.map Value.bool
theorem bools_length (l : List Bool) : (bools l).length = l.length := by simp [bools]
theorem bools_at (l : List Bool) (j : Nat) (h : j < (bools l).length) : (bools l)[j] = .bool (l[j]'(by simpa [bools] using h)) := by simp [bools]
theorem bools_set (l : List Bool) (j : Nat) (b : Bool) : (bools l).set j (.bool b) = bools (l.set j b) := by simp [bools, List.map_set]

theorem cell_alloc {w : World} {a : Addr} {v : Value} (h : w.cell? a = some v) (o : Obj) : (w.alloc o).cell? a = some v :=
  (World.cell?_of_block (w := w) (Below.heap_alloc w o _ (World.block_lt_of_cell? w _ h))).trans h
theorem Step.after {w w' : World} (h : Step noF w w') {a : Addr} {v : Value} (hc : w.cell? a = some v) : w'.cell? a = some v :=
  (h.cell (p := a) (fun x => x) (World.block_lt_of_cell? w _ hc)).trans hc

/-- A row at the head of a block. -/
def RowIn (w : World) (g : Nat) (e : TypeId) (xs : List Value) : Prop := ∃ (A : Array Value) (rest : List Value), w.heap[g]? = some (.cells A e (0, 0)) ∧ A.toList = xs ++ rest
theorem RowIn.lt {w : World} {g : Nat} {e : TypeId} {xs : List Value} (h : RowIn w g e xs) : g < w.heap.size := by obtain ⟨A, r, h, _⟩ := h; exact lt_of_block h
theorem RowIn.cell {w : World} {g : Nat} {e : TypeId} {xs : List Value} (h : RowIn w g e xs) (j : Nat) (hj : j < xs.length) : w.cell? ⟨g, j, none⟩ = some xs[j] := by
  obtain ⟨A, r, h, hA⟩ := h
  rw [cell_of_block h, ← Array.getElem?_toList, hA, List.getElem?_append_left hj, List.getElem?_eq_getElem hj]
theorem RowIn.f {w : World} {g : Nat} {e : TypeId} {xs : List Value} (h : RowIn w g e xs) (j : Nat) : w.frozen? ⟨g, j, none⟩ = false := by
  obtain ⟨A, r, h, hA⟩ := h
  exact frozen_of_block h j
theorem RowIn.set {w : World} {g : Nat} {e : TypeId} {xs : List Value} (h : RowIn w g e xs) (j : Nat) (hj : j < xs.length) (v : Value) : RowIn (w.setCell ⟨g, j, none⟩ v) g e (xs.set j v) := by
  obtain ⟨A, r, h, hA⟩ := h
  refine ⟨_, r, block_setCell h j v, ?_⟩
  rw [Array.toList_setIfInBounds, hA, List.set_append_left _ _ hj]
theorem RowIn.keep {w w' : World} {g : Nat} {e : TypeId} {xs : List Value} (h : RowIn w g e xs) (hb : w'.heap[g]? = w.heap[g]?) : RowIn w' g e xs := by
  obtain ⟨A, r, h, hA⟩ := h
  exact ⟨A, r, hb.trans h, hA⟩
theorem RowIn.step {w w' : World} {F : Nat → Prop} {g : Nat} {e : TypeId} {xs : List Value} (h : RowIn w g e xs) (hs : Step F w w') (hF : ¬ F g) : RowIn w' g e xs := h.keep (hs.block g h.lt hF)
/-- Blocks of unlike types are unlike blocks. -/
theorem RowIn.ne {w : World} {g p : Nat} {e t : TypeId} {xs : List Value} {A : Array Value} {f : Nat × Nat} (h : RowIn w g e xs) (hp : w.heap[p]? = some (.cells A t f)) (he : e ≠ t) : g ≠ p := by
  rintro rfl
  obtain ⟨B, r, h, _⟩ := h
  rw [h] at hp
  injection hp with hp
  injection hp with _ hp _
  exact he hp
theorem rowIn_owns {w : World} {e : TypeId} {v : Value} {n : Nat} {xs : List Value} (h : w.ownsRow 0 e 1 v n xs) (hn : 0 < n) : ∃ g c, v = .slice (some ⟨g, 0, none⟩) n c ∧ n ≤ c ∧ RowIn w g e xs ∧ v.ownBlock = some g := by
  rcases h.2 with ⟨_, h0⟩ | ⟨g, cap, cur, rfl, _, hh, hnc, _, _, ht⟩
  · omega
  · refine ⟨g, cap, rfl, hnc, ⟨cur, cur.toList.drop xs.length, hh, ?_⟩, rfl⟩
    have hl := h.1
    rw [Nat.mul_one] at hl
    conv => lhs; rw [← List.take_append_drop xs.length cur.toList]
    rw [hl] at *
    rw [← ht]
    simp
theorem owns_keep {w w' : World} {base : Nat} {e : TypeId} {size : Nat} {v : Value} {n : Nat} {xs : List Value} (h : w.ownsRow base e size v n xs) (hb : ∀ k, v.ownBlock = some k → w'.heap[k]? = w.heap[k]?) : w'.ownsRow base e size v n xs := by
  refine ⟨h.1, ?_⟩
  rcases h.2 with x | ⟨g, cap, cur, rfl, hg, hh, rest⟩
  · exact .inl x
  · exact .inr ⟨g, cap, cur, rfl, hg, (hb g rfl).trans hh, rest⟩
theorem rowAt_keep {w w' : World} {F G : Nat → Prop} {a : Option Addr} {cs : List Value} (h : RowAt w F a cs) (hb : ∀ k, k < w.heap.size → ¬ F k → w'.heap[k]? = w.heap[k]? ∧ ¬ G k) : RowAt w' G a cs := by
  rcases h with h | ⟨b, off, h1, hF, h3⟩
  · exact .inl h
  · by_cases h0 : cs = []
    · exact .inl h0
    · have hl : 0 < cs.length := List.length_pos_iff.2 h0
      have hbl : b < w.heap.size := World.block_lt_of_cell? w _ (h3 0 hl)
      obtain ⟨e1, e2⟩ := hb b hbl hF
      exact .inr ⟨b, off, h1, e2, fun j hj => (World.cell?_of_block (w := w) e1).trans (h3 j hj)⟩
theorem RowIn.rowAt {w : World} {g : Nat} {e : TypeId} {xs : List Value} (h : RowIn w g e xs) : RowAt w noF (some ⟨g, 0, none⟩) xs :=
  .inr ⟨g, 0, rfl, fun h => h, fun j hj => by rw [Nat.zero_add]; exact h.cell j hj⟩
/-- One cell of a row of one's own is turned. -/
theorem owns_put {w : World} {base : Nat} {e : TypeId} {size : Nat} {n g c : Nat} {xs : List Value} (h : w.ownsRow base e size (.slice (some ⟨g, 0, none⟩) n c) n xs) (j : Nat) (hj : j < xs.length) (v : Value) : (w.setCell ⟨g, j, none⟩ v).ownsRow base e size (.slice (some ⟨g, 0, none⟩) n c) n (xs.set j v) := by
  refine ⟨by rw [List.length_set]; exact h.1, ?_⟩
  rcases h.2 with ⟨x, _⟩ | ⟨g', cap, cur, hv, hg, hh, hnc, hcm, hcs, htake⟩
  · cases x
  · injection hv with h1 _ h3
    injection h1 with h1
    injection h1 with h1 _ _
    subst h1 h3
    refine .inr ⟨g, c, cur.setIfInBounds j v, rfl, hg, block_setCell hh j v, hnc, hcm, by rw [Array.size_setIfInBounds]; exact hcs, ?_⟩
    rw [Array.toList_setIfInBounds, List.take_set, htake]

/-- Pairs of numbers as cells. -/
def pairs (xs : List (Int × Int)) : List Value := xs.flatMap fun x => [Value.int .i64 x.1, .int .i64 x.2]
theorem pairs_length (xs : List (Int × Int)) : (pairs xs).length = xs.length * 2 := by
  induction xs with
  | nil => rfl
  | cons x xs ih => simp [pairs] at ih ⊢; omega
theorem pairs_append (a b : List (Int × Int)) : pairs (a ++ b) = pairs a ++ pairs b := by simp [pairs]
theorem pairs_at (xs : List (Int × Int)) (j : Nat) (h : j < xs.length) : (pairs xs)[2 * j]? = some (.int .i64 xs[j].1) ∧ (pairs xs)[2 * j + 1]? = some (.int .i64 xs[j].2) := by
  induction xs generalizing j with
  | nil => simp at h
  | cons x xs ih =>
    cases j with
    | zero => simp [pairs]
    | succ j =>
      have := ih j (by simpa using h)
      simp only [pairs, List.flatMap_cons] at this ⊢
      rw [show 2 * (j + 1) = 2 * j + 2 by omega]
      simpa using this
theorem pairs_set2 (xs : List (Int × Int)) (j : Nat) (z : Int) (h : j < xs.length) : (pairs xs).set (2 * j + 1) (.int .i64 z) = pairs (xs.set j (xs[j].1, z)) := by
  induction xs generalizing j with
  | nil => simp at h
  | cons x xs ih =>
    cases j with
    | zero => simp [pairs]
    | succ j =>
      have := ih j (by simpa using h)
      simp only [pairs, List.flatMap_cons, List.set_cons_succ] at this ⊢
      rw [show 2 * (j + 1) + 1 = (2 * j + 1) + 1 + 1 by omega]
      simpa using this
/-- A row of pairs in memory. -/
def ExtAt (w : World) (a : Option Addr) (xs : List (Int × Int)) : Prop :=
  xs = [] ∨ ∃ b off, a = some ⟨b, off, none⟩ ∧ b < w.heap.size ∧ ∀ j (h : j < xs.length), w.cell? ⟨b, off + j * 2, none⟩ = some (.int .i64 xs[j].1) ∧ w.cell? ⟨b, off + j * 2 + 1, none⟩ = some (.int .i64 xs[j].2)
theorem ExtAt.keep {w w' : World} {a : Option Addr} {xs : List (Int × Int)} {F : Nat → Prop} (h : ExtAt w a xs) (hs : Step F w w') (hF : ∀ b off, a = some ⟨b, off, none⟩ → b < w.heap.size → ¬ F b) : ExtAt w' a xs := by
  rcases h with h | ⟨b, off, rfl, hb, h⟩
  · exact .inl h
  · refine .inr ⟨b, off, rfl, Nat.lt_of_lt_of_le hb hs.size, fun j hj => ?_⟩
    obtain ⟨h1, h2⟩ := h j hj
    exact ⟨(hs.cell (p := ⟨b, off + j * 2, none⟩) (hF b off rfl hb) hb).trans h1, (hs.cell (p := ⟨b, off + j * 2 + 1, none⟩) (hF b off rfl hb) hb).trans h2⟩
theorem ExtAt.step {w w' : World} {a : Option Addr} {xs : List (Int × Int)} (h : ExtAt w a xs) (hs : Step noF w w') : ExtAt w' a xs := h.keep hs (fun _ _ _ _ x => x)
theorem ExtAt.at {w : World} {a : Option Addr} {xs : List (Int × Int)} (h : ExtAt w a xs) (j : Nat) (hj : j < xs.length) : ∃ b off, a = some ⟨b, off, none⟩ ∧ w.cell? ⟨b, off + j * 2, none⟩ = some (.int .i64 xs[j].1) ∧ w.cell? ⟨b, off + j * 2 + 1, none⟩ = some (.int .i64 xs[j].2) := by
  rcases h with rfl | ⟨b, off, rfl, hb, h⟩
  · simp at hj
  · exact ⟨b, off, rfl, h j hj⟩
theorem extAt_owns {w : World} {e : TypeId} {v : Value} {n : Nat} {xs : List (Int × Int)} (h : w.ownsRow 0 e 2 v n (pairs xs)) (hn : n = xs.length) : ∃ a c, v = .slice a n c ∧ n ≤ c ∧ ExtAt w a xs := by
  subst hn
  rcases h.2 with ⟨rfl, h0⟩ | ⟨g, cap, cur, rfl, _, hg, hnc, _⟩
  · exact ⟨none, 0, by rw [h0], by omega, .inl (List.eq_nil_of_length_eq_zero h0)⟩
  · refine ⟨some ⟨g, 0, none⟩, cap, rfl, hnc, .inr ⟨g, 0, rfl, lt_of_block hg, fun j hj => ?_⟩⟩
    obtain ⟨h1, h2⟩ := pairs_at xs j hj
    have e1 := h.cells (g := g) rfl _ _ h1
    have e2 := h.cells (g := g) rfl _ _ h2
    rw [Addr.add_lit, Nat.zero_add, Nat.mul_comm] at e1 e2
    exact ⟨by rw [Nat.zero_add]; exact e1, by rw [Nat.zero_add]; exact e2⟩
theorem extAt_new (w : World) (cs : Array Value) (t : TypeId) (xs : List (Int × Int)) (h : cs.toList = pairs xs) : ExtAt (w.alloc (.cells cs t)) (some ⟨w.heap.size, 0, none⟩) xs := by
  refine .inr ⟨w.heap.size, 0, rfl, by simp, fun j hj => ?_⟩
  obtain ⟨h1, h2⟩ := pairs_at xs j hj
  rw [cell_of_block (block_alloc_new w _), cell_of_block (block_alloc_new w _), ← Array.getElem?_toList, ← Array.getElem?_toList, h, Nat.zero_add, Nat.mul_comm]
  exact ⟨h1, h2⟩
end Go.Proofs.YtoobelcphcndoaaGreat
