/-
  Rows of ranges, rows of texts. Nothing of the program is named here.
-/
import Derived.Test.YtnalillebemglaaGreatKeyM
import Derived.Test.YtnalillebemglaaGreatRowIn
namespace Go.Proofs.YtnalillebemglaaGreat
open Go.RowKit
set_option linter.unusedVariables false

def rgs (rs : List Rg) : List Value := rs.flatMap fun r => [.string (str r.lo), .string (str r.hi)]
theorem rgs_length (rs : List Rg) : (rgs rs).length = rs.length * 2 := by
  induction rs with
  | nil => rfl
  | cons x xs ih => simp [rgs] at ih ⊢; omega
theorem rgs_append (a b : List Rg) : rgs (a ++ b) = rgs a ++ rgs b := by simp [rgs]
theorem rgs_at (rs : List Rg) (j : Nat) (h : j < rs.length) : (rgs rs)[j * 2]? = some (.string (str rs[j].lo)) ∧ (rgs rs)[j * 2 + 1]? = some (.string (str rs[j].hi)) := by
  induction rs generalizing j with
  | nil => simp at h
  | cons x xs ih =>
    cases j with
    | zero => simp [rgs]
    | succ j =>
      have := ih j (by simpa using h)
      simp only [rgs, List.flatMap_cons] at this ⊢
      rw [show (j + 1) * 2 = j * 2 + 2 by omega]
      simpa using this
/-- A row of ranges in memory. -/
def RgsAt (w : World) (a : Option Addr) (rs : List Rg) : Prop :=
  rs = [] ∨ ∃ b off, a = some ⟨b, off, none⟩ ∧ b < w.heap.size ∧ ∀ j (h : j < rs.length), w.cell? ⟨b, off + j * 2, none⟩ = some (.string (str rs[j].lo)) ∧ w.cell? ⟨b, off + j * 2 + 1, none⟩ = some (.string (str rs[j].hi))
theorem RgsAt.step {w w' : World} {a : Option Addr} {rs : List Rg} (h : RgsAt w a rs) (hs : Step noF w w') : RgsAt w' a rs := by
  rcases h with h | ⟨b, off, rfl, hb, h⟩
  · exact .inl h
  · refine .inr ⟨b, off, rfl, Nat.lt_of_lt_of_le hb hs.size, fun j hj => ?_⟩
    obtain ⟨h1, h2⟩ := h j hj
    exact ⟨hs.after h1, hs.after h2⟩
theorem RgsAt.at {w : World} {a : Option Addr} {rs : List Rg} (h : RgsAt w a rs) (j : Nat) (hj : j < rs.length) : ∃ b off, a = some ⟨b, off, none⟩ ∧ w.cell? ⟨b, off + j * 2, none⟩ = some (.string (str rs[j].lo)) ∧ w.cell? ⟨b, off + j * 2 + 1, none⟩ = some (.string (str rs[j].hi)) := by
  rcases h with rfl | ⟨b, off, rfl, hb, h⟩
  · simp at hj
  · exact ⟨b, off, rfl, h j hj⟩
theorem rgsAt_block {w : World} {g : Nat} {e : TypeId} {f : Nat × Nat} {A : Array Value} {rs : List Rg} {rest : List Value} (hg : w.heap[g]? = some (.cells A e f)) (hA : A.toList = rgs rs ++ rest) : RgsAt w (some ⟨g, 0, none⟩) rs := by
  refine .inr ⟨g, 0, rfl, lt_of_block hg, fun j hj => ?_⟩
  obtain ⟨h1, h2⟩ := rgs_at rs j hj
  have hl := rgs_length rs
  rw [cell_of_block hg, cell_of_block hg, ← Array.getElem?_toList, ← Array.getElem?_toList, hA, Nat.zero_add, List.getElem?_append_left (by omega), List.getElem?_append_left (by omega)]
  exact ⟨h1, h2⟩
theorem rgsAt_owns {w : World} {e : TypeId} {v : Value} {n : Nat} {rs : List Rg} (h : w.ownsRow 0 e 2 v n (rgs rs)) (hn : n = rs.length) : ∃ a c, v = .slice a n c ∧ n ≤ c ∧ RgsAt w a rs := by
  subst hn
  rcases h.2 with ⟨rfl, h0⟩ | ⟨g, cap, cur, rfl, _, hg, hnc, _, _, ht⟩
  · exact ⟨none, 0, by rw [h0], by omega, .inl (List.eq_nil_of_length_eq_zero h0)⟩
  · refine ⟨some ⟨g, 0, none⟩, cap, rfl, hnc, rgsAt_block hg (rest := cur.toList.drop (rs.length * 2)) ?_⟩
    rw [← ht, List.take_append_drop]

def texts (ps : List (List UInt8)) : List Value := ps.map fun p => .string (str p)
theorem texts_at {w : World} {F : Nat → Prop} {a : Option Addr} {ps : List (List UInt8)} (h : RowAt w F a (texts ps)) (j : Nat) (hj : j < ps.length) : ∃ b off, a = some ⟨b, off, none⟩ ∧ w.cell? ⟨b, off + j, none⟩ = some (.string (str ps[j])) := RowAt.at (f := fun p => Value.string (str p)) h j hj

/-- A row that is being filled. -/
def FillAt (w : World) (g : Nat) (e : TypeId) (rs : List Rg) (n : Nat) : Prop := ∃ (A : Array Value) (rest : List Value), w.heap[g]? = some (.cells A e (0, 0)) ∧ A.toList = rgs rs ++ rest ∧ rest.length + rs.length * 2 = n * 2
theorem FillAt.step {w w' : World} {g : Nat} {e : TypeId} {rs : List Rg} {n : Nat} (h : FillAt w g e rs n) (hs : Step noF w w') : FillAt w' g e rs n := by
  obtain ⟨A, rest, h1, h2, h3⟩ := h
  exact ⟨A, rest, (hs.block g (lt_of_block h1) (fun x => x)).trans h1, h2, h3⟩
theorem FillAt.old {w : World} {g : Nat} {e : TypeId} {rs : List Rg} {n : Nat} (h : FillAt w g e rs n) (hj : rs.length < n) : ∃ x y, w.cell? ⟨g, rs.length * 2, none⟩ = some x ∧ w.cell? ⟨g, rs.length * 2 + 1, none⟩ = some y ∧ w.frozen? ⟨g, rs.length * 2, none⟩ = false ∧ w.frozen? ⟨g, rs.length * 2 + 1, none⟩ = false := by
  obtain ⟨A, rest, h1, h2, h3⟩ := h
  have hl := rgs_length rs
  have hs : A.size = n * 2 := by rw [← Array.length_toList, h2, List.length_append]; omega
  refine ⟨A[rs.length * 2]'(by omega), A[rs.length * 2 + 1]'(by omega), ?_, ?_, frozen_of_block h1 _, frozen_of_block h1 _⟩
  · rw [cell_of_block h1, Array.getElem?_eq_getElem]
  · rw [cell_of_block h1, Array.getElem?_eq_getElem]
theorem FillAt.put {w : World} {g : Nat} {e : TypeId} {rs : List Rg} {n : Nat} (h : FillAt w g e rs n) (hj : rs.length < n) (r : Rg) (j : Nat) (hjj : j = rs.length) : FillAt ((w.setCell ⟨g, j * 2, none⟩ (.string (str r.lo))).setCell ⟨g, j * 2 + 1, none⟩ (.string (str r.hi))) g e (rs ++ [r]) n := by
  subst hjj
  obtain ⟨A, rest, h1, h2, h3⟩ := h
  have hl := rgs_length rs
  obtain ⟨x, y, rest', rfl⟩ : ∃ x y rest', rest = x :: y :: rest' := by
    match rest, h3 with
    | [], h => simp at h; omega
    | [x], h => simp at h; omega
    | x :: y :: r, _ => exact ⟨x, y, r, rfl⟩
  refine ⟨_, rest', block_setCell (block_setCell h1 _ _) _ _, ?_, ?_⟩
  · rw [Array.toList_setIfInBounds, Array.toList_setIfInBounds, h2, List.set_append_right _ _ (by omega), hl, Nat.sub_self, List.set_append_right _ _ (by omega), hl]
    rw [show rs.length * 2 + 1 - rs.length * 2 = 1 by omega, rgs_append]
    simp [rgs]
  · simp only [List.length_cons] at h3
    simp
    omega
end Go.Proofs.YtnalillebemglaaGreat
