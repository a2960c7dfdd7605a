/-
  What Swap and Fuse of package inner do.
  What Fuse of package inner does.
-/
import Derived.Test.YtoobelcphcndoaaGreatInE
namespace Go.Proofs.YtoobelcphcndoaaGreat
open Go.RowKit Go.Sort
set_option linter.unusedVariables false
set_option linter.unusedSimpArgs false
set_option maxRecDepth 20000

theorem three_slices (w : World) (x y z : Value) (t : TypeId) : (w.alloc (.cells #[x, y, z] t)).cell? ⟨w.heap.size, 0, none⟩ = some x ∧ (w.alloc (.cells #[x, y, z] t)).cell? ⟨w.heap.size, 1, none⟩ = some y ∧ (w.alloc (.cells #[x, y, z] t)).cell? ⟨w.heap.size, 2, none⟩ = some z := by
  refine ⟨?_, ?_, ?_⟩ <;> rw [cell_of_block (block_alloc_new w _)] <;> rfl
theorem swapKids_cat (ks : List Int) (i : Nat) (rs : List Int) : ks.take i ++ (rs ++ ks.drop (i + 1)) = swapKids ks i rs := by unfold swapKids; rw [List.append_assoc]
theorem swapPivs_cat (ps : List (List UInt8)) (i : Nat) (ls : List (List UInt8)) : ps.take i ++ (ls.drop 1 ++ ps.drop i) = swapPivs ps i ls := by unfold swapPivs; rw [List.append_assoc]
theorem sl_of_own {w w' : World} {base : Nat} {e : TypeId} {v : Value} {n : Nat} {cs : List Value} (h : w.ownsRow base e 1 v n cs) : ∃ a c, v = .slice a n c ∧ SlAt w a n c cs := owns_row1 h
theorem drop_ints (zs : List Int) (t : Nat) : (intsOf zs).drop t = intsOf (zs.drop t) := by simp [intsOf, List.map_drop]
theorem drop_texts (zs : List (List UInt8)) (t : Nat) : (texts zs).drop t = texts (zs.drop t) := by simp [texts, List.map_drop]
theorem take_ints (zs : List Int) (t : Nat) : (intsOf zs).take t = intsOf (zs.take t) := by simp [intsOf, List.map_take]
theorem take_texts (zs : List (List UInt8)) (t : Nat) : (texts zs).take t = texts (zs.take t) := by simp [texts, List.map_take]
theorem row1_take {w : World} {a : Option Addr} {cs : List Value} (h : RowAt w noF a cs) (t : Nat) : RowAt w noF a (cs.take t) := by
  rcases h with rfl | ⟨b, o, h1, h2, h3⟩
  · left; simp
  · refine .inr ⟨b, o, h1, h2, fun j hj => ?_⟩
    simp at hj
    rw [List.getElem_take]
    exact h3 j (by omega)
theorem row1_drop {w : World} {g off : Nat} {cs : List Value} (h : RowAt w noF (some ⟨g, off, none⟩) cs) (t : Nat) : RowAt w noF (some ⟨g, off + t, none⟩) (cs.drop t) := by
  have := sub_row1 h t cs.length (Nat.le_refl _)
  rw [List.take_length] at this
  exact this
theorem row1_if {w : World} {g off j : Nat} {cs : List Value} (h : RowAt w noF (some ⟨g, off + j, none⟩) cs) (P : Prop) [Decidable P] (hP : P → cs = []) : RowAt w noF (if P then some ⟨g, off, none⟩ else some ⟨g, off + j, none⟩) cs := by
  split
  · rename_i hp
    exact .inl (hP hp)
  · exact h
theorem twos_if {α : Type} {f g : α → Value} {w : World} {b off t : Nat} {xs : List α} (h : TwosAt f g w (some ⟨b, off, none⟩) xs) (P : Prop) [Decidable P] (hP : P → xs.drop t = []) : TwosAt f g w (if P then some ⟨b, off, none⟩ else some ⟨b, off + t * 2, none⟩) (xs.drop t) := by
  split
  · rename_i hp
    exact .inl (hP hp)
  · exact h.drop t
theorem if_some {P : Prop} [Decidable P] {a b : Addr} {c : Nat} (e : (if P then some a else some b) = none) : c = 0 := by
  split at e <;> cases e
end Go.Proofs.YtoobelcphcndoaaGreat
namespace Go.Proofs.YtoobelcphcndoaaGreat
open Go.RowKit Go.Sort
set_option linter.unusedVariables false
set_option linter.unusedSimpArgs false
set_option maxRecDepth 20000

theorem three_slices1 (w : World) (o : Obj) (x y z : Value) (t : TypeId) : ((w.alloc o).alloc (.cells #[x, y, z] t)).cell? ⟨w.heap.size + 1, 0, none⟩ = some x ∧ ((w.alloc o).alloc (.cells #[x, y, z] t)).cell? ⟨w.heap.size + 1, 1, none⟩ = some y ∧ ((w.alloc o).alloc (.cells #[x, y, z] t)).cell? ⟨w.heap.size + 1, 2, none⟩ = some z := by
  have := three_slices (w.alloc o) x y z t
  rw [World.size_alloc] at this
  exact this
theorem one_row (w : World) (x : Int) : RowAt (w.alloc (.cells #[.int .i64 x] 3)) noF (some ⟨w.heap.size, 0, none⟩) (intsOf [x]) := by
  refine .inr ⟨w.heap.size, 0, rfl, fun h => h, fun j hj => ?_⟩
  obtain rfl : j = 0 := by simp [intsOf] at hj; omega
  rw [cell_of_block (block_alloc_new w _)]
  rfl
theorem fuseKids_cat (ks : List Int) (i : Nat) (r : Int) : ks.take i ++ ([r] ++ ks.drop (i + 2)) = fuseKids ks i r := by unfold fuseKids; rw [List.append_assoc]
end Go.Proofs.YtoobelcphcndoaaGreat
