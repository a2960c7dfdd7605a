/-
  What parts, each and Cut do.
  What Cut does.
-/
import Derived.Test.YtnalillebemglaaGreatKeyC
import Derived.Test.YtnalillebemglaaGreatKeyRow
import Derived.Deep.RegionWith
namespace Go.Proofs.YtnalillebemglaaGreat
open Go.RowKit
set_option linter.unusedVariables false
set_option linter.unusedSimpArgs false

theorem info_of {P : Program} {e : TypeId} {z : Value} {s b : Nat} (h : (P.info? e).map (fun i => (i.zero, i.size, i.bytes)) = some (some z, s, b)) : ∃ i, P.info? e = some i ∧ i.zero = some z ∧ i.size = s ∧ i.bytes = b := by
  obtain ⟨i, hi, he⟩ := Option.map_eq_some_iff.1 h
  simp only [Prod.mk.injEq] at he
  exact ⟨i, hi, he.1, he.2.1, he.2.2⟩
theorem pair_row (w : World) (t : TypeId) (a b : Value) (g : Nat) (hg : g = w.heap.size) : ∀ j u, [a, b][j]? = some u → (w.alloc (.cells #[a, b] t)).cell? (Addr.add ⟨g, 0, none⟩ j) = some u := by
  intro j u hj
  subst hg
  rw [Addr.add_lit, Nat.zero_add, cell_of_block (block_alloc_new _ _)]
  rw [← hj, List.getElem?_toArray]

theorem madeCells_len (cs : Array Value) (n : Nat) : (madeCells cs n).toList.length = n := by rw [Array.length_toList, size_madeCells]

end Go.Proofs.YtnalillebemglaaGreat
namespace Go.Proofs.YtnalillebemglaaGreat
open Go.RowKit
set_option linter.unusedVariables false
set_option linter.unusedSimpArgs false

end Go.Proofs.YtnalillebemglaaGreat
