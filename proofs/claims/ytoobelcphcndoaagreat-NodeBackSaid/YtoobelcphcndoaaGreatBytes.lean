/-
  '[]byte(s)' and 'string(b)' of what it laid. Nothing of the program is named here.
-/
import Derived.Test.YtoobelcphcndoaaGreatFrame
import Derived.Laws.IdiomStrings
namespace Go.Proofs.YtoobelcphcndoaaGreat
open Go.RowKit
set_option linter.unusedVariables false

theorem run_string_pre {P : Program} (w : World) (src dst e bt : TypeId) (fz : Nat × Nat) (hs : P.underlying src = some (.slice e)) (he : P.underlying e = some (.int .u8)) (hd : P.underlying dst = some .string) (g cap n : Nat) (A : Array Value) (bs : List UInt8) (rest : List Value) (hg : w.heap[g]? = some (.cells A bt fz))
    (hA : A.toList = cellsOf bs ++ rest) (hn : n = bs.length) : (convert src dst (.slice (some ⟨g, 0, none⟩) n cap)).run P w = .ok (.string (str bs)) w := by
  subst hn
  refine run_convert_bytes_back w src dst e ⟨g, 0, none⟩ cap bs hs he hd (fun j hj => ?_)
  rw [Addr.add_lit, Nat.zero_add, cell_of_block hg]
  rw [← Array.getElem?_toList, hA, List.getElem?_append_left (by rw [cellsOf_length]; exact hj)]
  simp [cellsOf, List.getElem?_eq_getElem hj]

/-- '[]byte(s)': a new block with the bytes, and what is spare. -/
theorem conv_bytes {P : Program} (src dst e : TypeId) (hs : P.underlying src = some .string) (hd : P.underlying dst = some (.slice e)) (he : P.underlying e = some (.int .u8)) (s : ByteArray) (w : World) :
    ∃ cap A fz wc rest, (convert src dst (.string s)).run P w = .ok (.slice (some ⟨w.heap.size, 0, none⟩) s.size cap) wc ∧ Step noF w wc ∧ wc.heap[w.heap.size]? = some (.cells A e fz) ∧ A.toList = cellsOf s.data.toList ++ rest ∧
      ∀ j, j < s.size → wc.frozen? ⟨w.heap.size, j, none⟩ = false := by
  refine ⟨_, _, _, _, List.replicate (grownCap w s.size 0 e - s.size) (.int .u8 0), run_bytes_of_string w src dst e s hs hd he, ((Step.refl noF w).drew).alloc _, block_alloc_new w.drew _, ?_, fun j hj => ?_⟩
  · simp [bytesRow, cellsOf]
  · have hb := block_alloc_new w.drew (.cells (bytesRow s (grownCap w s.size 0 e)) e ((bytesRow s (grownCap w s.size 0 e)).size, (bytesRow s (grownCap w s.size 0 e)).size + 1))
    have hz : s.size ≤ (bytesRow s (grownCap w s.size 0 e)).size := by simp [bytesRow]
    have hb' : (w.drew.alloc (.cells (bytesRow s (grownCap w s.size 0 e)) e ((bytesRow s (grownCap w s.size 0 e)).size, (bytesRow s (grownCap w s.size 0 e)).size + 1))).heap[w.heap.size]? = _ := hb
    unfold World.frozen?
    rw [hb']
    simp
    omega
end Go.Proofs.YtoobelcphcndoaaGreat
