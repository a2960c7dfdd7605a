/-
  The contracts of package crc with their results by equation; rows of texts that a literal has just laid.
-/
import Derived.Test.YtdlgacbmfhkamaaDoorCrcD
namespace Go.Proofs.YtdlgacbmfhkamaaDoor
open Go.RowKit
set_option linter.unusedVariables false

theorem strs1 (w : World) (t : TypeId) (g : Nat) (hg : g = w.heap.size) (x : ByteArray) : RowAt (w.alloc (.cells #[.string x] t)) noF (some ⟨g, 0, none⟩) (strsOf [x]) := rowAt_new w noF (fun _ h => h.elim) _ t g hg _ rfl
theorem strs2 (w : World) (t : TypeId) (g : Nat) (hg : g = w.heap.size) (x y : ByteArray) : RowAt (w.alloc (.cells #[.string x, .string y] t)) noF (some ⟨g, 0, none⟩) (strsOf [x, y]) := rowAt_new w noF (fun _ h => h.elim) _ t g hg _ rfl
theorem strs3 (w : World) (t : TypeId) (g : Nat) (hg : g = w.heap.size) (x y z : ByteArray) : RowAt (w.alloc (.cells #[.string x, .string y, .string z] t)) noF (some ⟨g, 0, none⟩) (strsOf [x, y, z]) := rowAt_new w noF (fun _ h => h.elim) _ t g hg _ rfl

theorem text_call (n : Nat) (hn : n < 4294967296) (w : World) (r : ByteArray) (h : str (hx 8 n) = r) :
    Calls Tryd.prog 11 #[.int .u32 n] w fun e w' => e = .returned (.string r) ∧ Step noF w w' := by
  subst h
  exact text_any n hn w
theorem refText_call (n : Nat) (hn : n < 4294967296) (w : World) (r : ByteArray) (h : str (hx 8 n) = r) :
    Calls Tryd.prog 12 #[.int .u32 n] w fun e w' => e = .returned (.string r) ∧ w = w' := by
  subst h
  exact refText_any n hn w
end Go.Proofs.YtdlgacbmfhkamaaDoor
