/-
  What Next does, of the program and of the reference.
  What the reference's Next does, and whether a range is empty, of both.
-/
import Derived.Test.YtnalillebemglaaGreatKeyM
import Derived.Test.YtnalillebemglaaGreatFrame
import Derived.Test.YtnalillebemglaaGreatPenE
import Derived.BigRegion
import Derived.Test.YtnalillebemglaaGreatRowIn
namespace Go.Proofs.YtnalillebemglaaGreat
open Go.RowKit
set_option linter.unusedVariables false
set_option linter.unusedSimpArgs false

def txt0 (o : Option (List UInt8)) : List UInt8 := o.getD []
/-- A text, and whether there is one. -/
def optV (o : Option (List UInt8)) : Value := .tuple #[.string (str (txt0 o)), .bool o.isSome]
theorem ret_opt {o : Option (List UInt8)} {x : List UInt8} {b : Bool} (h1 : txt0 o = x) (h2 : o.isSome = b) : Ending.returned (.tuple #[.string (str x), .bool b]) = .returned (optV o) := by rw [← h1, ← h2]; rfl
theorem zero_str : (⟨#[0]⟩ : ByteArray) = str [0] := rfl

/-- The bytes that Next turns: the first n are still the key's. -/
def UpAt (w : World) (g : Nat) (k : List UInt8) (n : Nat) : Prop := (∃ A fz rest, w.heap[g]? = some (.cells A 5 fz) ∧ A.toList = cellsOf (k.take n) ++ rest) ∧ ∀ j, j < 8 → w.frozen? ⟨g, j, none⟩ = false
theorem UpAt.cell {w : World} {g : Nat} {k : List UInt8} {n : Nat} (h : UpAt w g k n) (j : Nat) (hj : j < n) (hk : j < k.length) : w.cell? ⟨g, j, none⟩ = some (.int .u8 (k[j].toNat : Int)) := by
  obtain ⟨⟨A, fz, rest, h1, h2⟩, _⟩ := h
  have hl : j < (cellsOf (k.take n)).length := by rw [cellsOf_length, List.length_take]; omega
  rw [cell_of_block h1, ← Array.getElem?_toList, h2, List.getElem?_append_left hl, List.getElem?_eq_getElem hl]
  simp [cellsOf]
theorem UpAt.set {w : World} {g : Nat} {k : List UInt8} {n : Nat} (h : UpAt w g k (n + 1)) (hk : n < k.length) (b : UInt8) :
    UpAt (w.setCell ⟨g, n, none⟩ (.int .u8 (b.toNat : Int))) g k n ∧ ∃ A fz rest, (w.setCell ⟨g, n, none⟩ (.int .u8 (b.toNat : Int))).heap[g]? = some (.cells A 5 fz) ∧ A.toList = cellsOf (k.take n ++ [b]) ++ rest := by
  obtain ⟨⟨A, fz, rest, h1, h2⟩, h3⟩ := h
  have e : (A.setIfInBounds n (.int .u8 (b.toNat : Int))).toList = cellsOf (k.take n ++ [b]) ++ rest := by
    rw [Array.toList_setIfInBounds, h2, List.take_succ_eq_append_getElem hk, cellsOf_append, cellsOf_append, List.append_assoc, List.append_assoc, List.set_append_right _ _ (by rw [cellsOf_length, List.length_take]; omega)]
    rw [cellsOf_length, List.length_take, Nat.min_eq_left (by omega), Nat.sub_self]
    rfl
  refine ⟨⟨⟨_, fz, .int .u8 (b.toNat : Int) :: rest, block_setCell h1 n _, ?_⟩, fun j hj => by rw [World.frozen?_setCell]; exact h3 j hj⟩, ⟨_, fz, rest, block_setCell h1 n _, e⟩⟩
  rw [e, cellsOf_append, List.append_assoc]
  rfl
theorem up_new (w : World) (k : List UInt8) (hk : k.length = 8) (cap : Nat) : UpAt (w.drew.alloc (bytesObj (str k) cap 5)) w.heap.size k 8 := by
  have hb := block_alloc_new w.drew (bytesObj (str k) cap 5)
  have hb' : (w.drew.alloc (bytesObj (str k) cap 5)).heap[w.heap.size]? = _ := hb
  refine ⟨⟨_, _, List.replicate (cap - (str k).size) (.int .u8 0), hb', ?_⟩, fun j hj => ?_⟩
  · rw [List.take_of_length_le (by omega)]
    simp [bytesRow, cellsOf, str]
  · unfold World.frozen?
    rw [hb']
    have : 8 ≤ (bytesRow (str k) cap).size := by simp [bytesRow, str, hk]
    simp [bytesObj]
    omega

end Go.Proofs.YtnalillebemglaaGreat
namespace Go.Proofs.YtnalillebemglaaGreat
open Go.RowKit
set_option linter.unusedVariables false
set_option linter.unusedSimpArgs false

theorem run_index_str {P : Program} (t : TypeId) (h : P.underlying t = some .string) (l : List UInt8) (i : Nat) (hi : i < l.length) (w : World) : (Instr.index t (.string (str l)) (.int .i64 (i : Int))).run P w = .ok (.int .u8 (l[i].toNat : Int)) w := by
  have hi2 : (0 : Int) ≤ (i : Int) ∧ (i : Int) < (str l).size := by rw [str_size]; omega
  rw [run_index_string w t (str l) .i64 (i : Int) h, dif_pos hi2]
  congr 3
theorem run_take_str {P : Program} (t : TypeId) (h : P.underlying t = some .string) (l : List UInt8) (i : Nat) (hi : i ≤ l.length) (w : World) : (Instr.slice t (.string (str l)) none (some (.int .i64 (i : Int))) none).run P w = .ok (.string (str (l.take i))) w := by
  rw [run_slice_string_to_if w t (str l) .i64 (i : Int) h, if_pos (by rw [str_size]; omega)]
  rw [str_extract]
  simp

end Go.Proofs.YtnalillebemglaaGreat
