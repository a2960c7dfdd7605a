/-
  What Text and Parse do; Same.
-/
import Derived.Test.YtmijbplhmjledaaSpTextR
import Derived.Test.YtmijbplhmjledaaSpParseR
import Derived.Laws.BitsAllLaws
namespace Go.Proofs.Ytmijbplhmjledaa
open Go.RowKit
set_option linter.unusedVariables false

theorem info_u8s : (Try.prog.info? 5).map (fun i => (i.zero, i.size, i.bytes)) = some (some (.int .u8 0), 1, 1) := by kernel_rfl
theorem cellsOf_at (l : List UInt8) (j : Nat) (h : j < (cellsOf l).length) : (cellsOf l)[j] = .int .u8 ((l[j]'(by simpa [cellsOf] using h)).toNat : Int) := by simp [cellsOf]
theorem cellsOf_set (l : List UInt8) (j : Nat) (b : UInt8) : (cellsOf l).set j (.int .u8 (b.toNat : Int)) = cellsOf (l.set j b) := by simp [cellsOf, List.map_set]
/-- A row of bytes in whole. -/
def BytesIn (w : World) (g : Nat) (bs : List UInt8) : Prop := ∃ A : Array Value, w.heap[g]? = some (.cells A 5 (0, 0)) ∧ A.toList = cellsOf bs
theorem BytesIn.row {w : World} {g : Nat} {bs : List UInt8} (h : BytesIn w g bs) : RowIn w g 5 (cellsOf bs) := by
  obtain ⟨A, h1, h2⟩ := h; exact ⟨A, [], h1, by rw [h2, List.append_nil]⟩
theorem BytesIn.step {w w' : World} {g : Nat} {bs : List UInt8} {F : Nat → Prop} (h : BytesIn w g bs) (hs : Step F w w') (hF : ¬ F g) : BytesIn w' g bs := by
  obtain ⟨A, h1, h2⟩ := h; exact ⟨A, (hs.block g (lt_of_block h1) hF).trans h1, h2⟩
theorem BytesIn.set {w : World} {g : Nat} {bs : List UInt8} (h : BytesIn w g bs) (j : Nat) (b : UInt8) (n : Int) (hn : n = (b.toNat : Int)) : BytesIn (w.setCell ⟨g, j, none⟩ (.int .u8 n)) g (bs.set j b) := by
  obtain ⟨A, h1, h2⟩ := h
  subst hn
  exact ⟨_, block_setCell h1 j _, by rw [Array.toList_setIfInBounds, h2, cellsOf_set]⟩
/-- The bits of the first j blocks. -/
def parT (t : List UInt8) (n j : Nat) : List Bool := bitsL t j ++ List.replicate (n - j) false
theorem parT_len (t : List UInt8) (n j : Nat) (h : j ≤ n) : (parT t n j).length = n := by simp [parT, bitsL_len]; omega
theorem parT_step (t : List UInt8) (n j : Nat) (h : j < n) : parT t n (j + 1) = (parT t n j).set j (bitB (t.getD (j / 8) 0) j) := by
  unfold parT
  rw [List.set_append_right _ _ (by rw [bitsL_len]; exact Nat.le_refl _), bitsL_len, Nat.sub_self]
  rw [show n - j = (n - (j + 1)) + 1 by omega, List.replicate_succ, List.set_cons_zero]
  simp [bitsL, List.range_succ]

/-- What Parse answers. -/
def parseR (t : List UInt8) (n p : Nat) : Value := if textL (bitsL t n) = t then .tuple #[.pointer (some ⟨p, 0, none⟩), .int .i64 0] else .tuple #[.pointer none, .int .i64 5]
theorem parseR_ok {t : List UInt8} {n p : Nat} (h : textL (bitsL t n) = t) : parseR t n p = .tuple #[.pointer (some ⟨p, 0, none⟩), .int .i64 0] := if_pos h
theorem parseR_no {t : List UInt8} {n p : Nat} (h : ¬ textL (bitsL t n) = t) : parseR t n p = .tuple #[.pointer none, .int .i64 5] := if_neg h

end Go.Proofs.Ytmijbplhmjledaa
