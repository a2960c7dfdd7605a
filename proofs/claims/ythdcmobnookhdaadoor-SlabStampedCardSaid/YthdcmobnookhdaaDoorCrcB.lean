/-
  What 'Text', 'digit' and 'Parse' of package crc do.
-/
import Derived.Test.YthdcmobnookhdaaDoorCrcA
namespace Go.Proofs.YthdcmobnookhdaaDoor
open Go.RowKit
set_option linter.unusedVariables false

theorem digits_all : (List.range 16).all (fun d => (({ data := #[48, 49, 50, 51, 52, 53, 54, 55, 56, 57, 97, 98, 99, 100, 101, 102] } : ByteArray).data.toList[d]?) == some (hexd d)) = true := by decide
theorem digit_at (d : Nat) (h : d < 16) : ({ data := #[48, 49, 50, 51, 52, 53, 54, 55, 56, 57, 97, 98, 99, 100, 101, 102] } : ByteArray)[d]'h = hexd d := by
  have h1 := List.all_eq_true.1 digits_all d (List.mem_range.2 h)
  simp only [beq_iff_eq] at h1
  have h2 := (List.getElem?_eq_some_iff.1 h1).2
  exact h2
theorem shift_digit (n j : Nat) (hn : n < 4294967296) : bits .and .u32 ((n : Int) / 2 ^ (4 * (7 - j))) 15 = ((n / 16 ^ (7 - j) % 16 : Nat) : Int) := by
  have e2 : (2 : Int) ^ (4 * (7 - j)) = ((16 ^ (7 - j) : Nat) : Int) := by rw [Int.pow_mul]; norm_cast
  rw [e2, ← Int.natCast_ediv, ← nat_mask4]
  exact u32_and_nat _ 15 (Nat.lt_of_le_of_lt (Nat.div_le_self _ _) hn) (by decide)
theorem hx_step (n j : Nat) (hj : j < 8) : hx (j + 1) (n / 16 ^ (8 - (j + 1))) = hx j (n / 16 ^ (8 - j)) ++ [hexd (n / 16 ^ (7 - j) % 16)] := by
  rw [hx, show 8 - (j + 1) = 7 - j by omega, Nat.div_div_eq_div_mul, ← Nat.pow_succ, show (7 - j).succ = 8 - j by omega]
theorem set_next (xs : List Value) (k : Nat) (hk : 0 < k) (z v : Value) : (xs ++ List.replicate k z).set xs.length v = xs ++ [v] ++ List.replicate (k - 1) z := by
  obtain ⟨q, rfl⟩ : ∃ q, k = q + 1 := ⟨k - 1, by omega⟩
  rw [List.set_append_right _ _ (Nat.le_refl _), Nat.sub_self, List.replicate_succ]
  simp

theorem ret_ub {a b : Int} {c d : Bool} (h : a = b) (h2 : c = d) : Ending.returned (.tuple #[.int .u32 a, .bool c]) = .returned (.tuple #[.int .u32 b, .bool d]) := by rw [h, h2]

end Go.Proofs.YthdcmobnookhdaaDoor
