/-
  What 'Text', 'digit' and 'Parse' of package crc do.
-/
import Derived.Test.YtdlgacbmfhkamaaDoorCrcA
namespace Go.Proofs.YtdlgacbmfhkamaaDoor
open Go.RowKit
set_option linter.unusedVariables false

theorem digits_all : (List.range 16).all (fun d => (({ data := #[48, 49, 50, 51, 52, 53, 54, 55, 56, 57, 97, 98, 99, 100, 101, 102] } : ByteArray).data.toList[d]?) == some (hexd d)) = true := by decide
theorem digit_at (d : Nat) (h : d < 16) : ({ data := #[48, 49, 50, 51, 52, 53, 54, 55, 56, 57, 97, 98, 99, 100, 101, 102] } : ByteArray)[d]'h = hexd d := by
  have h1 := List.all_eq_true.1 digits_all d (List.mem_range.2 h)
  simp only [beq_iff_eq] at h1
  have h2 := (List.getElem?_eq_some_iff.1 h1).2
  exact h2
theorem shift_digit (n j : Nat) (hn : n < 4294967296) : bits .and .u32 ((n : Int) / 2 ^ (4 * (7 - j))) 15 = ((n / 16 ^ (7 - j) % 16 : Nat) : Int) := by
  have e2 : (2 : Int) ^ (4 * (7 - j)) = ((16 ^ (7 - j) : Nat) : Int) := by rw [Int.pow_mul]; norm_cast
  rw [e2, ← Int.natCast_ediv, ← nat_mask4]
  exact u32_and_nat _ 15 (Nat.lt_of_le_of_lt (Nat.div_le_self _ _) hn) (by decide)
theorem hx_step (n j : Nat) (hj : j < 8) : hx (j + 1) (n / 16 ^ (8 - (j + 1))) = hx j (n / 16 ^ (8 - j)) ++ [hexd (n / 16 ^ (7 - j) % 16)] := by
  rw [hx, show 8 - (j + 1) = 7 - j by omega, Nat.div_div_eq_div_mul, ← Nat.pow_succ, show (7 - j).succ = 8 - j by omega]
theorem set_next (xs : List Value) (k : Nat) (hk : 0 < k) (z v : Value) : (xs ++ List.replicate k z).set xs.length v = xs ++ [v] ++ List.replicate (k - 1) z := by
  obtain ⟨q, rfl⟩ : ∃ q, k = q + 1 := ⟨k - 1, by omega⟩
  rw [List.set_append_right _ _ (Nat.le_refl _), Nat.sub_self, List.replicate_succ]
  simp

set_option maxHeartbeats 1000000 in
theorem text_any (n : Nat) (hn : n < 4294967296) (w : World) :
    Calls Tryd.prog 11 #[.int .u32 n] w fun e w' => e = .returned (.string (str (hx 8 n))) ∧ Step noF w w' := by
  go_enter Tryd.func11, Tryd.ntmps11
  go_wp2
  go_loopw [6] (fun i wr => ∃ (j : Nat) (A : Array Value), j ≤ 8 ∧ i = .int .i64 j ∧ Step noF w wr ∧ wr.heap[w.heap.size]? = some (.cells A 40 (0, 0)) ∧ A.toList = cellsOf (hx j (n / 16 ^ (8 - j))) ++ List.replicate (8 - j) (.int .u8 0)) (fun i _ => 8 - (intOf i).toNat)
  case atStart => exact ⟨0, _, by omega, rfl, (Step.refl _ _).alloc _, block_alloc_new _ _, rfl⟩
  case round =>
    obtain ⟨j, A, hj, rfl, hst, hblk, hA⟩ := hrel
    by_cases hlt : j < 8
    · have hsz : A.size = 8 := by rw [← Array.length_toList, hA]; simp [cellsOf, hx_length]; omega
      obtain ⟨u, hc⟩ : ∃ u, wr.cell? ⟨w.heap.size, j, none⟩ = some u := ⟨_, (cell_of_block hblk j).trans (Array.getElem?_eq_getElem (by omega))⟩
      have hf := frozen_of_block hblk j
      have e := shift_digit n j hn
      have HS := hid (hx_step n j hlt)
      obtain ⟨d, hd⟩ : ∃ d, n / 16 ^ (7 - j) % 16 = d := ⟨_, rfl⟩
      have hd16 : d < 16 := by omega
      rw [hd] at e HS
      have hdi : (d : Int) < 16 := by omega
      have HB := hid hblk
      have HA := hid hA
      have hdig := digit_at d hd16
      clear hblk hA hsz hd
      go_wp2
      go_roundw
      case rel =>
        refine ⟨j + 1, _, by omega, by go_num, (hst.setCell (p := ⟨w.heap.size, j, none⟩) (.inr (Nat.le_refl _)) _), block_setCell HB.out _ _, ?_⟩
        rw [Array.toList_setIfInBounds, HA.out, HS.out]
        have hl : j = (cellsOf (hx j (n / 16 ^ (8 - j)))).length := by rw [cellsOf_length, hx_length]
        conv => lhs; arg 2; rw [hl]
        rw [set_next _ _ (by omega), cellsOf_append]
        rfl
      case measure => simp [intOf]; omega
    · obtain rfl : j = 8 := by omega
      have hs := run_string_row (P := Tryd.prog) wr 35 9 5 40 (0, 0) Tryd.underlying35 Tryd.underlying5 Tryd.underlying9 w.heap.size 8 8 A (hx 8 n) hblk (by rw [hA]; simp) (hx_length _ _).symm
      go_wp2
      go_ret
      exact ⟨rfl, hst⟩

theorem ret_ub {a b : Int} {c d : Bool} (h : a = b) (h2 : c = d) : Ending.returned (.tuple #[.int .u32 a, .bool c]) = .returned (.tuple #[.int .u32 b, .bool d]) := by rw [h, h2]

set_option maxHeartbeats 400000 in
theorem digit_any (b : Nat) (hb : b < 256) (w : World) :
    Calls Tryd.prog 17 #[.int .u8 b] w fun e w' => e = .returned (.tuple #[.int .u32 (((dv b).getD 0 : Nat) : Int), .bool (dv b).isSome]) ∧ w = w' := by
  by_cases h1 : 48 ≤ b ∧ b ≤ 57
  · have hd : Hid (dv b = some (b - 48)) := by show _ = _; unfold dv; rw [if_pos h1]
    obtain ⟨h2, h3⟩ := h1
    go_enter Tryd.func17, Tryd.ntmps17
    go_wp2
    go_ret2
    exact ⟨ret_ub (by rw [hd.out]; simp; omega) (by rw [hd.out]; rfl), rfl⟩
  · by_cases h2 : 97 ≤ b ∧ b ≤ 102
    · have hd : Hid (dv b = some (b - 87)) := by show _ = _; unfold dv; rw [if_neg h1, if_pos h2]
      obtain ⟨h2, h3⟩ := h2
      have h4 : ¬ b ≤ 57 := by omega
      clear h1
      go_enter Tryd.func17, Tryd.ntmps17
      go_wp2
      go_ret2
      exact ⟨ret_ub (by rw [hd.out]; simp; omega) (by rw [hd.out]; rfl), rfl⟩
    · have hd : Hid (dv b = none) := by show _ = _; unfold dv; rw [if_neg h1, if_neg h2]
      have H1 := hid h1
      have H2 := hid h2
      clear h1 h2
      go_enter Tryd.func17, Tryd.ntmps17
      go_wp2
      all_goals first | (exfalso; have := H1.out; have := H2.out; omega) | (go_ret2; exact ⟨ret_ub (by rw [hd.out]; rfl) (by rw [hd.out]; rfl), rfl⟩)
end Go.Proofs.YtdlgacbmfhkamaaDoor
