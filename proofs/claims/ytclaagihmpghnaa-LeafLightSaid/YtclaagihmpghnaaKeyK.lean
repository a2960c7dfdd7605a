/-
  What Value does, of the program and of the reference.
-/
import Derived.Test.YtclaagihmpghnaaKeyJ
namespace Go.Proofs.Ytclaagihmpghnaa
open Go.RowKit
set_option linter.unusedVariables false
set_option linter.unusedSimpArgs false

theorem be_add (j : Nat) : ∀ k n : Nat, be (j + k) n = be j (n / 256 ^ k) ++ be k n
  | 0, n => by simp [be]
  | k + 1, n => by
    rw [show j + (k + 1) = (j + k) + 1 by omega]
    rw [show be ((j + k) + 1) n = be (j + k) (n / 256) ++ [UInt8.ofNat n] from rfl, be_add j k (n / 256), Nat.div_div_eq_div_mul, show 256 * 256 ^ k = 256 ^ (k + 1) by rw [Nat.pow_succ]; omega]
    rw [show be (k + 1) n = be k (n / 256) ++ [UInt8.ofNat n] from rfl, List.append_assoc]

set_option maxHeartbeats 1000000 in
theorem keyValue_any (n : Nat) (hn : n < 18446744073709551616) (w : World) : Calls Try.prog 80 #[.int .u64 n] w fun e w' => e = .returned (.string (str (be 8 n))) ∧ Step noF w w' := by
  obtain ⟨hi, hhi⟩ : ∃ hi, n / 4294967296 = hi := ⟨_, rfl⟩
  obtain ⟨lo, hlo⟩ : ∃ lo, n % 4294967296 = lo := ⟨_, rfl⟩
  have hB : Hid (be 8 n = be 4 hi ++ be 4 lo) := by
    show _ = _
    have h1 := be_add 4 4 n
    have h2 := be_mod 4 n
    rw [show (256 : Nat) ^ 4 = 4294967296 by rfl] at h1 h2
    rw [← hhi, ← hlo, h2]
    exact h1
  have b1 : hi < 4294967296 := by omega
  have b2 : lo < 4294967296 := by omega
  have d1 : ((n : Int) / 4294967296) = (hi : Int) := by omega
  have d2 : ((n : Int) % 4294967296) = (lo : Int) := by omega
  have d3 : ((n : Int).tdiv 4294967296) = (hi : Int) := by rw [Int.tdiv_eq_ediv_of_nonneg (by omega)]; exact d1
  have d4 : ((n : Int).tmod 4294967296) = (lo : Int) := by rw [Int.tmod_eq_emod_of_nonneg (by omega)]; exact d2
  have hV : Hid (numV 4 [(hi : Int), (lo : Int)] = true) := by
    show _ = _
    have e4 : ((256 : Int) ^ (4 : Int).toNat) = 4294967296 := by rfl
    simp only [numV, isW, List.all_cons, List.all_nil, fitB, e4]
    simp
    omega
  have hN : Hid ([] ++ numB 4 [(hi : Int), (lo : Int)] = be 8 n) := by
    show _ = _
    rw [numB, if_pos hV.out, hB.out]
    simp
  have hI : Hid (inI64 [(hi : Int), (lo : Int)]) := by
    intro z hz
    simp at hz
    omega
  clear hhi hlo hB
  go_enter Try.func80, Try.ntmps80
  go_wp2_with fail
  have O1 : IsOut ((w.alloc (.cells #[.slice none 0 0] 129)).alloc (.cells #[.int .i64 hi, .int .i64 lo] 3)) w.heap.size (oneF w.heap.size) [] := (newOut w).step ((Step.refl noF _).alloc _)
  have R1 : RowAt ((w.alloc (.cells #[.slice none 0 0] 129)).alloc (.cells #[.int .i64 hi, .int .i64 lo] 3)) (oneF w.heap.size) (some ⟨w.heap.size + 1, 0, none⟩) (intsOf [(hi : Int), (lo : Int)]) := by
    refine rowAt_new _ _ (fun k hk => ?_) _ _ _ (by rw [World.size_alloc]) _ rfl
    cases hk
    rw [World.size_alloc]
    omega
  refine (num_call 4 [(hi : Int), (lo : Int)] 2 rfl hI.out (by simp) _ 2 w.heap.size (oneF w.heap.size) [] _ O1 (by simp) R1 (be 8 n) hN.out 0 (by rw [hV.out]; rfl)).mono ?_
  rintro e w2 ⟨rfl, F', s2, o2, f2⟩
  have HO := hid o2
  clear o2 O1 R1
  go_wp2_with fail
  refine (bytes_any w.heap.size F' (be 8 n) _ HO.out).mono ?_
  rintro e w3 ⟨rfl, rfl⟩
  go_wp2_with fail
  go_ret
  exact ⟨rfl, (((Step.refl noF w).alloc _).alloc _).then s2 (fun i hi => .inr (by cases hi; exact Nat.le_refl _))⟩

set_option maxHeartbeats 1000000 in
theorem refValue_any (n : Nat) (hn : n < 18446744073709551616) (w : World) : Calls Try.prog 98 #[.int .u64 n] w fun e w' => e = .returned (.string (str (be 8 n))) ∧ Step noF w w' := by
  have hmk8 := mk_bytes 8 (by omega) (by omega)
  go_enter Try.func98, Try.ntmps98
  go_wp2
  go_loopw [0, 4] (fun x i wr => ∃ (j m : Nat) (A : Array Value), j + m = 8 ∧ i = .int .i64 ((m : Int) - 1) ∧ x = .int .u64 ((n / 256 ^ j : Nat) : Int) ∧ Step noF w wr ∧ wr.heap[w.heap.size]? = some (.cells A 5 (0, 0)) ∧ A.toList = List.replicate m (.int .u8 0) ++ cellsOf (be j n)) (fun _ i _ => (intOf i + 1).toNat)
  case atStart => exact ⟨0, 8, _, by omega, rfl, int_eq (by simp), (Step.refl _ _).alloc _, block_alloc_new _ _, by rw [toList_madeCells_one]; simp [be, cellsOf]⟩
  case round =>
    obtain ⟨j, m, A, hjm, rfl, rfl, hst, hblk, hA⟩ := hrel
    by_cases hm : 0 < m
    · have hm8 : (m : Int) - 1 < 8 := by omega
      have hsz : A.size = m + j := by rw [← Array.length_toList, hA]; simp [cellsOf, be_length]
      obtain ⟨u, hc⟩ : ∃ u, wr.cell? ⟨w.heap.size, m - 1, none⟩ = some u := ⟨_, (cell_of_block hblk (m - 1)).trans (Array.getElem?_eq_getElem (by omega))⟩
      have hf := frozen_of_block hblk (m - 1)
      have hx : (n / 256 ^ j : Nat) < 18446744073709551616 := Nat.lt_of_le_of_lt (Nat.div_le_self _ _) hn
      have hx0 : Hid (n / 256 ^ j / 256 = n / 256 ^ (j + 1)) := by show _ = _; rw [Nat.div_div_eq_div_mul, Nat.pow_succ]
      have hbe := hid (be_cons j n)
      have HB := hid hblk
      have HA := hid hA
      clear hblk hA hsz
      generalize n / 256 ^ j = x at *
      have ei : ((m : Int) - 1).toNat = m - 1 := by omega
      go_wp2
      go_roundw
      case rel =>
        refine ⟨j + 1, m - 1, _, by omega, int_eq (by omega), int_eq (by rw [← hx0.out]; simp), (hst.setCell (p := ⟨w.heap.size, m - 1, none⟩) (.inr (Nat.le_refl _)) _), block_setCell HB.out _ _, ?_⟩
        rw [Array.toList_setIfInBounds, HA.out, set_replicate m hm, hbe.out]
        simp [cellsOf]
      case measure => simp [intOf]; omega
    · obtain rfl : m = 0 := by omega
      obtain rfl : j = 8 := by omega
      have hs := run_string_block (P := Try.prog) wr 127 9 5 Try.underlying127 Try.underlying5 Try.underlying9 w.heap.size 8 8 A (be 8 n) hblk (by rw [hA]; simp) (be_length _ _).symm
      generalize n / 256 ^ 8 = x at *
      go_wp2
      go_ret
      exact ⟨rfl, hst⟩
end Go.Proofs.Ytclaagihmpghnaa
