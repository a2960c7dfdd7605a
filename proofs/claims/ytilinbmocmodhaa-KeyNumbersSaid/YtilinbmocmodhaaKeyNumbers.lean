/-
  KeyNumbers.
-/
import Derived.Test.YtilinbmocmodhaaKeyAwake
import Derived.Test.YtilinbmocmodhaaKeyK
namespace Go.Proofs.Ytilinbmocmodhaa
open Go.RowKit
set_option linter.unusedVariables false
set_option linter.unusedSimpArgs false

set_option maxHeartbeats 4000000 in
set_option maxRecDepth 100000 in
theorem numbers_walk (n : Nat) (hn : n < 18446744073709551616) (v : List UInt8) (hv : v.length ≤ maxLen) (w : World) :
    Calls Try.prog 3 #[.int .u64 n, .string (str v)] w fun e w' => e = .returned (.bool true) ∧ Step noF w w' := by
  have hz := str_size
  have hE := same_str
  have hB : numV2 (be 8 n) = .tuple #[.int .u64 (n : Int), .bool true] := by
    rw [numV2, numOf, if_pos (be_length 8 n), beN_be 8 n (by omega)]
    simp [be_length]
  have c1 := keyNumber_any v hv
  have c2 := refNumber_any v
  have c3 := keyValue_any n hn
  have c4 := refValue_any n hn
  have c5 := keyNumber_any (be 8 n) (by rw [be_length]; decide)
  rw [hB] at c5
  unfold numV2 at c1 c2
  obtain ⟨N, hN⟩ : ∃ N, numOf v = N := ⟨_, rfl⟩
  obtain ⟨B, hBB⟩ : ∃ B, decide (v.length = 8) = B := ⟨_, rfl⟩
  obtain ⟨T, hT⟩ : ∃ T, be 8 n = T := ⟨_, rfl⟩
  rw [hN, hBB] at c1 c2
  rw [hT] at c3 c4 c5
  clear hN hBB hT hB hv
  by_cases hl : v.length ≤ 1024
  · go_enter Try.func3, Try.ntmps3
    go_wp2_with fail
    refine (awake_any _).mono ?_
    rintro e w1 ⟨rfl, s1⟩
    go_wp2_with fail
    refine (c1 _).mono ?_
    rintro e w2 ⟨rfl, s2⟩
    go_wp2_with fail
    refine (c2 _).mono ?_
    rintro e w' ⟨rfl, rfl⟩
    go_wp2_with fail
    refine (c3 _).mono ?_
    rintro e w3 ⟨rfl, s3⟩
    go_wp2_with fail
    refine (c5 _).mono ?_
    rintro e w4 ⟨rfl, s4⟩
    go_wp2_with fail
    refine (c3 _).mono ?_
    rintro e w5 ⟨rfl, s5⟩
    go_wp2_with fail
    refine (c4 _).mono ?_
    rintro e w6 ⟨rfl, s6⟩
    go_wp2_with fail
    go_ret
    exact ⟨by first | rfl | simp, ((((s1.trans s2).trans s3).trans s4).trans s5).trans s6⟩
  · go_enter Try.func3, Try.ntmps3
    go_wp2_with fail
    refine (awake_any _).mono ?_
    rintro e w1 ⟨rfl, s1⟩
    go_wp2_with fail
    go_ret
    exact ⟨rfl, s1⟩
end Go.Proofs.Ytilinbmocmodhaa
