/-
  What the document's own answers do (package grangerref01): Num, Text.
-/
import Derived.Test.YthdcmobnookhdaaDoorPenE
namespace Go.Proofs.YthdcmobnookhdaaDoor
open Go.RowKit
set_option linter.unusedVariables false

theorem be_cons (j n : Nat) : be (j + 1) n = UInt8.ofNat (n / 256 ^ j) :: be j n := by
  induction j generalizing n with
  | zero => simp [be]
  | succ j ih =>
    rw [show be (j + 1 + 1) n = be (j + 1) (n / 256) ++ [UInt8.ofNat n] from rfl, ih (n / 256)]
    rw [show be (j + 1) n = be j (n / 256) ++ [UInt8.ofNat n] from rfl]
    rw [Nat.div_div_eq_div_mul, show 256 * 256 ^ j = 256 ^ (j + 1) by rw [Nat.pow_succ]; omega]
    rfl

theorem mk_bytes (c : Int) (h0 : 0 ≤ c) (h8 : c ≤ 1000000) (u : World) : (Instr.makeSlice 40 (.int .i64 c) (.int .i64 c)).run Tryd.prog u =
      .ok (.slice (some ⟨u.heap.size, 0, none⟩) c.toNat c.toNat) (u.alloc (.cells (madeCells #[.int .u8 0] c.toNat) 5)) := by
  obtain ⟨i0, hi, hz0, hz1, hz2⟩ := info_parts info_u8
  have h := run_make (P := Tryd.prog) u 40 5 i0 (.int .u8 0) Tryd.underlying40 hi hz0 .i64 .i64 c c h0 (Int.le_refl _) (by rw [hz2]; omega) (by omega)
  simpa [hz1, Value.cells] using h

theorem set_replicate (m : Nat) (hm : 0 < m) (z v : Value) (xs : List Value) : (List.replicate m z ++ xs).set (m - 1) v = List.replicate (m - 1) z ++ v :: xs := by
  obtain ⟨q, rfl⟩ : ∃ q, m = q + 1 := ⟨m - 1, by omega⟩
  simp only [Nat.add_sub_cancel]
  rw [List.replicate_succ', List.append_assoc, List.set_append_right _ _ (by simp)]
  simp

theorem u8_wrap_mod (n : Nat) : IntKind.u8.wrap ((n : Int) % 256) = ((UInt8.ofNat n).toNat : Int) := by
  simp [IntKind.wrap, IntKind.bits, IntKind.signed]

/-- Out of a block of bytes its text. -/
theorem run_string_block {P : Program} (w : World) (src dst e : TypeId) (hs : P.underlying src = some (.slice e)) (he : P.underlying e = some (.int .u8)) (hd : P.underlying dst = some .string) (g cap n : Nat) (A : Array Value) (bs : List UInt8) (hg : w.heap[g]? = some (.cells A e (0, 0)))
    (hA : A.toList = cellsOf bs) (hn : n = bs.length) : (convert src dst (.slice (some ⟨g, 0, none⟩) n cap)).run P w = .ok (.string (str bs)) w := by
  subst hn
  refine run_convert_bytes_back w src dst e ⟨g, 0, none⟩ cap bs hs he hd (fun j hj => ?_)
  rw [Addr.add_lit, Nat.zero_add, cell_of_block hg]
  rw [← Array.getElem?_toList, hA]
  simp [cellsOf, List.getElem?_eq_getElem hj]

theorem ret_sb {a b : ByteArray} {c d : Bool} (h : a = b) (h2 : c = d) : Ending.returned (.tuple #[.string a, .bool c]) = .returned (.tuple #[.string b, .bool d]) := by rw [h, h2]
theorem nat_beq0 (x : Nat) : ((x : Int) == 0) = decide (x = 0) := by rw [Bool.eq_iff_iff]; simp
theorem fit_div (k n : Nat) : decide (n / 256 ^ k = 0) = fitB k n := by
  unfold fitB
  have h1 : 0 < 256 ^ k := Nat.pow_pos (by omega)
  have h2 : ((256 : Int) ^ k) = ((256 ^ k : Nat) : Int) := by rw [Int.natCast_pow]; rfl
  rw [h2]
  generalize 256 ^ k = m at *
  congr 1
  rw [eq_iff_iff, Nat.div_eq_zero_iff_lt h1]
  omega

set_option maxHeartbeats 400000 in
theorem refNum_in' (k K : Nat) (HK : Hid (K = k)) (hk : k = 1 ∨ k = 2 ∨ k = 4 ∨ k = 8) (n : Nat) (hn : n ≤ 9223372036854775807) (w : World) :
    Calls Tryd.prog 18 #[.int .i64 k, .int .i64 n] w fun e w' => e = .returned (.tuple #[.string (str (be K n)), .bool (fitB K n)]) ∧ Step noF w w' := by
  have hmk1 := mk_bytes 1 (by omega) (by omega)
  have hmk2 := mk_bytes 2 (by omega) (by omega)
  have hmk4 := mk_bytes 4 (by omega) (by omega)
  have hmk8 := mk_bytes 8 (by omega) (by omega)
  have hfit := hid (fit_div K n)
  rcases hk with rfl | rfl | rfl | rfl
  all_goals
    go_enter Tryd.func18, Tryd.ntmps18
    go_wp2
    go_loopw [1, 7] (fun x i wr => ∃ (j m : Nat) (A : Array Value), j + m = K ∧ i = .int .i64 ((m : Int) - 1) ∧ x = .int .i64 ((n / 256 ^ j : Nat) : Int) ∧ Step noF w wr ∧ wr.heap[w.heap.size]? = some (.cells A 5 (0, 0)) ∧ A.toList = List.replicate m (.int .u8 0) ++ cellsOf (be j n)) (fun _ i _ => (intOf i + 1).toNat)
    case atStart => exact ⟨0, K, _, by omega, int_eq (by rw [HK.out]; rfl), int_eq (by simp), (Step.refl _ _).alloc _, block_alloc_new _ _, by rw [toList_madeCells_one, HK.out]; simp [be, cellsOf]⟩
    case round =>
      obtain ⟨j, m, A, hjm, rfl, rfl, hst, hblk, hA⟩ := hrel
      by_cases hm : 0 < m
      · have hm8 : (m : Int) - 1 < (K : Int) := by omega
        rw [HK.out] at hm8
        have hsz : A.size = m + j := by rw [← Array.length_toList, hA]; simp [cellsOf, be_length]
        obtain ⟨u, hc⟩ : ∃ u, wr.cell? ⟨w.heap.size, m - 1, none⟩ = some u := ⟨_, (cell_of_block hblk (m - 1)).trans (Array.getElem?_eq_getElem (by omega))⟩
        have hf := frozen_of_block hblk (m - 1)
        have hx : (n / 256 ^ j : Nat) ≤ 9223372036854775807 := Nat.le_trans (Nat.div_le_self _ _) hn
        have hx0 : Hid (n / 256 ^ j / 256 = n / 256 ^ (j + 1)) := by show _ = _; rw [Nat.div_div_eq_div_mul, Nat.pow_succ]
        have hbe := hid (be_cons j n)
        have HB := hid hblk
        have HA := hid hA
        clear hblk hA hsz
        generalize n / 256 ^ j = x at *
        have ei : ((m : Int) - 1).toNat = m - 1 := by omega
        go_wp2
        go_roundw
        case rel =>
          refine ⟨j + 1, m - 1, _, by omega, int_eq (by omega), int_eq (by rw [← hx0.out]; simp), (hst.setCell (p := ⟨w.heap.size, m - 1, none⟩) (.inr (Nat.le_refl _)) _), block_setCell HB.out _ _, ?_⟩
          rw [Array.toList_setIfInBounds, HA.out, set_replicate m hm, hbe.out]
          simp [cellsOf]
        case measure => simp [intOf]; omega
      · obtain rfl : m = 0 := by omega
        obtain rfl : j = K := by omega
        have hs := run_string_block (P := Tryd.prog) wr 40 9 5 Tryd.underlying40 Tryd.underlying5 Tryd.underlying9 w.heap.size j j A (be j n) hblk (by rw [hA]; simp) (be_length _ _).symm
        rw [HK.out] at hs
        have hq : Hid ((((n / 256 ^ j : Nat) : Int) == 0) = fitB j n) := by
          show _ = _
          rw [← hfit.out]
          exact nat_beq0 _
        clear hfit
        generalize n / 256 ^ j = x at *
        go_wp2
        go_ret2
        exact ⟨ret_sb (by rw [HK.out]) hq.out, hst⟩

theorem refNum_in (k : Nat) (hk : k = 1 ∨ k = 2 ∨ k = 4 ∨ k = 8) (n : Nat) (hn : n ≤ 9223372036854775807) (w : World) :
    Calls Tryd.prog 18 #[.int .i64 k, .int .i64 n] w fun e w' => e = .returned (.tuple #[.string (str (be k n)), .bool (fitB k n)]) ∧ Step noF w w' := refNum_in' k k rfl hk n hn w

set_option maxHeartbeats 400000 in
theorem refNum_wide (wd n : Int) (hw : isW wd = false) (w : World) : Calls Tryd.prog 18 #[.int .i64 wd, .int .i64 n] w fun e w' => e = .returned (.tuple #[.string (str []), .bool false]) ∧ w = w' := by
  have h : ¬ (wd = 1 ∨ wd = 2 ∨ wd = 4 ∨ wd = 8) := by rw [← isW_iff, hw]; simp
  have h1 : (wd != 1) = true := by simp; omega
  have h2 : (wd != 2) = true := by simp; omega
  have h4 : (wd != 4) = true := by simp; omega
  have h8 : (wd != 8) = true := by simp; omega
  clear h hw
  go_enter Tryd.func18, Tryd.ntmps18
  go_wp2
  go_ret2
  exact ⟨rfl, rfl⟩

set_option maxHeartbeats 400000 in
theorem refNum_neg (k : Nat) (n : Int) (hk : k = 1 ∨ k = 2 ∨ k = 4 ∨ k = 8) (hn : n < 0) (w : World) : Calls Tryd.prog 18 #[.int .i64 k, .int .i64 n] w fun e w' => e = .returned (.tuple #[.string (str []), .bool false]) ∧ w = w' := by
  rcases hk with rfl | rfl | rfl | rfl
  all_goals
    go_enter Tryd.func18, Tryd.ntmps18
    go_wp2
    go_ret2
    exact ⟨rfl, rfl⟩

/-- The document's Num. -/
theorem refNum_any (wd n : Int) (h1 : n ≤ 9223372036854775807) (w : World) : Calls Tryd.prog 18 #[.int .i64 wd, .int .i64 n] w fun e w' =>
    ∃ X, e = .returned (.tuple #[.string X, .bool (numV wd [n])]) ∧ (numV wd [n] = true → X = str (be wd.toNat n.toNat)) ∧ Step noF w w' := by
  cases hw : isW wd
  · refine (refNum_wide wd n hw w).mono ?_
    rintro e w' ⟨rfl, rfl⟩
    have h3 : numV wd [n] = false := by simp [numV, hw]
    rw [h3]
    exact ⟨_, rfl, by simp, Step.refl _ _⟩
  · have hk := (isW_iff wd).1 hw
    obtain ⟨k, rfl⟩ := Int.eq_ofNat_of_zero_le (show 0 ≤ wd by omega)
    by_cases hn : n < 0
    · refine (refNum_neg k n (by omega) hn w).mono ?_
      rintro e w' ⟨rfl, rfl⟩
      have h3 : numV k [n] = false := by simp [numV, fitB]; omega
      rw [h3]
      exact ⟨_, rfl, by simp, Step.refl _ _⟩
    · obtain ⟨m, rfl⟩ := Int.eq_ofNat_of_zero_le (show 0 ≤ n by omega)
      refine (refNum_in k (by omega) m (by omega) w).mono ?_
      rintro e w' ⟨rfl, h2⟩
      have h3 : numV k [(m : Int)] = fitB k m := by simp [numV, hw]
      rw [h3]
      exact ⟨_, rfl, fun _ => by simp, h2⟩

end Go.Proofs.YthdcmobnookhdaaDoor
