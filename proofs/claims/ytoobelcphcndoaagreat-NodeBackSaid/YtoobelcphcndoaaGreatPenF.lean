/-
  What the document's own answers do (package grangerref01): Num, Text.
-/
import Derived.Test.YtoobelcphcndoaaGreatPenE
namespace Go.Proofs.YtoobelcphcndoaaGreat
open Go.RowKit
set_option linter.unusedVariables false
set_option maxRecDepth 20000

theorem be_cons (j n : Nat) : be (j + 1) n = UInt8.ofNat (n / 256 ^ j) :: be j n := by
  induction j generalizing n with
  | zero => simp [be]
  | succ j ih =>
    rw [show be (j + 1 + 1) n = be (j + 1) (n / 256) ++ [UInt8.ofNat n] from rfl, ih (n / 256)]
    rw [show be (j + 1) n = be j (n / 256) ++ [UInt8.ofNat n] from rfl]
    rw [Nat.div_div_eq_div_mul, show 256 * 256 ^ j = 256 ^ (j + 1) by rw [Nat.pow_succ]; omega]
    rfl

theorem mk_bytes (c : Int) (h0 : 0 ≤ c) (h8 : c ≤ 1000000) (u : World) : (Instr.makeSlice 85 (.int .i64 c) (.int .i64 c)).run Tryz.prog u =
      .ok (.slice (some ⟨u.heap.size, 0, none⟩) c.toNat c.toNat) (u.alloc (.cells (madeCells #[.int .u8 0] c.toNat) 5)) := by
  obtain ⟨i0, hi, hz0, hz1, hz2⟩ := info_parts info_u8
  have h := run_make (P := Tryz.prog) u 85 5 i0 (.int .u8 0) Tryz.underlying85 hi hz0 .i64 .i64 c c h0 (Int.le_refl _) (by rw [hz2]; omega) (by omega)
  simpa [hz1, Value.cells] using h

theorem set_replicate (m : Nat) (hm : 0 < m) (z v : Value) (xs : List Value) : (List.replicate m z ++ xs).set (m - 1) v = List.replicate (m - 1) z ++ v :: xs := by
  obtain ⟨q, rfl⟩ : ∃ q, m = q + 1 := ⟨m - 1, by omega⟩
  simp only [Nat.add_sub_cancel]
  rw [List.replicate_succ', List.append_assoc, List.set_append_right _ _ (by simp)]
  simp

theorem u8_wrap_mod (n : Nat) : IntKind.u8.wrap ((n : Int) % 256) = ((UInt8.ofNat n).toNat : Int) := by
  simp [IntKind.wrap, IntKind.bits, IntKind.signed]

/-- Out of a block of bytes its text. -/
theorem run_string_block {P : Program} (w : World) (src dst e : TypeId) (hs : P.underlying src = some (.slice e)) (he : P.underlying e = some (.int .u8)) (hd : P.underlying dst = some .string) (g cap n : Nat) (A : Array Value) (bs : List UInt8) (hg : w.heap[g]? = some (.cells A e (0, 0)))
    (hA : A.toList = cellsOf bs) (hn : n = bs.length) : (convert src dst (.slice (some ⟨g, 0, none⟩) n cap)).run P w = .ok (.string (str bs)) w := by
  subst hn
  refine run_convert_bytes_back w src dst e ⟨g, 0, none⟩ cap bs hs he hd (fun j hj => ?_)
  rw [Addr.add_lit, Nat.zero_add, cell_of_block hg]
  rw [← Array.getElem?_toList, hA]
  simp [cellsOf, List.getElem?_eq_getElem hj]

theorem ret_sb {a b : ByteArray} {c d : Bool} (h : a = b) (h2 : c = d) : Ending.returned (.tuple #[.string a, .bool c]) = .returned (.tuple #[.string b, .bool d]) := by rw [h, h2]
theorem nat_beq0 (x : Nat) : ((x : Int) == 0) = decide (x = 0) := by rw [Bool.eq_iff_iff]; simp
theorem fit_div (k n : Nat) : decide (n / 256 ^ k = 0) = fitB k n := by
  unfold fitB
  have h1 : 0 < 256 ^ k := Nat.pow_pos (by omega)
  have h2 : ((256 : Int) ^ k) = ((256 ^ k : Nat) : Int) := by rw [Int.natCast_pow]; rfl
  rw [h2]
  generalize 256 ^ k = m at *
  congr 1
  rw [eq_iff_iff, Nat.div_eq_zero_iff_lt h1]
  omega

set_option maxHeartbeats 400000 in
theorem refNum_in' (k K : Nat) (HK : Hid (K = k)) (hk : k = 1 ∨ k = 2 ∨ k = 4 ∨ k = 8) (n : Nat) (hn : n ≤ 9223372036854775807) (w : World) :
    Calls Tryz.prog 49 #[.int .i64 k, .int .i64 n] w fun e w' => e = .returned (.tuple #[.string (str (be K n)), .bool (fitB K n)]) ∧ Step noF w w' := by
  have hmk1 := mk_bytes 1 (by omega) (by omega)
  have hmk2 := mk_bytes 2 (by omega) (by omega)
  have hmk4 := mk_bytes 4 (by omega) (by omega)
  have hmk8 := mk_bytes 8 (by omega) (by omega)
  have hfit := hid (fit_div K n)
  rcases hk with rfl | rfl | rfl | rfl
  all_goals
    go_enter Tryz.func49, Tryz.ntmps49
    go_wp2
    go_loopw [1, 7] (fun x i wr => ∃ (j m : Nat) (A : Array Value), j + m = K ∧ i = .int .i64 ((m : Int) - 1) ∧ x = .int .i64 ((n / 256 ^ j : Nat) : Int) ∧ Step noF w wr ∧ wr.heap[w.heap.size]? = some (.cells A 5 (0, 0)) ∧ A.toList = List.replicate m (.int .u8 0) ++ cellsOf (be j n)) (fun _ i _ => (intOf i + 1).toNat)
    case atStart => exact ⟨0, K, _, by omega, int_eq (by rw [HK.out]; rfl), int_eq (by simp), (Step.refl _ _).alloc _, block_alloc_new _ _, by rw [toList_madeCells_one, HK.out]; simp [be, cellsOf]⟩
    case round =>
      obtain ⟨j, m, A, hjm, rfl, rfl, hst, hblk, hA⟩ := hrel
      by_cases hm : 0 < m
      · have hm8 : (m : Int) - 1 < (K : Int) := by omega
        rw [HK.out] at hm8
        have hsz : A.size = m + j := by rw [← Array.length_toList, hA]; simp [cellsOf, be_length]
        obtain ⟨u, hc⟩ : ∃ u, wr.cell? ⟨w.heap.size, m - 1, none⟩ = some u := ⟨_, (cell_of_block hblk (m - 1)).trans (Array.getElem?_eq_getElem (by omega))⟩
        have hf := frozen_of_block hblk (m - 1)
        have hx : (n / 256 ^ j : Nat) ≤ 9223372036854775807 := Nat.le_trans (Nat.div_le_self _ _) hn
        have hx0 : Hid (n / 256 ^ j / 256 = n / 256 ^ (j + 1)) := by show _ = _; rw [Nat.div_div_eq_div_mul, Nat.pow_succ]
        have hbe := hid (be_cons j n)
        have HB := hid hblk
        have HA := hid hA
        clear hblk hA hsz
        generalize n / 256 ^ j = x at *
        have ei : ((m : Int) - 1).toNat = m - 1 := by omega
        go_wp2
        go_roundw
        case rel =>
          refine ⟨j + 1, m - 1, _, by omega, int_eq (by omega), int_eq (by rw [← hx0.out]; simp), (hst.setCell (p := ⟨w.heap.size, m - 1, none⟩) (.inr (Nat.le_refl _)) _), block_setCell HB.out _ _, ?_⟩
          rw [Array.toList_setIfInBounds, HA.out, set_replicate m hm, hbe.out]
          simp [cellsOf]
        case measure => simp [intOf]; omega
      · obtain rfl : m = 0 := by omega
        obtain rfl : j = K := by omega
        have hs := run_string_block (P := Tryz.prog) wr 85 9 5 Tryz.underlying85 Tryz.underlying5 Tryz.underlying9 w.heap.size j j A (be j n) hblk (by rw [hA]; simp) (be_length _ _).symm
        rw [HK.out] at hs
        have hq : Hid ((((n / 256 ^ j : Nat) : Int) == 0) = fitB j n) := by
          show _ = _
          rw [← hfit.out]
          exact nat_beq0 _
        clear hfit
        generalize n / 256 ^ j = x at *
        go_wp2
        go_ret2
        exact ⟨ret_sb (by rw [HK.out]) hq.out, hst⟩

theorem refNum_in (k : Nat) (hk : k = 1 ∨ k = 2 ∨ k = 4 ∨ k = 8) (n : Nat) (hn : n ≤ 9223372036854775807) (w : World) :
    Calls Tryz.prog 49 #[.int .i64 k, .int .i64 n] w fun e w' => e = .returned (.tuple #[.string (str (be k n)), .bool (fitB k n)]) ∧ Step noF w w' := refNum_in' k k rfl hk n hn w

set_option maxHeartbeats 400000 in
theorem refNum_wide (wd n : Int) (hw : isW wd = false) (w : World) : Calls Tryz.prog 49 #[.int .i64 wd, .int .i64 n] w fun e w' => e = .returned (.tuple #[.string (str []), .bool false]) ∧ w = w' := by
  have h : ¬ (wd = 1 ∨ wd = 2 ∨ wd = 4 ∨ wd = 8) := by rw [← isW_iff, hw]; simp
  have h1 : (wd != 1) = true := by simp; omega
  have h2 : (wd != 2) = true := by simp; omega
  have h4 : (wd != 4) = true := by simp; omega
  have h8 : (wd != 8) = true := by simp; omega
  clear h hw
  go_enter Tryz.func49, Tryz.ntmps49
  go_wp2
  go_ret2
  exact ⟨rfl, rfl⟩

set_option maxHeartbeats 400000 in
theorem refNum_neg (k : Nat) (n : Int) (hk : k = 1 ∨ k = 2 ∨ k = 4 ∨ k = 8) (hn : n < 0) (w : World) : Calls Tryz.prog 49 #[.int .i64 k, .int .i64 n] w fun e w' => e = .returned (.tuple #[.string (str []), .bool false]) ∧ w = w' := by
  rcases hk with rfl | rfl | rfl | rfl
  all_goals
    go_enter Tryz.func49, Tryz.ntmps49
    go_wp2
    go_ret2
    exact ⟨rfl, rfl⟩

/-- The document's Num. -/
theorem refNum_any (wd n : Int) (h1 : n ≤ 9223372036854775807) (w : World) : Calls Tryz.prog 49 #[.int .i64 wd, .int .i64 n] w fun e w' =>
    ∃ X, e = .returned (.tuple #[.string X, .bool (numV wd [n])]) ∧ (numV wd [n] = true → X = str (be wd.toNat n.toNat)) ∧ Step noF w w' := by
  cases hw : isW wd
  · refine (refNum_wide wd n hw w).mono ?_
    rintro e w' ⟨rfl, rfl⟩
    have h3 : numV wd [n] = false := by simp [numV, hw]
    rw [h3]
    exact ⟨_, rfl, by simp, Step.refl _ _⟩
  · have hk := (isW_iff wd).1 hw
    obtain ⟨k, rfl⟩ := Int.eq_ofNat_of_zero_le (show 0 ≤ wd by omega)
    by_cases hn : n < 0
    · refine (refNum_neg k n (by omega) hn w).mono ?_
      rintro e w' ⟨rfl, rfl⟩
      have h3 : numV k [n] = false := by simp [numV, fitB]; omega
      rw [h3]
      exact ⟨_, rfl, by simp, Step.refl _ _⟩
    · obtain ⟨m, rfl⟩ := Int.eq_ofNat_of_zero_le (show 0 ≤ n by omega)
      refine (refNum_in k (by omega) m (by omega) w).mono ?_
      rintro e w' ⟨rfl, h2⟩
      have h3 : numV k [(m : Int)] = fitB k m := by simp [numV, hw]
      rw [h3]
      exact ⟨_, rfl, fun _ => by simp, h2⟩

set_option maxHeartbeats 400000 in
theorem refText_any (s : ByteArray) (hs : s.size ≤ maxLen) (w : World) : Calls Tryz.prog 48 #[.string s] w fun e w' =>
    ∃ X, e = .returned (.tuple #[.string X, .bool (textV [s])]) ∧ (textV [s] = true → X = str (txt s)) ∧ Step noF w w' := by
  unfold maxLen at hs
  by_cases h : s.size ≤ 255
  · have ht : Hid (textV [s] = true) := by show _ = _; simp [textV, h]
    have hw : IntKind.u8.wrap (s.size : Int) = (s.size : Int) := by simp [IntKind.wrap, IntKind.bits, IntKind.signed]; omega
    have hcv := run_string_block (P := Tryz.prog) (w.alloc (.cells #[.int .u8 (s.size : Int)] 5)) 85 9 5 Tryz.underlying85 Tryz.underlying5 Tryz.underlying9 w.heap.size 1 1 _ [UInt8.ofNat s.size] (block_alloc_new _ _) (by simp [cellsOf]; omega) rfl
    go_enter Tryz.func48, Tryz.ntmps48
    have hsz : (str [UInt8.ofNat s.size]).size + s.size ≤ 9223372036854775807 := by rw [str_size]; simp; omega
    go_wp2
    go_ret2
    rw [ht.out]
    exact ⟨_, rfl, fun _ => (str_append _ _), (Step.refl _ _).alloc _⟩
  · have ht : Hid (textV [s] = false) := by show _ = _; simp [textV, h]
    go_enter Tryz.func48, Tryz.ntmps48
    go_wp2
    go_ret2
    rw [ht.out]
    exact ⟨_, rfl, by simp, Step.refl _ _⟩
end Go.Proofs.YtoobelcphcndoaaGreat
namespace Go.Proofs.YtoobelcphcndoaaGreat
open Go.RowKit
set_option linter.unusedVariables false
set_option maxRecDepth 20000

theorem beN_be : ∀ (k n : Nat), n < 256 ^ k → beN (be k n) = n
  | 0, n, h => by simp at h; subst h; rfl
  | k + 1, n, h => by
    have ih := beN_be k (n / 256) (by rw [Nat.pow_succ] at h; omega)
    rw [show be (k + 1) n = be k (n / 256) ++ [UInt8.ofNat n] from rfl, beN_snoc, ih]
    simp
    omega

theorem raw_app (k : Nat) (a rest : List UInt8) (h : a.length = k) (e : Int) : rawV k (a ++ rest) = a ∧ rawL k (a ++ rest) = rest ∧ rawE k (a ++ rest) e = e := by
  subst h
  have h1 : (0 : Int) ≤ (a.length : Int) ∧ (a.length : Int) ≤ ((a ++ rest).length : Int) := by simp; omega
  refine ⟨?_, ?_, ?_⟩
  · rw [rawV, if_pos h1]; simp
  · rw [rawL, if_pos h1]; simp
  · rw [rawE, if_pos h1]

theorem num_app (k : Nat) (hk : k = 1 ∨ k = 2 ∨ k = 4 ∨ k = 8) (n : Nat) (h1 : n < 256 ^ k) (h2 : n ≤ 9223372036854775807) (rest : List UInt8) (e : Int) :
    numVal k (be k n ++ rest) = n ∧ numL k (be k n ++ rest) = rest ∧ numE k (be k n ++ rest) e = e := by
  obtain ⟨r1, r2, r3⟩ := raw_app k (be k n) rest (be_length k n) e
  have hw : isW (k : Int) = true := by rw [isW_iff]; omega
  have hok : numOk k (be k n ++ rest) = true := by
    unfold numOk
    rw [r1, beN_be k n h1, hw]
    simpa using h2
  refine ⟨?_, ?_, ?_⟩
  · rw [numVal, if_pos hok, r1, beN_be k n h1]
  · rw [numL, if_pos hok, r2]
  · rw [numE, if_pos hok, r3]

theorem text_app (s : ByteArray) (hs : s.size ≤ 255) (rest : List UInt8) (e : Int) :
    textVal 255 (txt s ++ rest) = s.data.toList ∧ textL 255 (txt s ++ rest) = rest ∧ textE 255 (txt s ++ rest) e = e := by
  have ht : txt s ++ rest = be 1 s.size ++ (s.data.toList ++ rest) := by simp [txt, be]
  obtain ⟨n1, n2, n3⟩ := num_app 1 (.inl rfl) s.size (by omega) (by omega) (s.data.toList ++ rest) e
  obtain ⟨r1, r2, r3⟩ := raw_app s.size s.data.toList rest (list_len s) e
  have hm : ¬ (255 : Int) < numVal 1 (txt s ++ rest) := by rw [ht]; rw [show ((1 : Int)) = ((1 : Nat) : Int) from rfl, n1]; omega
  have e1 : numVal 1 (txt s ++ rest) = s.size := by rw [ht]; exact n1
  have e2 : numL 1 (txt s ++ rest) = s.data.toList ++ rest := by rw [ht]; exact n2
  have e3 : numE 1 (txt s ++ rest) e = e := by rw [ht]; exact n3
  refine ⟨?_, ?_, ?_⟩
  · rw [textVal, if_neg hm, e1, e2, r1]
  · rw [textL, if_neg hm, e1, e2, r2]
  · rw [textE, if_neg hm, e1, e2, e3, r3]

theorem be_mod : ∀ (k n : Nat), be k (n % 256 ^ k) = be k n
  | 0, n => rfl
  | k + 1, n => by
    rw [show be (k + 1) n = be k (n / 256) ++ [UInt8.ofNat n] from rfl, show be (k + 1) (n % 256 ^ (k + 1)) = be k (n % 256 ^ (k + 1) / 256) ++ [UInt8.ofNat (n % 256 ^ (k + 1))] from rfl]
    have h1 : n % 256 ^ (k + 1) / 256 = n / 256 % 256 ^ k := by
      rw [Nat.pow_succ, Nat.mul_comm, Nat.mod_mul_right_div_self]
    have h2 : UInt8.ofNat (n % 256 ^ (k + 1)) = UInt8.ofNat n := by
      apply UInt8.toNat_inj.1
      simp
      rw [Nat.mod_mod_of_dvd]
      exact Nat.dvd_trans (Nat.dvd_refl _) (by rw [Nat.pow_succ]; exact Nat.dvd_mul_left _ _)
    rw [h1, h2, be_mod k (n / 256)]

theorem bytesLess_be : ∀ (k a b : Nat), a < 256 ^ k → b < 256 ^ k → Op.bytesLess (be k a) (be k b) = decide (a < b)
  | 0, a, b, ha, hb => by
    simp at ha hb
    subst ha hb
    rfl
  | k + 1, a, b, ha, hb => by
    have hp : 0 < 256 ^ k := Nat.pow_pos (by omega)
    have ih := bytesLess_be k (a % 256 ^ k) (b % 256 ^ k) (Nat.mod_lt _ hp) (Nat.mod_lt _ hp)
    rw [be_mod, be_mod] at ih
    rw [be_cons k a, be_cons k b]
    simp only [Op.bytesLess, ih]
    have ha2 : a / 256 ^ k < 256 := by rw [Nat.div_lt_iff_lt_mul hp]; rw [Nat.pow_succ] at ha; omega
    have hb2 : b / 256 ^ k < 256 := by rw [Nat.div_lt_iff_lt_mul hp]; rw [Nat.pow_succ] at hb; omega
    have ea := Nat.div_add_mod a (256 ^ k)
    have eb := Nat.div_add_mod b (256 ^ k)
    have la := Nat.mod_lt a hp
    have lb := Nat.mod_lt b hp
    have hlt : (UInt8.ofNat (a / 256 ^ k) < UInt8.ofNat (b / 256 ^ k)) ↔ a / 256 ^ k < b / 256 ^ k := by
      rw [UInt8.lt_iff_toNat_lt]; simp; rw [Nat.mod_eq_of_lt ha2, Nat.mod_eq_of_lt hb2]
    have heq : (UInt8.ofNat (a / 256 ^ k) = UInt8.ofNat (b / 256 ^ k)) ↔ a / 256 ^ k = b / 256 ^ k := by
      rw [← UInt8.toNat_inj]; simp; rw [Nat.mod_eq_of_lt ha2, Nat.mod_eq_of_lt hb2]
    rw [Bool.eq_iff_iff]
    simp only [Bool.or_eq_true, Bool.and_eq_true, decide_eq_true_eq, beq_iff_eq, hlt, heq]
    generalize a / 256 ^ k = x at *
    generalize b / 256 ^ k = y at *
    generalize a % 256 ^ k = u at *
    generalize b % 256 ^ k = v at *
    generalize 256 ^ k = m at *
    subst ea eb
    constructor
    · rintro (h | ⟨rfl, h⟩)
      · have : m * (x + 1) ≤ m * y := Nat.mul_le_mul_left _ h
        rw [Nat.mul_add] at this
        omega
      · omega
    · intro h
      by_cases hxy : x < y
      · exact .inl hxy
      · right
        have hle : y ≤ x := by omega
        by_cases e : x = y
        · subst e; exact ⟨rfl, by omega⟩
        · have : m * (y + 1) ≤ m * x := Nat.mul_le_mul_left _ (by omega)
          rw [Nat.mul_add] at this
          omega
end Go.Proofs.YtoobelcphcndoaaGreat
