/-
  What Number and Value do, of the program and of the reference.
-/
import Derived.Test.YtnalillebemglaaGreatKeyE
import Derived.Test.YtnalillebemglaaGreatPenE
namespace Go.Proofs.YtnalillebemglaaGreat
open Go.RowKit
set_option linter.unusedVariables false
set_option linter.unusedSimpArgs false

/-- A value's number. -/
def numOf (l : List UInt8) : Nat := if l.length = 8 then beN l else 0
def numV2 (l : List UInt8) : Value := .tuple #[.int .u64 (numOf l : Int), .bool (decide (l.length = 8))]
theorem num4 (l : List UInt8) (e : Int) : numVal 4 l = (beN (rawV 4 l) : Int) ∧ numL 4 l = rawL 4 l ∧ numE 4 l e = rawE 4 l e := by
  have hb : beN (rawV 4 l) ≤ 9223372036854775807 := by
    have h1 := beN_lt (rawV 4 l)
    have h2 : (rawV 4 l).length ≤ 4 := by unfold rawV; split <;> simp; omega
    have h3 : 256 ^ (rawV 4 l).length ≤ 256 ^ 4 := Nat.pow_le_pow_right (by omega) h2
    omega
  have hok : numOk 4 l = true := by unfold numOk; simp [isW, hb]
  exact ⟨by rw [numVal, if_pos hok], by rw [numL, if_pos hok], by rw [numE, if_pos hok]⟩
theorem beN_from (b : List UInt8) : ∀ x : Nat, b.foldl (fun a b => a * 256 + b.toNat) x = x * 256 ^ b.length + beN b := by
  induction b with
  | nil => intro x; simp [beN]
  | cons c b ih =>
    intro x
    have h := ih c.toNat
    have e : beN (c :: b) = b.foldl (fun a b => a * 256 + b.toNat) c.toNat := by simp [beN]
    rw [List.foldl_cons, ih, e, h, List.length_cons, Nat.pow_succ, Nat.add_mul, Nat.mul_assoc, Nat.mul_comm 256, Nat.add_assoc]
theorem beN_append (a b : List UInt8) : beN (a ++ b) = beN a * 256 ^ b.length + beN b := by
  rw [← beN_from]
  simp [beN]

theorem or_half (a b : Nat) (ha : a < 4294967296) (hb : b < 4294967296) : bits .or .u64 ((a : Int) * 4294967296) (b : Int) = ((a * 4294967296 + b : Nat) : Int) := by
  have e : ((a : Int) * 4294967296) = ((a * 4294967296 : Nat) : Int) := by omega
  rw [e, u64_or_nat (a * 4294967296) b (by omega) (by omega)]
  have := Nat.two_pow_add_eq_or_of_lt (b := b) (i := 32) (by omega) a
  rw [show a * 4294967296 = 2 ^ 32 * a by omega, ← this]

theorem ret_nb {l : List UInt8} {a c : Int} {b : Bool} (h : numV2 l = .tuple #[.int .u64 a, .bool b]) (hc : a = c) : Ending.returned (.tuple #[.int .u64 c, .bool b]) = .returned (numV2 l) := by rw [h, hc]

set_option maxHeartbeats 1000000 in
theorem keyNumber_any (l : List UInt8) (hl : l.length ≤ maxLen) (w : World) : Calls Tryz.prog 105 #[.string (str l)] w fun e w' => e = .returned (numV2 l) ∧ Step noF w w' := by
  obtain ⟨a1, a2, a3⟩ := num4 l 0
  obtain ⟨b1, b2, b3⟩ := num4 (rawL 4 l) (rawE 4 l 0)
  by_cases h8 : l.length = 8
  · have r1 : rawV 4 l = l.take 4 := by rw [rawV, if_pos (by omega)]; rfl
    have r2 : rawL 4 l = l.drop 4 := by rw [rawL, if_pos (by omega)]; rfl
    have r3 : rawE 4 l 0 = 0 := by rw [rawE, if_pos (by omega)]
    rw [r2] at b1 b2 b3
    rw [r3] at b3
    have hd : (l.drop 4).length = 4 := by rw [List.length_drop]; omega
    have s1 : rawV 4 (l.drop 4) = l.drop 4 := by rw [rawV, if_pos (by omega)]; exact List.take_of_length_le (by omega)
    have s2 : rawL 4 (l.drop 4) = [] := by rw [rawL, if_pos (by omega)]; exact List.drop_of_length_le (by omega)
    have s3 : rawE 4 (l.drop 4) 0 = 0 := by rw [rawE, if_pos (by omega)]
    rw [s1] at b1
    rw [s2] at b2
    rw [s3] at b3
    rw [r1] at a1
    rw [r2] at a2
    rw [r3] at a3
    have n1 := beN_lt (l.take 4)
    have n2 := beN_lt (l.drop 4)
    rw [hd] at n2
    rw [List.length_take, Nat.min_eq_left (by omega)] at n1
    have HN : Hid (numV2 l = .tuple #[.int .u64 ((beN (l.take 4) * 4294967296 + beN (l.drop 4) : Nat) : Int), .bool true]) := by
      show _ = _
      have e : beN l = beN (l.take 4) * 4294967296 + beN (l.drop 4) := by
        conv => lhs; rw [← List.take_append_drop 4 l, beN_append, hd]
      rw [numV2, numOf, if_pos h8, e]
      simp [h8]
    obtain ⟨hi, hhi⟩ : ∃ hi, beN (l.take 4) = hi := ⟨_, rfl⟩
    obtain ⟨lo, hlo⟩ : ∃ lo, beN (l.drop 4) = lo := ⟨_, rfl⟩
    rw [hhi] at HN n1 a1
    rw [hlo] at HN n2 b1
    have HA := hid (And.intro a1 (And.intro a2 a3))
    have HB := hid (And.intro b1 (And.intro b2 b3))
    have HL := hid hl
    have hd2 : Hid ((l.drop 4).length ≤ maxLen) := by show _ ≤ _; rw [hd]; decide
    have ho : bits .or .u64 ((hi : Int) * 4294967296) (lo : Int) = ((hi * 4294967296 + lo : Nat) : Int) := or_half hi lo (by omega) (by omega)
    have hx : (hi : Int) < 4294967296 := by omega
    have hy : (lo : Int) < 4294967296 := by omega
    clear r1 r2 r3 hd s1 s2 s3 a1 a2 a3 b1 b2 b3 hhi hlo n1 n2 hl h8
    go_enter Tryz.func105, Tryz.ntmps105
    go_wp2_with fail
    refine (of_any l w).mono ?_
    rintro e w1 ⟨rfl, s1, i1, z1⟩
    have I1 := hid i1
    have Z1 := hid z1
    clear i1 z1
    go_wp2_with fail
    refine (inNum_call 4 w.heap.size l 0 _ I1.out HL.out hi (l.drop 4) 0 HA.out.1 HA.out.2.1 HA.out.2.2).mono ?_
    rintro e w2 ⟨rfl, s2, i2⟩
    have I2 := hid i2
    clear i2
    go_wp2_with fail
    refine (inNum_call 4 w.heap.size (l.drop 4) 0 _ I2.out hd2.out lo [] 0 HB.out.1 HB.out.2.1 HB.out.2.2).mono ?_
    rintro e w3 ⟨rfl, s3, i3⟩
    have I3 := hid i3
    clear i3
    go_wp2_with fail
    refine (end_call w.heap.size [] 0 _ I3.out 0 rfl).mono ?_
    rintro e w4 ⟨rfl, rfl⟩
    go_wp2_with fail
    go_ret2
    exact ⟨ret_nb HN.out (by omega), (s1.then s2 (fun i hi => .inr (by cases hi; exact Nat.le_refl _))).then s3 (fun i hi => .inr (by cases hi; exact Nat.le_refl _))⟩
  · have HE : Hid (endE (numL 4 (numL 4 l)) (numE 4 (numL 4 l) (numE 4 l 0)) = 5) := by
      show _ = _
      rw [a2, a3, b2, b3]
      by_cases h4 : 4 ≤ l.length
      · have r2 : rawL 4 l = l.drop 4 := by rw [rawL, if_pos (by omega)]; rfl
        have r3 : rawE 4 l 0 = 0 := by rw [rawE, if_pos (by omega)]
        rw [r2, r3]
        have hd : (l.drop 4).length = l.length - 4 := by rw [List.length_drop]
        by_cases h9 : 8 ≤ l.length
        · have s2 : rawL 4 (l.drop 4) = (l.drop 4).drop 4 := by rw [rawL, if_pos (by omega)]; rfl
          rw [s2, endE, if_neg (by rw [List.length_drop]; omega)]
        · have s2 : rawL 4 (l.drop 4) = [] := by rw [rawL, if_neg (by omega)]
          have s3 : rawE 4 (l.drop 4) 0 = 5 := by rw [rawE, if_neg (by omega)]
          rw [s2, s3]
          rfl
      · have r2 : rawL 4 l = [] := by rw [rawL, if_neg (by omega)]
        have r3 : rawE 4 l 0 = 5 := by rw [rawE, if_neg (by omega)]
        rw [r2, r3]
        rfl
    have HL := hid hl
    have HL2 : Hid ((numL 4 l).length ≤ maxLen) := Nat.le_trans (numL_len 4 l) hl
    have HN : Hid (numV2 l = .tuple #[.int .u64 0, .bool false]) := by
      show _ = _
      rw [numV2, numOf, if_neg h8]
      simp [h8]
    clear a1 a2 a3 b1 b2 b3 hl h8
    obtain ⟨L1, hL1⟩ : ∃ L1, numL 4 l = L1 := ⟨_, rfl⟩
    obtain ⟨E1, hE1⟩ : ∃ E1, numE 4 l 0 = E1 := ⟨_, rfl⟩
    obtain ⟨X1, hX1⟩ : ∃ X1, numVal 4 l = X1 := ⟨_, rfl⟩
    rw [hL1] at HE HL2
    rw [hE1] at HE
    obtain ⟨L2, hL2⟩ : ∃ L2, numL 4 L1 = L2 := ⟨_, rfl⟩
    obtain ⟨E2, hE2⟩ : ∃ E2, numE 4 L1 E1 = E2 := ⟨_, rfl⟩
    obtain ⟨X2, hX2⟩ : ∃ X2, numVal 4 L1 = X2 := ⟨_, rfl⟩
    rw [hL2, hE2] at HE
    have K1 := hid (And.intro hX1 (And.intro hL1 hE1))
    have K2 := hid (And.intro hX2 (And.intro hL2 hE2))
    clear hL1 hE1 hX1 hL2 hE2 hX2
    go_enter Tryz.func105, Tryz.ntmps105
    go_wp2_with fail
    refine (of_any l w).mono ?_
    rintro e w1 ⟨rfl, s1, i1, z1⟩
    have I1 := hid i1
    have Z1 := hid z1
    clear i1 z1
    go_wp2_with fail
    refine (inNum_call 4 w.heap.size l 0 _ I1.out HL.out X1 L1 E1 K1.out.1 K1.out.2.1 K1.out.2.2).mono ?_
    rintro e w2 ⟨rfl, s2, i2⟩
    have I2 := hid i2
    clear i2
    go_wp2_with fail
    refine (inNum_call 4 w.heap.size L1 E1 _ I2.out HL2.out X2 L2 E2 K2.out.1 K2.out.2.1 K2.out.2.2).mono ?_
    rintro e w3 ⟨rfl, s3, i3⟩
    have I3 := hid i3
    clear i3
    go_wp2_with fail
    refine (end_call w.heap.size L2 E2 _ I3.out 5 HE.out).mono ?_
    rintro e w4 ⟨rfl, rfl⟩
    go_wp2_with fail
    go_ret2
    exact ⟨ret_nb HN.out rfl, (s1.then s2 (fun i hi => .inr (by cases hi; exact Nat.le_refl _))).then s3 (fun i hi => .inr (by cases hi; exact Nat.le_refl _))⟩
set_option maxHeartbeats 1000000 in
theorem refNumber_any (l : List UInt8) (w : World) : Calls Tryz.prog 106 #[.string (str l)] w fun e w' => e = .returned (numV2 l) ∧ w = w' := by
  have hz := str_size
  by_cases h8 : l.length = 8
  · have HN : Hid (numV2 l = .tuple #[.int .u64 (beN l : Int), .bool true]) := by
      show _ = _
      rw [numV2, numOf, if_pos h8]
      simp [h8]
    go_enter Tryz.func106, Tryz.ntmps106
    go_wp2_with fail
    go_loopw [4, 5] (fun n i wr => ∃ j : Nat, j ≤ 8 ∧ i = .int .i64 j ∧ n = .int .u64 (beN (l.take j) : Int) ∧ w = wr) (fun _ i _ => 8 - (intOf i).toNat)
    case atStart => exact ⟨0, Nat.zero_le _, rfl, rfl, rfl⟩
    case round =>
      obtain ⟨j, hj, rfl, rfl, rfl⟩ := hrel
      clear hz
      by_cases hj8 : j < 8
      · have hji : (j : Int) < 8 := by omega
        have hjl : j < l.length := by omega
        have hT : Hid (beN (l.take (j + 1)) = beN (l.take j) * 256 + l[j].toNat) := by show _ = _; rw [List.take_succ_eq_append_getElem hjl, beN_snoc]
        have hb : beN (l.take j) < 72057594037927936 := by
          have h1 := beN_lt (l.take j)
          have h2 : 256 ^ (l.take j).length ≤ 256 ^ 7 := Nat.pow_le_pow_right (by omega) (by rw [List.length_take]; omega)
          omega
        have hb2 := UInt8.toNat_lt l[j]
        have hix : ∀ wx : World, (Instr.index 9 (.string (str l)) (.int .i64 (j : Int))).run Tryz.prog wx = .ok (.int .u8 (l[j].toNat : Int)) wx := fun wx => run_index_str _ Tryz.underlying9 l j hjl wx
        obtain ⟨x, hx⟩ : ∃ x, l[j].toNat = x := ⟨_, rfl⟩
        obtain ⟨y, hy⟩ : ∃ y, beN (l.take j) = y := ⟨_, rfl⟩
        rw [hx] at hb2 hix hT
        rw [hy] at hb hT ⊢
        clear hx hy hjl h8
        go_wp2_with fail
        go_roundw
        case rel => exact ⟨j + 1, by omega, int_eq (by omega), int_eq (by rw [hT.out]; omega), by first | trivial | rfl⟩
        case measure => simp [intOf]; omega
      · obtain rfl : j = 8 := by omega
        rw [List.take_of_length_le (by omega)]
        go_wp2_with fail
        go_ret2
        exact ⟨ret_nb HN.out rfl, rfl⟩
  · have HN : Hid (numV2 l = .tuple #[.int .u64 0, .bool false]) := by
      show _ = _
      rw [numV2, numOf, if_neg h8]
      simp [h8]
    have h9 : ((l.length : Int) == 8) = false := by rw [beq_eq_false_iff_ne]; omega
    go_enter Tryz.func106, Tryz.ntmps106
    go_wp2_with fail
    go_ret2
    exact ⟨ret_nb HN.out rfl, rfl⟩
end Go.Proofs.YtnalillebemglaaGreat
namespace Go.Proofs.YtnalillebemglaaGreat
open Go.RowKit
set_option linter.unusedVariables false
set_option linter.unusedSimpArgs false

theorem be_add (j : Nat) : ∀ k n : Nat, be (j + k) n = be j (n / 256 ^ k) ++ be k n
  | 0, n => by simp [be]
  | k + 1, n => by
    rw [show j + (k + 1) = (j + k) + 1 by omega]
    rw [show be ((j + k) + 1) n = be (j + k) (n / 256) ++ [UInt8.ofNat n] from rfl, be_add j k (n / 256), Nat.div_div_eq_div_mul, show 256 * 256 ^ k = 256 ^ (k + 1) by rw [Nat.pow_succ]; omega]
    rw [show be (k + 1) n = be k (n / 256) ++ [UInt8.ofNat n] from rfl, List.append_assoc]

set_option maxHeartbeats 1000000 in
theorem keyValue_any (n : Nat) (hn : n < 18446744073709551616) (w : World) : Calls Tryz.prog 53 #[.int .u64 n] w fun e w' => e = .returned (.string (str (be 8 n))) ∧ Step noF w w' := by
  obtain ⟨hi, hhi⟩ : ∃ hi, n / 4294967296 = hi := ⟨_, rfl⟩
  obtain ⟨lo, hlo⟩ : ∃ lo, n % 4294967296 = lo := ⟨_, rfl⟩
  have hB : Hid (be 8 n = be 4 hi ++ be 4 lo) := by
    show _ = _
    have h1 := be_add 4 4 n
    have h2 := be_mod 4 n
    rw [show (256 : Nat) ^ 4 = 4294967296 by rfl] at h1 h2
    rw [← hhi, ← hlo, h2]
    exact h1
  have b1 : hi < 4294967296 := by omega
  have b2 : lo < 4294967296 := by omega
  have d1 : ((n : Int) / 4294967296) = (hi : Int) := by omega
  have d2 : ((n : Int) % 4294967296) = (lo : Int) := by omega
  have d3 : ((n : Int).tdiv 4294967296) = (hi : Int) := by rw [Int.tdiv_eq_ediv_of_nonneg (by omega)]; exact d1
  have d4 : ((n : Int).tmod 4294967296) = (lo : Int) := by rw [Int.tmod_eq_emod_of_nonneg (by omega)]; exact d2
  have hV : Hid (numV 4 [(hi : Int), (lo : Int)] = true) := by
    show _ = _
    have e4 : ((256 : Int) ^ (4 : Int).toNat) = 4294967296 := by rfl
    simp only [numV, isW, List.all_cons, List.all_nil, fitB, e4]
    simp
    omega
  have hN : Hid ([] ++ numB 4 [(hi : Int), (lo : Int)] = be 8 n) := by
    show _ = _
    rw [numB, if_pos hV.out, hB.out]
    simp
  have hI : Hid (inI64 [(hi : Int), (lo : Int)]) := by
    intro z hz
    simp at hz
    omega
  clear hhi hlo hB
  go_enter Tryz.func53, Tryz.ntmps53
  go_wp2_with fail
  have O1 : IsOut ((w.alloc (.cells #[.slice none 0 0] 122)).alloc (.cells #[.int .i64 hi, .int .i64 lo] 3)) w.heap.size (oneF w.heap.size) [] := (newOut w).step ((Step.refl noF _).alloc _)
  have R1 : RowAt ((w.alloc (.cells #[.slice none 0 0] 122)).alloc (.cells #[.int .i64 hi, .int .i64 lo] 3)) (oneF w.heap.size) (some ⟨w.heap.size + 1, 0, none⟩) (intsOf [(hi : Int), (lo : Int)]) := by
    refine rowAt_new _ _ (fun k hk => ?_) _ _ _ (by rw [World.size_alloc]) _ rfl
    cases hk
    rw [World.size_alloc]
    omega
  refine (num_call 4 [(hi : Int), (lo : Int)] 2 rfl hI.out (by simp) _ 2 w.heap.size (oneF w.heap.size) [] _ O1 (by simp) R1 (be 8 n) hN.out 0 (by rw [hV.out]; rfl)).mono ?_
  rintro e w2 ⟨rfl, F', s2, o2, f2⟩
  have HO := hid o2
  clear o2 O1 R1
  go_wp2_with fail
  refine (bytes_any w.heap.size F' (be 8 n) _ HO.out).mono ?_
  rintro e w3 ⟨rfl, rfl⟩
  go_wp2_with fail
  go_ret
  exact ⟨rfl, (((Step.refl noF w).alloc _).alloc _).then s2 (fun i hi => .inr (by cases hi; exact Nat.le_refl _))⟩

set_option maxHeartbeats 1000000 in
theorem refValue_any (n : Nat) (hn : n < 18446744073709551616) (w : World) : Calls Tryz.prog 107 #[.int .u64 n] w fun e w' => e = .returned (.string (str (be 8 n))) ∧ Step noF w w' := by
  have hmk8 := mk_bytes 8 (by omega) (by omega)
  go_enter Tryz.func107, Tryz.ntmps107
  go_wp2
  go_loopw [0, 4] (fun x i wr => ∃ (j m : Nat) (A : Array Value), j + m = 8 ∧ i = .int .i64 ((m : Int) - 1) ∧ x = .int .u64 ((n / 256 ^ j : Nat) : Int) ∧ Step noF w wr ∧ wr.heap[w.heap.size]? = some (.cells A 5 (0, 0)) ∧ A.toList = List.replicate m (.int .u8 0) ++ cellsOf (be j n)) (fun _ i _ => (intOf i + 1).toNat)
  case atStart => exact ⟨0, 8, _, by omega, rfl, int_eq (by simp), (Step.refl _ _).alloc _, block_alloc_new _ _, by rw [toList_madeCells_one]; simp [be, cellsOf]⟩
  case round =>
    obtain ⟨j, m, A, hjm, rfl, rfl, hst, hblk, hA⟩ := hrel
    by_cases hm : 0 < m
    · have hm8 : (m : Int) - 1 < 8 := by omega
      have hsz : A.size = m + j := by rw [← Array.length_toList, hA]; simp [cellsOf, be_length]
      obtain ⟨u, hc⟩ : ∃ u, wr.cell? ⟨w.heap.size, m - 1, none⟩ = some u := ⟨_, (cell_of_block hblk (m - 1)).trans (Array.getElem?_eq_getElem (by omega))⟩
      have hf := frozen_of_block hblk (m - 1)
      have hx : (n / 256 ^ j : Nat) < 18446744073709551616 := Nat.lt_of_le_of_lt (Nat.div_le_self _ _) hn
      have hx0 : Hid (n / 256 ^ j / 256 = n / 256 ^ (j + 1)) := by show _ = _; rw [Nat.div_div_eq_div_mul, Nat.pow_succ]
      have hbe := hid (be_cons j n)
      have HB := hid hblk
      have HA := hid hA
      clear hblk hA hsz
      generalize n / 256 ^ j = x at *
      have ei : ((m : Int) - 1).toNat = m - 1 := by omega
      go_wp2
      go_roundw
      case rel =>
        refine ⟨j + 1, m - 1, _, by omega, int_eq (by omega), int_eq (by rw [← hx0.out]; simp), (hst.setCell (p := ⟨w.heap.size, m - 1, none⟩) (.inr (Nat.le_refl _)) _), block_setCell HB.out _ _, ?_⟩
        rw [Array.toList_setIfInBounds, HA.out, set_replicate m hm, hbe.out]
        simp [cellsOf]
      case measure => simp [intOf]; omega
    · obtain rfl : m = 0 := by omega
      obtain rfl : j = 8 := by omega
      have hs := run_string_block (P := Tryz.prog) wr 120 9 5 Tryz.underlying120 Tryz.underlying5 Tryz.underlying9 w.heap.size 8 8 A (be 8 n) hblk (by rw [hA]; simp) (be_length _ _).symm
      generalize n / 256 ^ 8 = x at *
      go_wp2
      go_ret
      exact ⟨rfl, hst⟩
end Go.Proofs.YtnalillebemglaaGreat
namespace Go.Proofs.YtnalillebemglaaGreat
open Go.RowKit
set_option linter.unusedVariables false
set_option linter.unusedSimpArgs false

/-- A message. -/
structure Mg where
  kind : Int
  key : List UInt8
  val : List UInt8
theorem Mg.ext' {a b : Mg} (h1 : a.kind = b.kind) (h2 : a.key = b.key) (h3 : a.val = b.val) : a = b := by
  cases a
  cases b
  simp_all
/-- As the program holds it. -/
def Mg.value (m : Mg) : Value := .agg #[.int .i64 m.kind, .string (str m.key), .string (str m.val)]
def Mg.zero : Mg := ⟨0, [], []⟩
/-- A message of that kind may have v. -/
def isV (k : Int) (v : List UInt8) : Bool := if k = 1 then decide (v.length ≤ 16) else if k = 2 then decide (v = []) else if k = 3 then decide (v.length = 8) else false
def Mg.is (m : Mg) : Bool := isK m.key && isV m.kind m.val
/-- Both numbers' sum, round and round. -/
def sumL (a b : List UInt8) : List UInt8 := be 8 ((numOf a + numOf b) % 18446744073709551616)
def moreL (v a : List UInt8) : List UInt8 := if v.length = 8 ∧ a.length = 8 then sumL v a else v
def Mg.appV (m : Mg) (v : List UInt8) (has : Bool) : List UInt8 := if m.is then (if m.kind = 2 then [] else if m.kind = 3 ∧ has = true then moreL v m.val else m.val) else if has then v else []
def Mg.appH (m : Mg) (has : Bool) : Bool := if m.is then decide (m.kind ≠ 2) else has
/-- Two can go together. -/
def Mg.both (a b : Mg) : Bool := a.is && b.is && decide (a.key = b.key)
def Mg.then (a b : Mg) : Mg := if a.both b then (if b.kind = 3 then (if a.kind = 3 then ⟨3, a.key, sumL a.val b.val⟩ else if a.kind = 2 then ⟨1, a.key, b.val⟩ else ⟨1, a.key, moreL a.val b.val⟩) else b) else Mg.zero
def Mg.thenE (a b : Mg) : Int := if a.both b then 0 else 1

theorem numOf_lt (l : List UInt8) : numOf l < 18446744073709551616 := by
  unfold numOf
  split
  · rename_i h
    have := beN_lt l
    rw [h] at this
    omega
  · omega
theorem numOf_be (n : Nat) (h : n < 18446744073709551616) : numOf (be 8 n) = n := by
  rw [numOf, if_pos (be_length 8 n), beN_be 8 n (by omega)]
theorem sumL_length (a b : List UInt8) : (sumL a b).length = 8 := be_length 8 _
theorem numOf_sum (a b : List UInt8) : numOf (sumL a b) = (numOf a + numOf b) % 18446744073709551616 := by
  rw [sumL, numOf_be _ (by omega)]
theorem sumL_assoc (a b c : List UInt8) : sumL (sumL a b) c = sumL a (sumL b c) := by
  rw [sumL, numOf_sum, sumL, numOf_sum]
  congr 1
  omega
theorem sumL_comm (a b : List UInt8) : sumL a b = sumL b a := by
  rw [sumL, sumL, Nat.add_comm]
theorem moreL_length (v a : List UInt8) (h : v.length ≤ 16) : (moreL v a).length ≤ 16 := by
  unfold moreL
  split
  · rw [sumL_length]; omega
  · exact h
theorem moreL_eight (v a : List UInt8) (h : v.length = 8) (h2 : a.length = 8) : moreL v a = sumL v a := by rw [moreL, if_pos ⟨h, h2⟩]
theorem moreL_more (v a b : List UInt8) (ha : a.length = 8) (hb : b.length = 8) : moreL (moreL v a) b = moreL v (sumL a b) := by
  by_cases h : v.length = 8
  · rw [moreL_eight v a h ha, moreL_eight _ b (sumL_length _ _) hb, moreL_eight v _ h (sumL_length _ _), sumL_assoc]
  · have e : ∀ x : List UInt8, moreL v x = v := fun x => by rw [moreL, if_neg (fun y => h y.1)]
    rw [e, e, e]

theorem isV_iff (k : Int) (v : List UInt8) : isV k v = true ↔ (k = 1 ∧ v.length ≤ 16) ∨ (k = 2 ∧ v = []) ∨ (k = 3 ∧ v.length = 8) := by
  unfold isV
  grind
theorem is_iff (m : Mg) : m.is = true ↔ isK m.key = true ∧ ((m.kind = 1 ∧ m.val.length ≤ 16) ∨ (m.kind = 2 ∧ m.val = []) ∨ (m.kind = 3 ∧ m.val.length = 8)) := by
  unfold Mg.is
  rw [Bool.and_eq_true, isV_iff]

/-- What two of one key make. -/
theorem both_of {a b : Mg} (ha : a.is = true) (hb : b.is = true) (hk : b.key = a.key) : a.both b = true := by simp [Mg.both, ha, hb, hk]
theorem then_good {a b : Mg} (ha : a.is = true) (hb : b.is = true) (hk : b.key = a.key) : (a.then b).is = true ∧ (a.then b).key = a.key := by
  have h0 := both_of ha hb hk
  obtain ⟨k1, a1⟩ := (is_iff a).1 ha
  obtain ⟨k2, b1⟩ := (is_iff b).1 hb
  rw [Mg.then, if_pos h0]
  by_cases b3 : b.kind = 3
  · have bl : b.val.length = 8 := by grind
    rw [if_pos b3]
    by_cases a3 : a.kind = 3
    · rw [if_pos a3]
      exact ⟨(is_iff _).2 ⟨k1, .inr (.inr ⟨rfl, sumL_length _ _⟩)⟩, rfl⟩
    · rw [if_neg a3]
      by_cases a2 : a.kind = 2
      · rw [if_pos a2]
        exact ⟨(is_iff _).2 ⟨k1, .inl ⟨rfl, by show b.val.length ≤ 16; omega⟩⟩, rfl⟩
      · rw [if_neg a2]
        exact ⟨(is_iff _).2 ⟨k1, .inl ⟨rfl, moreL_length _ _ (by grind)⟩⟩, rfl⟩
  · rw [if_neg b3]
    exact ⟨hb, hk⟩
/-- A message that can be, by its three kinds. -/
theorem Mg.cases {m : Mg} (h : m.is = true) : (m.kind = 1 ∧ m.val.length ≤ 16) ∨ (m.kind = 2 ∧ m.val = []) ∨ (m.kind = 3 ∧ m.val.length = 8) := ((is_iff m).1 h).2
theorem app_then {a b : Mg} (ha : a.is = true) (hb : b.is = true) (hk : b.key = a.key) (v : List UInt8) (has : Bool) :
    b.appV (a.appV v has) (a.appH has) = (a.then b).appV v has ∧ b.appH (a.appH has) = (a.then b).appH has := by
  have h0 := both_of ha hb hk
  obtain ⟨hc, hk2⟩ := then_good ha hb hk
  have ca := Mg.cases ha
  have cb := Mg.cases hb
  unfold Mg.appV Mg.appH
  rw [if_pos hb, if_pos ha, if_pos hc, if_pos ha, if_pos hb, if_pos hc]
  rw [Mg.then, if_pos h0]
  rcases cb with ⟨kb, lb⟩ | ⟨kb, lb⟩ | ⟨kb, lb⟩
  · simp [kb]
  · simp [kb]
  · rcases ca with ⟨ka, la⟩ | ⟨ka, la⟩ | ⟨ka, la⟩
    · simp [kb, ka]
    · simp [kb, ka]
    · cases has
      · simp [kb, ka, moreL_eight _ _ la lb]
      · simp [kb, ka, moreL_more _ _ _ la lb]
theorem then_assoc {a b c : Mg} (ha : a.is = true) (hb : b.is = true) (hc : c.is = true) (hk : b.key = a.key) (hk2 : c.key = a.key) : (a.then b).then c = a.then (b.then c) := by
  obtain ⟨g1, g2⟩ := then_good ha hb hk
  obtain ⟨g3, g4⟩ := then_good hb hc (hk2.trans hk.symm)
  have h0 := both_of ha hb hk
  have h1 := both_of hb hc (hk2.trans hk.symm)
  have h2 := both_of g1 hc (hk2.trans g2.symm)
  have h3 := both_of ha g3 (g4.trans hk)
  have ca := Mg.cases ha
  have cb := Mg.cases hb
  have cc := Mg.cases hc
  conv => lhs; rw [Mg.then, if_pos h2]
  conv => rhs; rw [Mg.then, if_pos h3]
  rw [Mg.then, if_pos h0, Mg.then, if_pos h1]
  rcases cc with ⟨kc, lc⟩ | ⟨kc, lc⟩ | ⟨kc, lc⟩
  · simp [kc]
  · simp [kc]
  · rcases cb with ⟨kb, lb⟩ | ⟨kb, lb⟩ | ⟨kb, lb⟩
    · simp [kc, kb, hk]
    · simp [kc, kb, hk]
    · rcases ca with ⟨ka, la⟩ | ⟨ka, la⟩ | ⟨ka, la⟩
      · simp [kc, kb, ka, moreL_more _ _ _ lb lc]
      · simp [kc, kb, ka, moreL_eight _ _ lb lc]
      · simp [kc, kb, ka, sumL_assoc]
/-- A message in memory. -/
def TripAt (w : World) (g : Nat) (t : TypeId) (m : Mg) : Prop := w.heap[g]? = some (.cells #[.int .i64 m.kind, .string (str m.key), .string (str m.val)] t (0, 0))
theorem TripAt.all {w : World} {g : Nat} {t : TypeId} {m : Mg} (h : TripAt w g t m) : w.cell? ⟨g, 0, none⟩ = some (.int .i64 m.kind) ∧ w.cell? ⟨g, 1, none⟩ = some (.string (str m.key)) ∧ w.cell? ⟨g, 2, none⟩ = some (.string (str m.val)) ∧
    w.frozen? ⟨g, 0, none⟩ = false ∧ w.frozen? ⟨g, 1, none⟩ = false ∧ w.frozen? ⟨g, 2, none⟩ = false :=
  ⟨by simpa using cell_of_block h 0, by simpa using cell_of_block h 1, by simpa using cell_of_block h 2, frozen_of_block h 0, frozen_of_block h 1, frozen_of_block h 2⟩
theorem TripAt.step {w w' : World} {g : Nat} {t : TypeId} {m : Mg} (h : TripAt w g t m) (hs : Step noF w w') : TripAt w' g t m := (hs.block g (lt_of_block h) (fun x => x)).trans h
theorem TripAt.alloc {w : World} {g : Nat} {t : TypeId} {m : Mg} (h : TripAt w g t m) (o : Obj) : TripAt (w.alloc o) g t m := block_alloc_old h o
theorem trip_new (w : World) (t : TypeId) (m : Mg) : TripAt (w.alloc (.cells #[.int .i64 m.kind, .string (str m.key), .string (str m.val)] t)) w.heap.size t m := block_alloc_new w _
/-- Behind a store of a whole one. -/
theorem TripAt.put {w : World} {g : Nat} {t : TypeId} {m : Mg} (h : TripAt w g t m) (n : Mg) : TripAt (((w.setCell ⟨g, 0, none⟩ (.int .i64 n.kind)).setCell ⟨g, 1, none⟩ (.string (str n.key))).setCell ⟨g, 2, none⟩ (.string (str n.val))) g t n := by
  have h1 := block_setCell h 0 (.int .i64 n.kind)
  have h2 := block_setCell h1 1 (.string (str n.key))
  have h3 := block_setCell h2 2 (.string (str n.val))
  simpa [TripAt] using h3
theorem TripAt.putOther {w : World} {g q : Nat} {t : TypeId} {m : Mg} (h : TripAt w g t m) (hq : q ≠ g) (x y z : Value) : TripAt (((w.setCell ⟨q, 0, none⟩ x).setCell ⟨q, 1, none⟩ y).setCell ⟨q, 2, none⟩ z) g t m := by
  show _ = _
  rw [Below.heap_setCell _ _ _ _ (fun e => hq e.symm), Below.heap_setCell _ _ _ _ (fun e => hq e.symm), Below.heap_setCell _ _ _ _ (fun e => hq e.symm)]
  exact h
theorem Step.put3 {F : Nat → Prop} {w w' : World} (h : Step F w w') (g : Nat) (hg : w.heap.size ≤ g) (x y z : Value) : Step F w (((w'.setCell ⟨g, 0, none⟩ x).setCell ⟨g, 1, none⟩ y).setCell ⟨g, 2, none⟩ z) :=
  ((h.setCell (p := ⟨g, 0, none⟩) (.inr hg) x).setCell (p := ⟨g, 1, none⟩) (.inr hg) y).setCell (p := ⟨g, 2, none⟩) (.inr hg) z
/-- Two that came in, and a third one, new. -/
theorem trip3 (w : World) (t : TypeId) (a b c : Mg) : let W := ((w.alloc (.cells #[.int .i64 a.kind, .string (str a.key), .string (str a.val)] t)).alloc (.cells #[.int .i64 b.kind, .string (str b.key), .string (str b.val)] t)).alloc (.cells #[.int .i64 c.kind, .string (str c.key), .string (str c.val)] t)
    TripAt W w.heap.size t a ∧ TripAt W (w.heap.size + 1) t b ∧ TripAt W (w.heap.size + 1 + 1) t c ∧ Step noF w W := by
  refine ⟨((trip_new w t a).alloc _).alloc _, ?_, ?_, ((((Step.refl noF w).alloc _).alloc _).alloc _)⟩
  · have h := (trip_new (w.alloc (.cells #[.int .i64 a.kind, .string (str a.key), .string (str a.val)] t)) t b).alloc (.cells #[.int .i64 c.kind, .string (str c.key), .string (str c.val)] t)
    rw [World.size_alloc] at h
    exact h
  · have h := trip_new ((w.alloc (.cells #[.int .i64 a.kind, .string (str a.key), .string (str a.val)] t)).alloc (.cells #[.int .i64 b.kind, .string (str b.key), .string (str b.val)] t)) t c
    rw [World.size_alloc, World.size_alloc] at h
    exact h
theorem trip2 (w : World) (t : TypeId) (a b : Mg) : let W := (w.alloc (.cells #[.int .i64 a.kind, .string (str a.key), .string (str a.val)] t)).alloc (.cells #[.int .i64 b.kind, .string (str b.key), .string (str b.val)] t)
    TripAt W w.heap.size t a ∧ TripAt W (w.heap.size + 1) t b ∧ Step noF w W := by
  refine ⟨(trip_new w t a).alloc _, ?_, (((Step.refl noF w).alloc _).alloc _)⟩
  have h := trip_new (w.alloc (.cells #[.int .i64 a.kind, .string (str a.key), .string (str a.val)] t)) t b
  rw [World.size_alloc] at h
  exact h
/-- Behind a store of its key. -/
theorem TripAt.key1 {w : World} {g : Nat} {t : TypeId} {m : Mg} (h : TripAt w g t m) (x : List UInt8) : TripAt (w.setCell ⟨g, 1, none⟩ (.string (str x))) g t ⟨m.kind, x, m.val⟩ := by
  have h1 := block_setCell h 1 (.string (str x))
  simpa [TripAt] using h1
theorem TripAt.other1 {w : World} {g q : Nat} {t : TypeId} {m : Mg} (h : TripAt w g t m) (hq : q ≠ g) (j : Nat) (x : Value) : TripAt (w.setCell ⟨q, j, none⟩ x) g t m := by
  show _ = _
  rw [Below.heap_setCell _ _ _ _ (fun e => hq e.symm)]
  exact h
theorem Mg.val_le {m : Mg} (h : m.is = true) : m.val.length ≤ 16 := by
  rcases Mg.cases h with ⟨_, h⟩ | ⟨_, h⟩ | ⟨_, h⟩
  · exact h
  · rw [h]; simp
  · omega
theorem Mg.key_le {m : Mg} (h : m.is = true) : m.key.length ≤ 8 := by
  have := ((is_iff m).1 h).1
  simp [isK] at this
  exact this.2
theorem Mg.val_max {m : Mg} (h : m.is = true) : m.val.length ≤ maxLen := by
  have := Mg.val_le h
  unfold maxLen
  omega
end Go.Proofs.YtnalillebemglaaGreat
namespace Go.Proofs.YtnalillebemglaaGreat
open Go.RowKit
set_option linter.unusedVariables false

/-- A row of messages, none of it in F. -/
def MsgsAt (w : World) (F : Nat → Prop) (a : Option Addr) (ms : List Mg) : Prop :=
  ms = [] ∨ ∃ b off, a = some ⟨b, off, none⟩ ∧ ¬ F b ∧ b < w.heap.size ∧ ∀ j (h : j < ms.length), w.cell? ⟨b, off + j * 3, none⟩ = some (.int .i64 ms[j].kind) ∧ w.cell? ⟨b, off + j * 3 + 1, none⟩ = some (.string (str ms[j].key)) ∧ w.cell? ⟨b, off + j * 3 + 2, none⟩ = some (.string (str ms[j].val))
theorem MsgsAt.step {w w' : World} {F G : Nat → Prop} {a : Option Addr} {ms : List Mg} (h : MsgsAt w F a ms) (hs : Step G w w') (hG : ∀ k, G k → F k) : MsgsAt w' F a ms := by
  rcases h with h | ⟨b, off, rfl, hF, hb, h⟩
  · exact .inl h
  · refine .inr ⟨b, off, rfl, hF, Nat.lt_of_lt_of_le hb hs.size, fun j hj => ?_⟩
    obtain ⟨h1, h2, h3⟩ := h j hj
    have k : ∀ q, w'.cell? ⟨b, q, none⟩ = w.cell? ⟨b, q, none⟩ := fun q => hs.cell (p := ⟨b, q, none⟩) (fun x => hF (hG _ x)) hb
    exact ⟨(k _).trans h1, (k _).trans h2, (k _).trans h3⟩
/-- Another footprint, whose blocks are those of the first or new. -/
theorem MsgsAt.foot {w : World} {F G : Nat → Prop} {a : Option Addr} {ms : List Mg} (h : MsgsAt w F a ms) (hG : ∀ k, k < w.heap.size → G k → F k) : MsgsAt w G a ms := by
  rcases h with h | ⟨b, off, rfl, hF, hb, h⟩
  · exact .inl h
  · exact .inr ⟨b, off, rfl, fun x => hF (hG b hb x), hb, h⟩
theorem MsgsAt.at {w : World} {F : Nat → Prop} {a : Option Addr} {ms : List Mg} (h : MsgsAt w F a ms) (j : Nat) (hj : j < ms.length) : ∃ b off, a = some ⟨b, off, none⟩ ∧ w.cell? ⟨b, off + j * 3, none⟩ = some (.int .i64 ms[j].kind) ∧ w.cell? ⟨b, off + j * 3 + 1, none⟩ = some (.string (str ms[j].key)) ∧ w.cell? ⟨b, off + j * 3 + 2, none⟩ = some (.string (str ms[j].val)) := by
  rcases h with rfl | ⟨b, off, rfl, hF, hb, h⟩
  · simp at hj
  · exact ⟨b, off, rfl, h j hj⟩
theorem MsgsAt.at2 {w : World} {F : Nat → Prop} {a : Option Addr} {ms : List Mg} (h : MsgsAt w F a ms) (j : Nat) (hj : j < ms.length) : ∃ b off, a = some ⟨b, off, none⟩ ∧ ¬ F b ∧ b < w.heap.size ∧ w.cell? ⟨b, off + j * 3, none⟩ = some (.int .i64 ms[j].kind) ∧ w.cell? ⟨b, off + j * 3 + 1, none⟩ = some (.string (str ms[j].key)) ∧ w.cell? ⟨b, off + j * 3 + 2, none⟩ = some (.string (str ms[j].val)) := by
  rcases h with rfl | ⟨b, off, rfl, hF, hb, h⟩
  · simp at hj
  · exact ⟨b, off, rfl, hF, hb, h j hj⟩
end Go.Proofs.YtnalillebemglaaGreat
