/-
  What Number and Value do, of the program and of the reference.
-/
import Derived.Test.YtclaagihmpghnaaKeyF
import Derived.Test.YtclaagihmpghnaaPenCalls
import Derived.Test.YtclaagihmpghnaaPenMath
namespace Go.Proofs.Ytclaagihmpghnaa
open Go.RowKit
set_option linter.unusedVariables false
set_option linter.unusedSimpArgs false

/-- A value's number. -/
def numOf (l : List UInt8) : Nat := if l.length = 8 then beN l else 0
def numV2 (l : List UInt8) : Value := .tuple #[.int .u64 (numOf l : Int), .bool (decide (l.length = 8))]
theorem num4 (l : List UInt8) (e : Int) : numVal 4 l = (beN (rawV 4 l) : Int) ∧ numL 4 l = rawL 4 l ∧ numE 4 l e = rawE 4 l e := by
  have hb : beN (rawV 4 l) ≤ 9223372036854775807 := by
    have h1 := beN_lt (rawV 4 l)
    have h2 : (rawV 4 l).length ≤ 4 := by unfold rawV; split <;> simp; omega
    have h3 : 256 ^ (rawV 4 l).length ≤ 256 ^ 4 := Nat.pow_le_pow_right (by omega) h2
    omega
  have hok : numOk 4 l = true := by unfold numOk; simp [isW, hb]
  exact ⟨by rw [numVal, if_pos hok], by rw [numL, if_pos hok], by rw [numE, if_pos hok]⟩
theorem beN_from (b : List UInt8) : ∀ x : Nat, b.foldl (fun a b => a * 256 + b.toNat) x = x * 256 ^ b.length + beN b := by
  induction b with
  | nil => intro x; simp [beN]
  | cons c b ih =>
    intro x
    have h := ih c.toNat
    have e : beN (c :: b) = b.foldl (fun a b => a * 256 + b.toNat) c.toNat := by simp [beN]
    rw [List.foldl_cons, ih, e, h, List.length_cons, Nat.pow_succ, Nat.add_mul, Nat.mul_assoc, Nat.mul_comm 256, Nat.add_assoc]
theorem beN_append (a b : List UInt8) : beN (a ++ b) = beN a * 256 ^ b.length + beN b := by
  rw [← beN_from]
  simp [beN]

theorem or_half (a b : Nat) (ha : a < 4294967296) (hb : b < 4294967296) : bits .or .u64 ((a : Int) * 4294967296) (b : Int) = ((a * 4294967296 + b : Nat) : Int) := by
  have e : ((a : Int) * 4294967296) = ((a * 4294967296 : Nat) : Int) := by omega
  rw [e, u64_or_nat (a * 4294967296) b (by omega) (by omega)]
  have := Nat.two_pow_add_eq_or_of_lt (b := b) (i := 32) (by omega) a
  rw [show a * 4294967296 = 2 ^ 32 * a by omega, ← this]

theorem ret_nb {l : List UInt8} {a c : Int} {b : Bool} (h : numV2 l = .tuple #[.int .u64 a, .bool b]) (hc : a = c) : Ending.returned (.tuple #[.int .u64 c, .bool b]) = .returned (numV2 l) := by rw [h, hc]

set_option maxHeartbeats 1000000 in
theorem keyNumber_any (l : List UInt8) (hl : l.length ≤ maxLen) (w : World) : Calls Try.prog 79 #[.string (str l)] w fun e w' => e = .returned (numV2 l) ∧ Step noF w w' := by
  obtain ⟨a1, a2, a3⟩ := num4 l 0
  obtain ⟨b1, b2, b3⟩ := num4 (rawL 4 l) (rawE 4 l 0)
  by_cases h8 : l.length = 8
  · have r1 : rawV 4 l = l.take 4 := by rw [rawV, if_pos (by omega)]; rfl
    have r2 : rawL 4 l = l.drop 4 := by rw [rawL, if_pos (by omega)]; rfl
    have r3 : rawE 4 l 0 = 0 := by rw [rawE, if_pos (by omega)]
    rw [r2] at b1 b2 b3
    rw [r3] at b3
    have hd : (l.drop 4).length = 4 := by rw [List.length_drop]; omega
    have s1 : rawV 4 (l.drop 4) = l.drop 4 := by rw [rawV, if_pos (by omega)]; exact List.take_of_length_le (by omega)
    have s2 : rawL 4 (l.drop 4) = [] := by rw [rawL, if_pos (by omega)]; exact List.drop_of_length_le (by omega)
    have s3 : rawE 4 (l.drop 4) 0 = 0 := by rw [rawE, if_pos (by omega)]
    rw [s1] at b1
    rw [s2] at b2
    rw [s3] at b3
    rw [r1] at a1
    rw [r2] at a2
    rw [r3] at a3
    have n1 := beN_lt (l.take 4)
    have n2 := beN_lt (l.drop 4)
    rw [hd] at n2
    rw [List.length_take, Nat.min_eq_left (by omega)] at n1
    have HN : Hid (numV2 l = .tuple #[.int .u64 ((beN (l.take 4) * 4294967296 + beN (l.drop 4) : Nat) : Int), .bool true]) := by
      show _ = _
      have e : beN l = beN (l.take 4) * 4294967296 + beN (l.drop 4) := by
        conv => lhs; rw [← List.take_append_drop 4 l, beN_append, hd]
      rw [numV2, numOf, if_pos h8, e]
      simp [h8]
    obtain ⟨hi, hhi⟩ : ∃ hi, beN (l.take 4) = hi := ⟨_, rfl⟩
    obtain ⟨lo, hlo⟩ : ∃ lo, beN (l.drop 4) = lo := ⟨_, rfl⟩
    rw [hhi] at HN n1 a1
    rw [hlo] at HN n2 b1
    have HA := hid (And.intro a1 (And.intro a2 a3))
    have HB := hid (And.intro b1 (And.intro b2 b3))
    have HL := hid hl
    have hd2 : Hid ((l.drop 4).length ≤ maxLen) := by show _ ≤ _; rw [hd]; decide
    have ho : bits .or .u64 ((hi : Int) * 4294967296) (lo : Int) = ((hi * 4294967296 + lo : Nat) : Int) := or_half hi lo (by omega) (by omega)
    have hx : (hi : Int) < 4294967296 := by omega
    have hy : (lo : Int) < 4294967296 := by omega
    clear r1 r2 r3 hd s1 s2 s3 a1 a2 a3 b1 b2 b3 hhi hlo n1 n2 hl h8
    go_enter Try.func79, Try.ntmps79
    go_wp2_with fail
    refine (of_any l w).mono ?_
    rintro e w1 ⟨rfl, s1, i1, z1⟩
    have I1 := hid i1
    have Z1 := hid z1
    clear i1 z1
    go_wp2_with fail
    refine (inNum_call 4 w.heap.size l 0 _ I1.out HL.out hi (l.drop 4) 0 HA.out.1 HA.out.2.1 HA.out.2.2).mono ?_
    rintro e w2 ⟨rfl, s2, i2⟩
    have I2 := hid i2
    clear i2
    go_wp2_with fail
    refine (inNum_call 4 w.heap.size (l.drop 4) 0 _ I2.out hd2.out lo [] 0 HB.out.1 HB.out.2.1 HB.out.2.2).mono ?_
    rintro e w3 ⟨rfl, s3, i3⟩
    have I3 := hid i3
    clear i3
    go_wp2_with fail
    refine (end_call w.heap.size [] 0 _ I3.out 0 rfl).mono ?_
    rintro e w4 ⟨rfl, rfl⟩
    go_wp2_with fail
    go_ret2
    exact ⟨ret_nb HN.out (by omega), (s1.then s2 (fun i hi => .inr (by cases hi; exact Nat.le_refl _))).then s3 (fun i hi => .inr (by cases hi; exact Nat.le_refl _))⟩
  · have HE : Hid (endE (numL 4 (numL 4 l)) (numE 4 (numL 4 l) (numE 4 l 0)) = 5) := by
      show _ = _
      rw [a2, a3, b2, b3]
      by_cases h4 : 4 ≤ l.length
      · have r2 : rawL 4 l = l.drop 4 := by rw [rawL, if_pos (by omega)]; rfl
        have r3 : rawE 4 l 0 = 0 := by rw [rawE, if_pos (by omega)]
        rw [r2, r3]
        have hd : (l.drop 4).length = l.length - 4 := by rw [List.length_drop]
        by_cases h9 : 8 ≤ l.length
        · have s2 : rawL 4 (l.drop 4) = (l.drop 4).drop 4 := by rw [rawL, if_pos (by omega)]; rfl
          rw [s2, endE, if_neg (by rw [List.length_drop]; omega)]
        · have s2 : rawL 4 (l.drop 4) = [] := by rw [rawL, if_neg (by omega)]
          have s3 : rawE 4 (l.drop 4) 0 = 5 := by rw [rawE, if_neg (by omega)]
          rw [s2, s3]
          rfl
      · have r2 : rawL 4 l = [] := by rw [rawL, if_neg (by omega)]
        have r3 : rawE 4 l 0 = 5 := by rw [rawE, if_neg (by omega)]
        rw [r2, r3]
        rfl
    have HL := hid hl
    have HL2 : Hid ((numL 4 l).length ≤ maxLen) := Nat.le_trans (numL_len 4 l) hl
    have HN : Hid (numV2 l = .tuple #[.int .u64 0, .bool false]) := by
      show _ = _
      rw [numV2, numOf, if_neg h8]
      simp [h8]
    clear a1 a2 a3 b1 b2 b3 hl h8
    obtain ⟨L1, hL1⟩ : ∃ L1, numL 4 l = L1 := ⟨_, rfl⟩
    obtain ⟨E1, hE1⟩ : ∃ E1, numE 4 l 0 = E1 := ⟨_, rfl⟩
    obtain ⟨X1, hX1⟩ : ∃ X1, numVal 4 l = X1 := ⟨_, rfl⟩
    rw [hL1] at HE HL2
    rw [hE1] at HE
    obtain ⟨L2, hL2⟩ : ∃ L2, numL 4 L1 = L2 := ⟨_, rfl⟩
    obtain ⟨E2, hE2⟩ : ∃ E2, numE 4 L1 E1 = E2 := ⟨_, rfl⟩
    obtain ⟨X2, hX2⟩ : ∃ X2, numVal 4 L1 = X2 := ⟨_, rfl⟩
    rw [hL2, hE2] at HE
    have K1 := hid (And.intro hX1 (And.intro hL1 hE1))
    have K2 := hid (And.intro hX2 (And.intro hL2 hE2))
    clear hL1 hE1 hX1 hL2 hE2 hX2
    go_enter Try.func79, Try.ntmps79
    go_wp2_with fail
    refine (of_any l w).mono ?_
    rintro e w1 ⟨rfl, s1, i1, z1⟩
    have I1 := hid i1
    have Z1 := hid z1
    clear i1 z1
    go_wp2_with fail
    refine (inNum_call 4 w.heap.size l 0 _ I1.out HL.out X1 L1 E1 K1.out.1 K1.out.2.1 K1.out.2.2).mono ?_
    rintro e w2 ⟨rfl, s2, i2⟩
    have I2 := hid i2
    clear i2
    go_wp2_with fail
    refine (inNum_call 4 w.heap.size L1 E1 _ I2.out HL2.out X2 L2 E2 K2.out.1 K2.out.2.1 K2.out.2.2).mono ?_
    rintro e w3 ⟨rfl, s3, i3⟩
    have I3 := hid i3
    clear i3
    go_wp2_with fail
    refine (end_call w.heap.size L2 E2 _ I3.out 5 HE.out).mono ?_
    rintro e w4 ⟨rfl, rfl⟩
    go_wp2_with fail
    go_ret2
    exact ⟨ret_nb HN.out rfl, (s1.then s2 (fun i hi => .inr (by cases hi; exact Nat.le_refl _))).then s3 (fun i hi => .inr (by cases hi; exact Nat.le_refl _))⟩
set_option maxHeartbeats 1000000 in
theorem refNumber_any (l : List UInt8) (w : World) : Calls Try.prog 97 #[.string (str l)] w fun e w' => e = .returned (numV2 l) ∧ w = w' := by
  have hz := str_size
  by_cases h8 : l.length = 8
  · have HN : Hid (numV2 l = .tuple #[.int .u64 (beN l : Int), .bool true]) := by
      show _ = _
      rw [numV2, numOf, if_pos h8]
      simp [h8]
    go_enter Try.func97, Try.ntmps97
    go_wp2_with fail
    go_loopw [4, 5] (fun n i wr => ∃ j : Nat, j ≤ 8 ∧ i = .int .i64 j ∧ n = .int .u64 (beN (l.take j) : Int) ∧ w = wr) (fun _ i _ => 8 - (intOf i).toNat)
    case atStart => exact ⟨0, Nat.zero_le _, rfl, rfl, rfl⟩
    case round =>
      obtain ⟨j, hj, rfl, rfl, rfl⟩ := hrel
      clear hz
      by_cases hj8 : j < 8
      · have hji : (j : Int) < 8 := by omega
        have hjl : j < l.length := by omega
        have hT : Hid (beN (l.take (j + 1)) = beN (l.take j) * 256 + l[j].toNat) := by show _ = _; rw [List.take_succ_eq_append_getElem hjl, beN_snoc]
        have hb : beN (l.take j) < 72057594037927936 := by
          have h1 := beN_lt (l.take j)
          have h2 : 256 ^ (l.take j).length ≤ 256 ^ 7 := Nat.pow_le_pow_right (by omega) (by rw [List.length_take]; omega)
          omega
        have hb2 := UInt8.toNat_lt l[j]
        have hix : ∀ wx : World, (Instr.index 9 (.string (str l)) (.int .i64 (j : Int))).run Try.prog wx = .ok (.int .u8 (l[j].toNat : Int)) wx := fun wx => run_index_str _ Try.underlying9 l j hjl wx
        obtain ⟨x, hx⟩ : ∃ x, l[j].toNat = x := ⟨_, rfl⟩
        obtain ⟨y, hy⟩ : ∃ y, beN (l.take j) = y := ⟨_, rfl⟩
        rw [hx] at hb2 hix hT
        rw [hy] at hb hT ⊢
        clear hx hy hjl h8
        go_wp2_with fail
        go_roundw
        case rel => exact ⟨j + 1, by omega, int_eq (by omega), int_eq (by rw [hT.out]; omega), by first | trivial | rfl⟩
        case measure => simp [intOf]; omega
      · obtain rfl : j = 8 := by omega
        rw [List.take_of_length_le (by omega)]
        go_wp2_with fail
        go_ret2
        exact ⟨ret_nb HN.out rfl, rfl⟩
  · have HN : Hid (numV2 l = .tuple #[.int .u64 0, .bool false]) := by
      show _ = _
      rw [numV2, numOf, if_neg h8]
      simp [h8]
    have h9 : ((l.length : Int) == 8) = false := by rw [beq_eq_false_iff_ne]; omega
    go_enter Try.func97, Try.ntmps97
    go_wp2_with fail
    go_ret2
    exact ⟨ret_nb HN.out rfl, rfl⟩
end Go.Proofs.Ytclaagihmpghnaa
