/-
  What the document's own answers do (package grangerref02), and the law's 'digits'.
-/
import Derived.Test.YthdcmobnookhdaaDoorCrcC
namespace Go.Proofs.YthdcmobnookhdaaDoor
open Go.RowKit
set_option linter.unusedVariables false

theorem shn_succ' (k r : Nat) : shn (k + 1) r = sh (shn k r) := by rw [shn_add k 1 r]; rfl

set_option maxHeartbeats 1000000 in
theorem refStep_any (r b : Nat) (hr : r < 4294967296) (hb : b < 256) (w : World) :
    Calls Tryd.prog 33 #[.int .u32 r, .int .u8 b] w fun e w' => e = .returned (.int .u32 ((stepN r b : Nat) : Int)) ∧ w = w' := by
  obtain ⟨t, ht⟩ : ∃ t, r ^^^ b = t := ⟨_, rfl⟩
  have htl : t < 4294967296 := by rw [← ht]; exact xor_lt32 hr (by omega)
  have e0 : bits .xor .u32 (r : Int) (b : Int) = (t : Int) := by rw [u32_xor_nat _ _ hr (by omega), ht]
  have HZ : Hid (stepN r b = shn 8 t) := by show _ = _; unfold stepN; rw [ht]
  clear ht
  go_enter Tryd.func33, Tryd.ntmps33
  go_wp2
  go_loopw [0, 5] (fun x i wr => ∃ j : Nat, j ≤ 8 ∧ i = .int .i64 j ∧ x = .int .u32 ((shn j t : Nat) : Int) ∧ wr = w) (fun _ i _ => 8 - (intOf i).toNat)
  case atStart => exact ⟨0, by omega, rfl, rfl, rfl⟩
  case round =>
    obtain ⟨j, hj, rfl, rfl, rfl⟩ := hrel
    by_cases hlt : j < 8
    · obtain ⟨R, hR⟩ : ∃ R, shn j t = R := ⟨_, rfl⟩
      have hRl : R < 4294967296 := by rw [← hR]; exact shn_lt _ _ htl
      have HS : Hid (shn (j + 1) t = sh R) := by show _ = _; rw [shn_succ', hR]
      rw [hR]
      clear hR
      by_cases hp : R % 2 = 1
      · obtain ⟨q, hq⟩ : ∃ q, R / 2 ^^^ 2197175160 = q := ⟨_, rfl⟩
        have e1 : bits .xor .u32 ((R : Int) / 2) 2197175160 = (q : Int) := by rw [← hq, show ((R : Int) / 2) = ((R / 2 : Nat) : Int) by omega]; exact u32_xor_nat _ 2197175160 (by omega) (by decide)
        have HQ : Hid (shn (j + 1) t = q) := by show _ = _; rw [HS.out, ← hq]; unfold sh; rw [if_pos hp]
        have hp2 : ((R : Int) % 2 == 1) = true := by simp; omega
        clear hq HS
        go_wp2
        go_roundw
        case rel => exact ⟨j + 1, by omega, by go_num, int_eq (by rw [HQ.out]), by first | trivial | rfl⟩
        case measure => simp [intOf]; omega
      · have HQ : Hid (shn (j + 1) t = R / 2) := by show _ = _; rw [HS.out]; unfold sh; rw [if_neg hp]
        have hp2 : ((R : Int) % 2 == 1) = false := by simp; omega
        clear HS
        go_wp2
        go_roundw
        case rel => exact ⟨j + 1, by omega, by go_num, int_eq (by rw [HQ.out]; simp), by first | trivial | rfl⟩
        case measure => simp [intOf]; omega
    · obtain rfl : j = 8 := by omega
      go_wp2
      go_ret
      exact ⟨ret_int (by rw [HZ.out]), rfl⟩

set_option maxHeartbeats 1000000 in
theorem refSum_any (s : ByteArray) (hs : s.size ≤ 9223372036854775807) (w : World) :
    Calls Tryd.prog 19 #[.string s] w fun e w' => e = .returned (.int .u32 ((moreN 0 s.data.toList : Nat) : Int)) ∧ w = w' := by
  go_enter Tryd.func19, Tryd.ntmps19
  go_wp2
  go_loopw [3, 4] (fun x i wr => ∃ j : Nat, j ≤ s.size ∧ i = .int .i64 j ∧ x = .int .u32 ((crcRun 4294967295 (s.data.toList.take j) : Nat) : Int) ∧ wr = w) (fun _ i _ => s.size - (intOf i).toNat)
  case atStart => exact ⟨0, Nat.zero_le _, rfl, rfl, rfl⟩
  case round =>
    obtain ⟨j, hj, rfl, rfl, rfl⟩ := hrel
    obtain ⟨R, hR⟩ : ∃ R, crcRun 4294967295 (s.data.toList.take j) = R := ⟨_, rfl⟩
    have hRl : R < 4294967296 := by rw [← hR]; exact crcRun_lt _ _ (by decide)
    by_cases hlt : j < s.size
    · have hb : s[j].toNat < 256 := s[j].toNat_lt
      have HS : Hid (crcRun 4294967295 (s.data.toList.take (j + 1)) = stepN R s[j].toNat) := by
        show _ = _
        have h2 : j < s.data.toList.length := by rw [list_len]; exact hlt
        rw [List.take_succ_eq_append_getElem h2, crcRun_append, hR]
        rfl
      have HD := refStep_any R s[j].toNat hRl hb
      rw [hR]
      clear hR
      go_wp2_with (go_at_call 33; refine (HD _).mono ?_; rintro e w1 ⟨rfl, rfl⟩)
      go_roundw
      case rel => exact ⟨j + 1, by omega, by go_num, int_eq (by rw [HS.out]), by first | trivial | rfl⟩
      case measure => simp [intOf]; omega
    · obtain ⟨z, hz⟩ : ∃ z, R ^^^ 4294967295 = z := ⟨_, rfl⟩
      have e1 : bits .xor .u32 (R : Int) 4294967295 = (z : Int) := by rw [← hz]; exact u32_xor_nat R 4294967295 hRl (by decide)
      have HS : Hid (z = moreN 0 s.data.toList) := by
        show _ = _
        rw [← hz, ← hR, List.take_of_length_le (by rw [list_len]; omega), Nat.xor_comm]
        rfl
      rw [hR]
      clear hR hz
      go_wp2
      go_ret
      exact ⟨ret_int (by rw [HS.out]), rfl⟩
theorem refSum_call (s : ByteArray) (hs : s.size ≤ 9223372036854775807) (w : World) (z : Nat) (hz : moreN 0 s.data.toList = z) :
    Calls Tryd.prog 19 #[.string s] w fun e w' => e = .returned (.int .u32 (z : Int)) ∧ w = w' := by
  subst hz
  exact refSum_any s hs w

theorem extract_digit (d : Nat) (h : d < 16) : ({ data := #[48, 49, 50, 51, 52, 53, 54, 55, 56, 57, 97, 98, 99, 100, 101, 102] } : ByteArray).extract d (d + 1) = str [hexd d] := by
  have h1 : ({ data := #[48, 49, 50, 51, 52, 53, 54, 55, 56, 57, 97, 98, 99, 100, 101, 102] } : ByteArray) = str [48, 49, 50, 51, 52, 53, 54, 55, 56, 57, 97, 98, 99, 100, 101, 102] := rfl
  rw [h1, str_extract]
  congr 1
  have h2 : (List.range 16).all (fun d => (([48, 49, 50, 51, 52, 53, 54, 55, 56, 57, 97, 98, 99, 100, 101, 102] : List UInt8).take (d + 1)).drop d == [hexd d]) = true := by decide
  simpa using List.all_eq_true.1 h2 d (List.mem_range.2 h)

def dB (b : Nat) : Bool := (dv b).isSome
theorem dB_lo {b : Nat} (h1 : 48 ≤ b) (h2 : b ≤ 57) : dB b = true := by unfold dB dv; rw [if_pos ⟨h1, h2⟩]; rfl
theorem dB_hi {b : Nat} (h1 : 97 ≤ b) (h2 : b ≤ 102) : dB b = true := by unfold dB dv; rw [if_neg (by omega), if_pos ⟨h1, h2⟩]; rfl
theorem dB_no {b : Nat} (h1 : ¬ (48 ≤ b ∧ b ≤ 57)) (h2 : ¬ (97 ≤ b ∧ b ≤ 102)) : dB b = false := by unfold dB dv; rw [if_neg h1, if_neg h2]; rfl

theorem all_next (s : ByteArray) (f : UInt8 → Bool) (j : Nat) (h : j < s.size) (ha : (s.data.toList.take j).all f = true) (hb : f s[j] = true) : (s.data.toList.take (j + 1)).all f = true := by
  have h2 : j < s.data.toList.length := by rw [list_len]; exact h
  rw [List.take_succ_eq_append_getElem h2, List.all_append, ha, Bool.true_and, List.all_cons, List.all_nil, Bool.and_true]
  exact hb
theorem all_not (s : ByteArray) (f : UInt8 → Bool) (j : Nat) (h : j < s.size) (hb : f s[j] = false) : s.data.toList.all f = false := by
  have h2 : j < s.data.toList.length := by rw [list_len]; exact h
  rw [List.all_eq_false]
  refine ⟨s.data.toList[j], List.getElem_mem h2, ?_⟩
  rw [show s.data.toList[j] = s[j] from rfl, hb]
  decide

end Go.Proofs.YthdcmobnookhdaaDoor
